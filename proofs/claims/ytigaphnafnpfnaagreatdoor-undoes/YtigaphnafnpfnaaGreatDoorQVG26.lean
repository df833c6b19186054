import Derived.Test.YtigaphnafnpfnaaGreatDoorQVG2
import Derived.Deep.Slices
import Derived.ProofKit
import Derived.LaidSub
import Derived.Lay
import Derived.Stop.Joined
import Derived.JoinedCond
import Derived.Lib.LaidTab
set_option linter.unusedVariables false
set_option linter.unusedSimpArgs false
set_option maxHeartbeats 8000000
set_option maxRecDepth 100000
namespace Go.Proofs.YtigaphnafnpfnaaGreatDoor
open Go.RowKit Go.Maps
attribute [local go_sem ↓] Go.wp_at_zero Go.wp_at_succ
theorem zF.ax{a w w':World}{b N:Nat}(h:zF a b N w)(k:aj aA w w'):zF a b N w':=by
 obtain⟨d,c,pv,g,e,f⟩:=h;exact⟨d,c,pv,g,e.ax k,f⟩
theorem zF.mono{b w:World}{c N a:Nat}(h:zF b c N w)(i:N<=a):zF b c a w:=by
 obtain⟨e,d,pv,j,f,g⟩:=h;exact⟨e,d,pv,j,f.mono i,g⟩
theorem zF.jW{a w:World}{c N:Nat}(h:zF a c N w):aj aA a w:=by
 obtain⟨e,d,pv,g,b,f⟩:=h;exact b.jW
theorem zF.step{b w:World}{a N:Nat}(h:zF b a N w)(f:N<2000000)(o:kQ)(i:o.kind<=13)(g:qC o) :
 CT 32 #[PP a,o.val] w fun e w'=>e=.returned (.bool true)/\zF b a (N+1) w':=by
 obtain⟨k,j,pv,l,c,d⟩:=h;exact Q4 c d f o i g
theorem zF.looks{c w:World}{b N:Nat}(h:zF c b N w)(j:N<=2000000):CT 33 #[PP b] w fun e w'=>e=.returned (.bool true)/\zF c b N w':=by
 have h0:=h;obtain⟨g,d,pv,f,a,i⟩:=h;refine (Ov b pv f d w a.ay a.jJ a.QE (by have:=a.hl;omega)).mono ?_;rintro e w' ⟨rfl,k⟩;exact⟨rfl,h0.ax k⟩
theorem PG.first{w:World}(d:qj w):PG w (w.alloc (.cells #[.slice none 0 0,.slice none 0 0] 78)) w.heap.size [] [] (.slice none 0 0) (.slice none 0 0) 0:=by
 refine⟨au.new _ _ _,World.ownsRow_nil _ _ _ _,World.ownsRow_nil _ _ _ _,fun x a=>by simp at a,List.Pairwise.nil,fun x a=>by simp at a,fun x a=>by simp at a,fun x a=>by simp at a,⟨Nat.le_refl _,fun b c=>by simp[Value.ownBlock]at c,fun b c=>by simp[Value.ownBlock]at c⟩,(aj.refl aA w).alloc _,d,Nat.zero_le _,Nat.zero_le _⟩
def Eg(w:World)(a0:Option Addr)(n:Nat)(op:Nat->kQ):Prop:=∀i,i<n->qC (op i)/\∃b off,a0=some ⟨b,off,none⟩/\∀j u,(op i).cells[j]?=some u->w.cell? ⟨b,off+i * 13+j,none⟩=some u
theorem X0:qC ⟨2,0,0,0,0,⟨#[65]⟩,⟨0,0,⟨#[]⟩,0,0,0,0⟩⟩:=⟨by unfold dM;simp,by unfold dM;simp,by unfold dM;simp,by unfold dM;simp,by unfold dM;simp,by unfold dM;simp,by show (1:Nat)<=_;omega,by show (0:Nat)<=_;omega⟩
theorem X3:qC ⟨3,0,0,0,0,⟨#[]⟩,⟨1000,0,⟨#[65]⟩,1,0,100,5⟩⟩:=⟨by unfold dM;simp,by unfold dM;simp,by unfold dM;simp,by unfold dM;simp,by unfold dM;simp,by unfold dM;simp,by show (0:Nat)<=_;omega,by show (1:Nat)<=_;omega⟩
theorem X4:qC ⟨6,0,1000,0,0,⟨#[]⟩,⟨0,0,⟨#[]⟩,0,0,0,0⟩⟩:=⟨by unfold dM;simp,by unfold dM;simp,by unfold dM;simp,by unfold dM;simp,by unfold dM;simp,by unfold dM;simp,by show (0:Nat)<=_;omega,by show (0:Nat)<=_;omega⟩
theorem OI(a0:Option Addr)(n cap:Nat)(lo hi q:Int)(hmo:q<=13)(M:Nat->kQ)(w:World)(J:qj w)(hn:n<=1048576)(hs:Eg w a0 n M) :
 CT 13 #[.slice a0 n cap,II lo,II hi,II q] w fun e w'=>e=.returned (.bool true)/\aj aA w w':=by
 obtain⟨u,HS⟩:=aZ (PG.first J) hs;clear J hs;go_enter Tryz.func13,Tryz.ntmps13;go_wp2_with fail;refine (Dc (ae u) (by omega)).mono ?_;rintro e w1 ⟨rfl,C⟩;have v:=ai C;clear C u;go_wp2_with fail;refine (((ae v).step (by omega) _ (by simp) X0)).mono ?_;rintro e w2 ⟨rfl,D⟩;have x:=ai D;clear D v;go_wp2_with fail;refine (((ae x).step (by omega) _ (by simp) X3)).mono ?_;rintro e w3 ⟨rfl,E⟩;have y:=ai E;clear E x;go_wp2_with fail;refine (((ae y).step (by omega) _ (by simp) X4)).mono ?_;rintro e w4 ⟨rfl,F⟩;have N:=ai F;clear F y;go_wp2;go_loopg [10,14,15,16] n (fun k okv iv pv lv wr=>∃i:Nat,okv=.bool true/\iv=II (i:Int)/\i<=n/\k=n-i/\zF w w.heap.size (4+i) wr)
 case atStart=>exact⟨0,rfl,rfl,Nat.zero_le _,rfl,(ae N)⟩
 case round =>
  obtain⟨i,rfl,rfl,hi2,hgk,j⟩:=hrel;by_cases hlt:i<n
  ·obtain⟨I,b,off,rfl,d⟩:=ae HS i hlt;have f:=j.jW;obtain⟨A,l⟩:=aZ I j;obtain⟨o,K⟩:=dQ (M i);rw[K]at d A;obtain⟨g,m,a,p,c,s,⟨id,t,sym,side,r,af,az⟩⟩:=o;have B:CC wr b (off+i * 13) (II g):=f.cell (d 0 _ rfl) idd;have P:CC wr b (off+i * 13+1) (II m):=f.cell (d 1 _ rfl) idd;have T:CC wr b (off+i * 13+2) (II a):=f.cell (d 2 _ rfl) idd;have U:CC wr b (off+i * 13+3) (II p):=f.cell (d 3 _ rfl) idd;have V:CC wr b (off+i * 13+4) (II c):=f.cell (d 4 _ rfl) idd;have W:CC wr b (off+i * 13+5) (.string s):=f.cell (d 5 _ rfl) idd;have X:CC wr b (off+i * 13+6) (II id):=f.cell (d 6 _ rfl) idd;have Y:CC wr b (off+i * 13+7) (II t):=f.cell (d 7 _ rfl) idd;have Z:CC wr b (off+i * 13+8) (.string sym):=f.cell (d 8 _ rfl) idd;have g9:CC wr b (off+i * 13+9) (II side):=f.cell (d 9 _ rfl) idd;have Q:CC wr b (off+i * 13+10) (II r):=f.cell (d 10 _ rfl) idd;have R:CC wr b (off+i * 13+11) (II af):=f.cell (d 11 _ rfl) idd;have S:CC wr b (off+i * 13+12) (II az):=f.cell (d 12 _ rfl) idd;have lb:b<wr.heap.size:=World.block_lt_of_cell? wr _ B;clear d f j I K;by_cases hk7:g<=q
   ·go_wp2_with fail;have L:=(ae l).ax ((aj.refl aA wr).alloc (.cells #[II g,II m,II a,II p,II c,.string s,II id,II t,.string sym,II side,II r,II af,II az] 81));refine (L.step (by omega) ⟨g,m,a,p,c,s,⟨id,t,sym,side,r,af,az⟩⟩ (by show g<=13;omega) (ae A)).mono ?_;rintro e w5 ⟨rfl,G⟩;have z:=ai G;clear G L l B P T U V W X Y Z g9 Q R S;go_wp2_with fail;refine ((ae z).looks (by omega)).mono ?_;rintro e w6 ⟨rfl,H⟩;have O:=ai H;clear H z;go_wp2;go_roundg (n-(i+1))
    case measure=>omega
    case rel=>exact⟨i+1,rfl,by push_cast;rfl,by omega,rfl,ae O⟩
   ·go_wp2;go_roundg (n-(i+1))
    case measure=>omega
    case rel=>exact⟨i+1,rfl,by push_cast;rfl,by omega,rfl,((ae l).mono (by omega)).ax ((aj.refl aA wr).alloc _)⟩
  ·obtain rfl:i=n:=by omega
   go_wp2;go_ret;exact⟨rfl,j.jW⟩
open Go.RowKit Go.Maps Go.Deep
theorem sV{H:Type}{a:DataW H}:∀{ds:List (DataW H)},a∈ds->Rows.uptoBulk a<=Rows.uptoBulkAll ds
 | [],h=>by simp at h
 | e :: ds,h=>by
   rw[Rows.uptoBulkAll];rcases List.mem_cons.1 h with h | h
   ·subst h;omega
   ·have:=sV h;omega
theorem PZ{H:Type}:∀a:DataW H,1<=Rows.uptoBulk a:=by
 intro a;cases a with
 | lit l=>cases l <;> simp[Rows.uptoBulk]
 | _=>simp[Rows.uptoBulk]
theorem Gx{H:Type}:∀ds:List (DataW H),ds.length<=Rows.uptoBulkAll ds
 | []=>Nat.zero_le _
 | d :: ds=>by
   have:=PZ d;have:=Gx ds;rw[Rows.uptoBulkAll,List.length_cons];omega
section
variable {H : Type} {enc : TypeId × Value -> H} {w : World} {base : Nat} {spare : Nat -> Bool} {held : Bool}
theorem oV:Tryz.prog.cellsOf 3=1:=by kernel_rfl
theorem Qa:Tryz.prog.cellsOf 9=1:=by kernel_rfl
theorem Mc:Tryz.prog.cellsOf 52=7:=by kernel_rfl
theorem Md:Tryz.prog.cellsOf 81=13:=by kernel_rfl
theorem uC{n:Int}(h:(Lit.int .i64 n).wf=true):dM n:=by
 have:=bounds_i64 h;unfold dM;omega
theorem MF{fs:Array Field}{b:List (DataW H × List MemPlace)}{n:Nat}{cs:List Value}(m:b.length=fs.size)(l:∀(i:Nat) (a:Field),fs[i]?=some a->DataW.trod enc Tryz.prog w base spare held n a.type ((cs.drop a.offset).take (Tryz.prog.cellsOf a.type))=b[i]?)
 {i:Nat} {a:Field} (d:fs[i]?=some a) {c:TypeId} {o k:Nat} (f:a.type=c) (g:a.offset=o) (j:Tryz.prog.cellsOf c=k):∃y,b[i]?=some y/\DataW.trod enc Tryz.prog w base spare held n c ((cs.drop o).take k)=some y:=by
 have e:i<b.length:=by rw[m];exact (Array.getElem?_eq_some_iff.1 d).1
 have:=l i a d;subst f g j;exact⟨_,List.getElem?_eq_getElem e,by rw[this,List.getElem?_eq_getElem e]⟩
theorem KN{t:Nat}{cs:List Value}{x:DataW H × List MemPlace}(h:DataW.trod enc Tryz.prog w base spare held t 52 cs=some x) :
 ∃id r sym side q af az,cs=[II id,II r,.string sym,II side,II q,II af,II az]/\dM id/\dM r/\dM q/\dM af/\sym.size<=Rows.uptoBulk x.1:=by
 obtain⟨J,n,-,C,p,b,a⟩:=DataW.trod_struct Tryz.underlying52 h;rw[Mc]at p
 match cs,p with
 | [c0,c1,c2,c3,c4,c5,c6],_ =>
   obtain⟨T,L,h0⟩:=MF b a (i:=0) rfl rfl rfl oV;obtain⟨U,M,u⟩:=MF b a (i:=1) rfl rfl rfl oV;obtain⟨K,s,v⟩:=MF b a (i:=2) rfl rfl rfl Qa;obtain⟨V,o,y⟩:=MF b a (i:=3) rfl rfl rfl oV;obtain⟨W,N,z⟩:=MF b a (i:=4) rfl rfl rfl oV;obtain⟨X,O,A⟩:=MF b a (i:=5) rfl rfl rfl oV;obtain⟨Y,P,B⟩:=MF b a (i:=6) rfl rfl rfl oV;obtain⟨a0,c,-,E⟩:=DataW.trod_int Tryz.underlying3 h0;obtain⟨l,d,-,F⟩:=DataW.trod_int Tryz.underlying3 u;obtain⟨a2,e,D,-⟩:=DataW.trod_string Tryz.underlying9 v;obtain⟨a3,f,-,R⟩:=DataW.trod_int Tryz.underlying3 y;obtain⟨a4,g,-,G⟩:=DataW.trod_int Tryz.underlying3 z;obtain⟨a5,j,-,I⟩:=DataW.trod_int Tryz.underlying3 A;obtain⟨m,k,-,S⟩:=DataW.trod_int Tryz.underlying3 B;have c:[c0]=[II a0]:=c;have d:[c1]=[II l]:=d;have e:[c2]=[.string a2]:=e;have f:[c3]=[II a3]:=f;have g:[c4]=[II a4]:=g;have j:[c5]=[II a5]:=j;have k:[c6]=[II m]:=k;simp only[List.cons.injEq,and_true]at c d e f g j k;refine⟨a0,l,a2,a3,a4,a5,m,by rw[c,d,e,f,g,j,k],uC E,uC F,uC G,uC I,?_⟩;rw[C];show _<=Rows.uptoBulk (.agg _);rw[Rows.uptoBulk];have:K.1∈J.map (·.1):=List.mem_map_of_mem (List.mem_of_getElem? s);have:=sV this;rw[D]at this;have o:Rows.uptoBulk (DataW.lit (H:=H) (.string a2.data.toList))=a2.data.toList.length+1:=by rw[Rows.uptoBulk]
   simp only at this;rw[o,Array.length_toList]at this;have Q:a2.size=a2.data.size:=rfl;omega
theorem U5{C:Nat}{cs:List Value}{x:DataW H × List MemPlace}(h:DataW.trod enc Tryz.prog w base spare held C 81 cs=some x)(t:Rows.uptoBulk x.1<=1048576) :
 ∃o:kQ,cs=o.cells.toList/\qC o:=by
 obtain⟨c,n,-,K,u,b,a⟩:=DataW.trod_struct Tryz.underlying81 h;rw[Md]at u;rw[K]at t;simp only at t;have hb2:Rows.uptoBulkAll (c.map (·.1))+1<=1048576:=by
  have:Rows.uptoBulk (.agg (c.map (·.1)))=Rows.uptoBulkAll (c.map (·.1))+1:=by rw[Rows.uptoBulk]
  omega
 have r:∀(i:Nat) (y:DataW H × List MemPlace),c[i]?=some y->Rows.uptoBulk y.1<=1048576:=fun i y e=>by
  have:y.1∈c.map (·.1):=List.mem_map_of_mem (List.mem_of_getElem? e);have:=sV this;omega
 match cs,u with
 | [c0,c1,c2,c3,c4,c5,c6,c7,c8,c9,c10,c11,c12],_ =>
   obtain⟨y0,Y,h0⟩:=MF b a (i:=0) rfl rfl rfl oV;obtain⟨y1,Z,D⟩:=MF b a (i:=1) rfl rfl rfl oV;obtain⟨y2,e2,E⟩:=MF b a (i:=2) rfl rfl rfl oV;obtain⟨y3,s,F⟩:=MF b a (i:=3) rfl rfl rfl oV;obtain⟨y4,e4,G⟩:=MF b a (i:=4) rfl rfl rfl oV;obtain⟨V,A,I⟩:=MF b a (i:=5) rfl rfl rfl Qa;obtain⟨W,B,J⟩:=MF b a (i:=6) rfl rfl rfl Mc;obtain⟨a0,d,-,w0⟩:=DataW.trod_int Tryz.underlying3 h0;obtain⟨q,f,-,U⟩:=DataW.trod_int Tryz.underlying3 D;obtain⟨a2,g,-,w2⟩:=DataW.trod_int Tryz.underlying3 E;obtain⟨a3,j,-,w3⟩:=DataW.trod_int Tryz.underlying3 F;obtain⟨a4,k,-,w4⟩:=DataW.trod_int Tryz.underlying3 G;obtain⟨a5,l,T,-⟩:=DataW.trod_string Tryz.underlying9 I;obtain⟨id,z,sym,side,v,af,az,m,i0,L,i2,i3,i4⟩:=KN J;have d:[c0]=[II a0]:=d;have f:[c1]=[II q]:=f;have g:[c2]=[II a2]:=g;have j:[c3]=[II a3]:=j;have k:[c4]=[II a4]:=k;have l:[c5]=[.string a5]:=l;have m:[c6,c7,c8,c9,c10,c11,c12]=[II id,II z,.string sym,II side,II v,II af,II az]:=m;simp only[List.cons.injEq,and_true]at d f g j k l m;obtain⟨P,Q,R,S,M,N,O⟩:=m;have p:=r 5 V A;have X:=r 6 W B;rw[T]at p;have s:Rows.uptoBulk (DataW.lit (H:=H) (.string a5.data.toList))=a5.data.toList.length+1:=by rw[Rows.uptoBulk]
   simp only at p;rw[s,Array.length_toList]at p;have hsz:a5.size=a5.data.size:=rfl;refine⟨⟨a0,q,a2,a3,a4,a5,⟨id,z,sym,side,v,af,az⟩⟩,by rw[d,f,g,j,k,l,P,Q,R,S,M,N,O];rfl,⟨uC U,uC w2,i0,L,i2,i3,by show a5.size<=_;omega,by show sym.size<=_;omega⟩⟩
theorem I8{t len cap:Nat}{a0:Option Addr}{x:DataW H × List MemPlace}(h:DataW.trod enc Tryz.prog w 0 spare held t 22 [.slice a0 len cap]=some x)(q:Rows.uptoBulk x.1<=1048576) :
 ∃K:Nat->kQ,Eg w a0 len K/\len<=1048576:=by
 rcases open_slice Tryz.underlying22 h with⟨g,_⟩ | ⟨a,l,c,m,n,d,N,g,_,Q,R,C,G,z⟩
 ·simp at g;obtain⟨rfl,rfl,rfl⟩:=g;exact⟨fun _=>⟨0,0,0,0,0,⟨#[]⟩,⟨0,0,⟨#[]⟩,0,0,0,0⟩⟩,fun i f=>absurd f (Nat.not_lt_zero i),Nat.zero_le _⟩
 ·simp at g;obtain⟨rfl,rfl,rfl⟩:=g;rw[G]at q;have P:Rows.uptoBulkAll ((List.range len).map d)<=1048576:=by
   have e:=Rows.uptoBulk.eq_def (DataW.slice ((List.range len).map d) ((List.range (m-len)).map fun j=>d (len+j)));simp only at e;simp only at q;omega
  have B:len<=1048576:=by
   have:=Gx ((List.range len).map d);simp at this;omega
  have S:len<=m:=by rw[C];split <;> omega
  have k:∀i,∃o:kQ,i<len->qC o/\w.cells? 0 (a.add (i * 13)) 13=some o.cells.toList:=fun i=>by
   by_cases f:i<len
   ·obtain⟨O,p,u⟩:=z i (by omega);rw[Md]at p;have y:d i∈(List.range len).map d:=List.mem_map_of_mem (List.mem_range.2 f);have:=sV y;obtain⟨o,D,E⟩:=U5 u (by show Rows.uptoBulk (d i)<=_;omega);exact⟨o,fun _=>⟨E,by rw[p,D]⟩⟩
   ·exact⟨⟨0,0,0,0,0,⟨#[]⟩,⟨0,0,⟨#[]⟩,0,0,0,0⟩⟩,fun M=>absurd M f⟩
  refine⟨fun i=>Classical.choose (k i),fun i f=>?_,B⟩;obtain⟨I,J⟩:=Classical.choose_spec (k i) f;refine⟨I,?_⟩;obtain⟨-,_,z3⟩:=World.cells?_some (Classical.choose_spec (k 0) (by omega)).2;have z0:=z3 0 (by omega);obtain⟨b,off,L⟩:=a;obtain rfl:L=none:=by
   have F:(Classical.choose (k 0)).cells.toList[0]?=some (II (Classical.choose (k 0)).kind):=rfl;rw[F]at z0
   simpa [Addr.add] using World.cell?_spot z0
  refine⟨b,off,rfl,fun j T r=>?_⟩;obtain⟨-,_,s⟩:=World.cells?_some J;have A:j<13:=by
   have:=(Array.getElem?_eq_some_iff.1 r).1
   simpa [kQ.cells] using this
  have v:=s j A;have e:((Addr.mk b off none).add (i * 13)).add j=⟨b,off+i * 13+j,none⟩:=by rw[Addr.add_lit,Addr.add_lit]
  rw[<-e,v,Array.getElem?_toList];exact r
end
open Go.RowKit Go.ChangeShapes
def CZ : List (String × DataW Unit) := [("math/bits.deBruijn32tab", Rows.laid_math_bits_deBruijn32tab), ("math/bits.deBruijn64tab", Rows.laid_math_bits_deBruijn64tab), ("internal/strconv.uint64pow10", Rows.laid_internal_strconv_uint64pow10), ("unicode/utf8.acceptRanges", Rows.laid_unicode_utf8_acceptRanges), ("strconv.ErrRange", Rows.laid_strconv_ErrRange), ("strconv.ErrSyntax", Rows.laid_strconv_ErrSyntax), ("unicode/utf8.first", Rows.laid_unicode_utf8_first)]
theorem OX:(Tryz.prog.globals[DU]?).map (·.type)=some 287:=by kernel_rfl
theorem FT{W:World}(h:laidMetH Tryz.prog CZ W):qj W:=by
 have h1 : laidMetH Tryz.prog [("internal/strconv.uint64pow10", Lib.tabData .u64 Lib.pow10Tab)] W := h.filter (fun x => x.1 == "internal/strconv.uint64pow10")
 rw[MakeChecks.laidMetH_plain _ _ _ (by kernel_rfl)]at h1;exact Lib.tabIs_of_head S9 OX Tryz.underlying287 Tryz.underlying253 (by kernel_rfl) (by kernel_rfl) h1
theorem Om(os:Os)(args:Array Value):laidMetH Tryz.prog CZ ((World.laidAll Tryz.prog os CZ).forCall (fun _ _=>0) ⟨#[],args,[]⟩).memory:=by
 rw[MakeChecks.laidMetH_plain _ _ _ (by kernel_rfl)];exact laidMet_laidAll _ (by kernel_rfl) (by kernel_rfl)
theorem EN(os:Os)(args:Array Value):((World.laidAll Tryz.prog os CZ).forCall (fun _ _=>0) ⟨#[],args,[]⟩).Shaped Tryz.prog :=
 World.shaped_of_ZipB (by kernel_rfl) (by kernel_rfl)
theorem G7{H:Type}{enc:TypeId × Value->H}{C:Checked}{os:Os}{c:FuncId}{fn:Func}{s:OpenSpec}{k:(H:Type)->List (DataW H)->Bool}(o:s.cond=some k){F:Stop.Interp}{conds:List PathCond}{apart fresh n again:Bool}{l:List (String × DataW Unit)}
 (own:ownKnob C.prog.godebug=none) (V:os.Started) (U:C.prog.inits.idxOf? c=none) (B:C.prog.funcs[c]?=some fn)
 (a:World) (args:Array Value) (m:Nat) (K:a.os=os) (O:(a.forCall (fun _ _=>0) ⟨#[],args,[]⟩).Shaped C.prog)
 (p:Input.okWideB C.prog (a.forCall (fun _ _=>0) ⟨#[],args,[]⟩) c ⟨#[],args,[]⟩=true)
 {x:List (DataW H) × List (DataW H) × List MemPlace} (T:DataW.whole enc C.prog (a.forCall (fun _ _=>0) ⟨#[],args,[]⟩).memory fn.params.toList s.vars apart args.toList m=some x)
 (z:conds.all (PathCond.test C.prog ⟨fn.params.toList,x.1,s.bare.plain.varTypes C.prog,x.2.1⟩)=true) (G:k H (x.1++x.2.1)=true)
 (P:s.bare.sizedB enc C.prog fn apart (a.forCall (fun _ _=>0) ⟨#[],args,[]⟩).memory args m=true)
 (I:laidMetH C.prog l (a.forCall (fun _ _=>0) ⟨#[],args,[]⟩).memory)
 (r:∀(b:World) (base:Nat) (args:Array Value) (ds d:List (DataW H)) (f:List MemPlace),(∀(j:Nat) t v,fn.params[j]?=some t->args[j]?=some v->Value.okWide C.prog b .any base t v) ->
   DataW.Whole enc C.prog fn.params.toList s.vars apart b args.toList ds d f->k H (ds++d)=true->laidMetH C.prog l b ->
   Calls C.prog c args b fun e g=>∃v,e=.returned v/\(s.at F).post enc C.prog fn apart fresh n again b args v g) :
 ReturnsInHanded {} C os c .any (fun w args=>(s.pre enc C.prog fn conds apart w args/\laidMetH C.prog l w)/\sizedMet enc C.prog fn s apart w args) ((s.at F).post enc C.prog fn apart fresh n again):=by
 refine returnsInHanded_of_calls own V U ⟨a,fun _ _=>0,⟨#[],args,[]⟩,K,O,(Input.okWide_of_okWideB (base:=0) p).1,(Input.okWide_of_okWideB p).2,⟨⟨(OpenSpec.pre_some o conds apart _ _).2 ⟨x.1,x.2.1,x.2.2,DataW.Whole_of_whole T,z,G⟩,I⟩,sizedMet_of_sizedB P⟩,by
  simp only[Assume.holds];exact⟨by simp,by simp,fun _=>Modest.zero,by simp,by simp⟩⟩ ?_
 intro w q i _ _ _ J N X;obtain⟨_,_,_,u,D,_,_,_,_,Q⟩:=J;have e:u=fn:=Option.some.inj (D.symm.trans B);subst e;obtain⟨⟨L,y⟩,Y⟩:=N;obtain⟨ds,d,f,R,W,E⟩:=(OpenSpec.pre_some o conds apart _ _).1 L;have S:=DataW.Whole.of_heap (w':=w.forCall q i) (by rfl) R;refine (r (w.forCall q i) w.heap.size i.args ds d f Q S E (y.of_heap (by rfl))).mono fun e g ⟨v,A,M⟩=>?_
 subst A;exact ChangeSpec.post_blind M
end Go.Proofs.YtigaphnafnpfnaaGreatDoor
