import Derived.Test.YtigaphnafnpfnaaGreatDoorQVA5
import Derived.Laws.OwnMore
import Derived.Shelf.LaysM
import Derived.Shelf.Strconv.Itoa3
import Derived.Lib.ItoaLen
import Derived.Lib.AppendStr
import Derived.Laws.AppendOwn
set_option linter.unusedVariables false
set_option linter.unusedSimpArgs false
set_option maxHeartbeats 8000000
set_option maxRecDepth 100000
namespace Go.Proofs.YtigaphnafnpfnaaGreatDoor
open Go.RowKit
attribute [local go_sem ↓] Go.wp_at_zero Go.wp_at_succ
section
variable {α : Type} (f : α -> List Value) (k : Nat)
theorem ou(a:∀x,(f x).length=k):∀(l:List α) (i j:Nat) (x:α),l[i]?=some x->j<k->(l.flatMap f)[i * k+j]?=(f x)[j]?
 | [],i,j,x,h,_=>by simp at h
 | y :: l,0,j,x,h,hj=>by
   simp only[List.getElem?_cons_zero,Option.some.injEq]at h;subst h;rw[List.flatMap_cons,Nat.zero_mul,Nat.zero_add,List.getElem?_append_left (by rw[a];exact hj)]
 | y :: l,i+1,j,x,h,hj=>by
   simp only[List.getElem?_cons_succ]at h;have e:(i+1) * k+j-k=i * k+j:=by rw[Nat.add_mul];omega
   rw[List.flatMap_cons,List.getElem?_append_right (by rw[a,Nat.add_mul];omega),a,e];exact ou a l i j x h hj
theorem zX(b:∀x,(f x).length=k):∀(l:List α) (i j:Nat) (x y:α) (a:Value),l[i]?=some x->j<k->f y=(f x).set j a->(l.flatMap f).set (i * k+j) a=(l.set i y).flatMap f
 | [],i,j,x,y,a,h,_,_=>by simp at h
 | z :: l,0,j,x,y,a,h,hj,e=>by
   simp only[List.getElem?_cons_zero,Option.some.injEq]at h;subst h;rw[List.flatMap_cons,Nat.zero_mul,Nat.zero_add,List.set_append_left _ _ (by rw[b];exact hj),List.set_cons_zero,List.flatMap_cons,e]
 | z :: l,i+1,j,x,y,a,h,hj,e=>by
   simp only[List.getElem?_cons_succ]at h;have c:(i+1) * k+j-(f z).length=i * k+j:=by rw[Nat.add_mul,b];omega
   rw[List.flatMap_cons,List.set_append_right _ _ (by rw[b,Nat.add_mul];omega),c,List.set_cons_succ,List.flatMap_cons,zX b l i j x y a h hj e]
theorem xO(l:List α)(x:α):(l++[x]).flatMap f=l.flatMap f++f x:=by simp[List.flatMap_append]
end
def uN(o:Ord):List Value:=[II o.id,II o.aG,.string o.sym,II o.side,II o.kind,II o.af,II o.az,II o.entered,II o.aH,II o.filled,II o.aX,II o.exp,II o.place]
theorem Az(o:Ord):(uN o).length=13:=rfl
def DW(g:Tg):List Value:=[II g.t.num,.string g.t.sym,II g.t.af,II g.t.az,II g.t.lF,II g.t.dZ,II g.t.day,.bool g.holds]
theorem xh(g:Tg):(DW g).length=8:=rfl
def yH(l:List Ord):List Value:=l.flatMap uN
def rP(l:List Tg):List Value:=l.flatMap DW
structure RS where
 sy:List ByteArray
 l:List Ord
 t:List Tg
 day:Int
 places:Int
 told:List Rc
structure SM where
 yv:Value
 lv:Value
 tv:Value
 ov:Value
structure dF(w:World)(base sb:Nat)(S:RS)(m:SM):Prop where
 ge:base<=sb
 ay:au w sb #[m.yv,m.lv,m.tv,II S.day,II S.places,m.ov] 207
 mZ:w.ownsRow base 9 1 m.yv S.sy.length (S.sy.map Value.string)
 dV:w.ownsRow base 212 13 m.lv S.l.length (yH S.l)
 dJ:w.ownsRow base 210 8 m.tv S.t.length (rP S.t)
 lZ:w.ownsRow base 62 9 m.ov S.told.length (gm S.told)
theorem dF.aC{w w':World}{base i:Nat}{S:RS}{m:SM}(h:dF w base i S m){d:Nat->Prop}(k:aj d w w')(f:∀b,base<=b->b<w.heap.size->¬d b):dF w' base i S m:=by
 have a:∀{e size n:Nat} {v:Value} {c:List Value},w.ownsRow base e size v n c->w'.ownsRow base e size v n c:=fun {e size n v c} r=>aB r k (fun b g=>f b (r.lt b g).1 (r.lt b g).2)
 exact⟨h.ge,k.ay h.ay (f _ h.ge h.ay.lt),a h.mZ,a h.dV,a h.dJ,a h.lZ⟩
theorem dF.ax{w w':World}{base a:Nat}{S:RS}{m:SM}(h:dF w base a S m)(k:aj aA w w'):dF w' base a S m:=h.aC k (fun _ _ _ x=>x)
theorem aJ{w:World}{base e size n:Nat}{v:Value}{b:List Value}(h:w.ownsRow base e size v n b):∃a c,v=.slice a n c:=by
 rcases h.2 with⟨rfl,h0⟩ | ⟨g,cap,cs,rfl,_⟩
 ·exact⟨none,0,by rw[h0]⟩
 ·exact⟨_,cap,rfl⟩
theorem gQ{w:World}{base e size n c:Nat}{a:Option Addr}{f:List Value}(h:w.ownsRow base e size (.slice a n c) n f)(i:0<n):∃g,a=some ⟨g,0,none⟩/\base<=g:=by
 rcases h.2 with⟨_,h0⟩ | ⟨g,cap,cs,b,d,_⟩
 ·omega
 ·injection b with b _ _;exact⟨g,b,d⟩
def ak(l:List Ord)(i:Nat):Ord:=l.getD i ⟨0,0,⟨#[]⟩,0,0,0,0,0,0,0,0,0,0⟩
theorem lM{l:List Ord}{i:Nat}(h:i<l.length):l[i]?=some (ak l i):=by
 unfold ak;rw[List.getD_eq_getElem?_getD,List.getElem?_eq_getElem h];rfl
theorem wV{l:List Ord}{i:Nat}{o:Ord}(h:l[i]?=some o):ak l i=o:=by
 unfold ak;rw[List.getD_eq_getElem?_getD,h];rfl
theorem dF.wW{w:World}{base o c:Nat}{a:Option Addr}{S:RS}{m:SM}(h:dF w base o S m)(n:m.lv=.slice a S.l.length c){i:Nat}(f:i<S.l.length):∃g,a=some ⟨g,0,none⟩/\base<=g/\(∀j b,(uN (ak S.l i))[j]?=some b->w.cell? ⟨g,i * 13+j,none⟩=some b)/\∀j,w.frozen? ⟨g,j,none⟩=false:=by
 have r:=h.dV;rw[n]at r;obtain⟨g,rfl,e⟩:=gQ r (by omega);refine⟨g,rfl,e,fun j b d=>?_,fun j=>r.frozenAt j⟩;have k:j<13:=by have:=(List.getElem?_eq_some_iff.1 d).1;rw[Az]at this;exact this
 rw[r.cellAt _ (by omega)];exact (ou uN 13 Az S.l i j _ (lM f) k).trans d
def oi:Option Nat->Int
 | some k=>k
 | none=>-1
theorem vW(n:Int)(w:World):CT 202 #[II n] w fun e w'=>e=.returned (.bool (dS n))/\w'=w:=by
 by_cases a:n=0
 ·subst a;go_enter Tryz.func202,Tryz.ntmps202;go_wp2;go_ret;exact⟨rfl,rfl⟩
 ·have d:(n == 0)=false:=by simp[a]
  by_cases b:n=1
  ·subst b;go_enter Tryz.func202,Tryz.ntmps202;go_wp2;go_ret;exact⟨rfl,rfl⟩
  ·have f:(n == 1)=false:=by simp[b]
   have c:Hid (dS n=(n == 4)):=by show _=_;simp[dS,d,f]
   go_enter Tryz.func202,Tryz.ntmps202;go_wp2;go_ret;exact⟨by rw[c.out];rfl,rfl⟩
theorem SN(x y:ByteArray):(x.toList == y.toList)=decide (x=y):=by
 by_cases h:x=y
 ·subst h;simp
 ·rw[decide_eq_false h];simp only[beq_eq_false_iff_ne,ne_eq,ByteArray.toList_eq];intro e;exact h (by cases x;cases y;simp at e;rw[e])
def jO(l:List ByteArray)(s:ByteArray):Bool:=l.any (fun x=>decide (x=s))
theorem DT{l:List ByteArray}{s:ByteArray}{i:Nat}(h:l[i]?=some s):jO l s=true:=List.any_eq_true.2 ⟨s,List.mem_of_getElem? h,by simp⟩
theorem LD{l:List ByteArray}{s:ByteArray}(h:∀i:Nat,i<l.length->l[i]?≠some s):jO l s=false:=by
 rw[jO,List.any_eq_false];intro x b;obtain⟨j,a⟩:=List.getElem?_of_mem b;have:=h j (List.getElem?_eq_some_iff.1 a).1;simp only[decide_eq_true_eq];rintro rfl;exact this a
theorem ku(base o:Nat)(S:RS)(m:SM)(s:ByteArray)(w:World)(h:dF w base o S m)(E:S.sy.length<=1000) :
 CT 142 #[PP o,.string s] w fun e w'=>e=.returned (.bool (jO S.sy s))/\w'=w:=by
 obtain⟨n,b⟩:=dQ S.sy.length;obtain⟨a,c,f⟩:=aJ h.mZ;rw[b]at f E;have v0:w.cell? ⟨o,0,none⟩=some (.slice a n c):=by rw[<-f];exact h.ay.cell 0
 have q:Hid (∀i,i<n->∃(g:Nat) (x:ByteArray),a=some ⟨g,0,none⟩/\w.cell? ⟨g,i,none⟩=some (.string x)/\S.sy[i]?=some x):=fun i C=>by
  have r:=h.mZ;rw[f,b]at r;obtain⟨g,rfl,_⟩:=gQ r (by omega);have v:i<S.sy.length:=by omega
  refine⟨g,S.sy[i],rfl,?_,List.getElem?_eq_getElem v⟩;rw[r.cellAt i (by omega),List.getElem?_map,List.getElem?_eq_getElem v];rfl
 obtain⟨B,u⟩:=dQ S.sy;rw[u]at b q ⊢;have A:=ai b;clear h f u b;go_enter Tryz.func142,Tryz.ntmps142;go_wp2;go_loopg [5] n (fun k G wr=>∃i:Nat,G=II (i:Int)/\i<=n/\k=n-i/\(∀j,j<i->B[j]?≠some s)/\wr=w)
 case atStart=>exact⟨0,rfl,Nat.zero_le _,rfl,fun j d=>by omega,rfl⟩
 case round =>
  obtain⟨i,rfl,C,I,y,rfl⟩:=hrel;have p:=ai y;clear y;by_cases F:i<n
  ·obtain⟨g,x,rfl,J,z⟩:=ae q i F;have t:=ai z;clear z;by_cases l:x=s
   ·subst l;go_wp2;go_ret;exact⟨by rw[DT (ae t)];rfl,rfl⟩
   ·have H:(x.toList == s.toList)=false:=by rw[SN];simpa using l
    go_wp2;go_roundg (n-(i+1))
    case measure=>omega
    case rel=>exact⟨i+1,by push_cast;rfl,by omega,rfl,fun j d=>by
     by_cases D:j=i
     ·subst D;rw[ae t];intro e;exact l (Option.some.inj e)
     ·exact ae p j (by omega),rfl⟩
  ·obtain rfl:i=n:=by omega
   go_wp2;go_ret;refine⟨?_,rfl⟩;rw[LD (fun j d=>ae p j (by rw[ae A]at d;exact d))]
   rfl
def iU(l:List Ord)(id:Int):Option Nat:=l.findIdx? (fun o=>o.id == id)
theorem pK(base r:Nat)(S:RS)(m:SM)(id:Int)(w:World)(h:dF w base r S m)(H:S.l.length<=1000) :
 CT 141 #[PP r,II id] w fun e w'=>e=.returned (II (oi (iU S.l id)))/\w'=w:=by
 obtain⟨n,f⟩:=dQ S.l.length;obtain⟨a,c,o⟩:=aJ h.dV;have t:Hid (∀i,i<n->∃(g:Nat),a=some ⟨g,0,none⟩/\w.cell? ⟨g,i * 13,none⟩=some (II (ak S.l i).id)):=fun i F=>by
  obtain⟨g,e,_,E,_⟩:=h.wW o (i:=i) (by omega);exact⟨g,e,E 0 _ rfl⟩
 rw[f]at o H;have K:w.cell? ⟨r,1,none⟩=some (.slice a n c):=by rw[<-o];exact h.ay.cell 1
 obtain⟨b,y⟩:=dQ S.l;rw[y]at f t ⊢;have s:=ai f;clear h o y f;go_enter Tryz.func141,Tryz.ntmps141;go_wp2;go_loopg [5] n (fun k I wr=>∃i:Nat,I=II (i:Int)/\i<=n/\k=n-i/\(∀j,j<i->(ak b j).id≠id)/\wr=w)
 case atStart=>exact⟨0,rfl,Nat.zero_le _,rfl,fun j d=>by omega,rfl⟩
 case round =>
  obtain⟨i,rfl,F,J,C,rfl⟩:=hrel;have p:=ai C;clear C;by_cases A:i<n
  ·obtain⟨g,rfl,D⟩:=ae t i A;by_cases q:(ak b i).id=id
   ·have u:((ak b i).id == id)=true:=by simpa using q
    go_wp2;go_ret;refine⟨?_,rfl⟩;have:iU b id=some i:=by
     unfold iU;rw[List.findIdx?_eq_some_iff_getElem];have z:i<b.length:=by rw[ae s];exact A
     have v:∀j (d:j<b.length),b[j]=ak b j:=fun j d=>by have:=lM d;rw[List.getElem?_eq_getElem d]at this;exact Option.some.inj this
     refine⟨z,by rw[v i z];exact u,fun j d=>?_⟩;rw[v j (by omega)]
     simpa using ae p j d
    rw[this];rfl
   ·have u:((ak b i).id == id)=false:=by simpa using q
    go_wp2;go_roundg (n-(i+1))
    case measure=>omega
    case rel=>exact⟨i+1,by push_cast;rfl,by omega,rfl,fun j d=>by
     by_cases G:j=i
     ·subst G;exact q
     ·exact ae p j (by omega),rfl⟩
  ·obtain rfl:i=n:=by omega
   go_wp2;go_ret;refine⟨?_,rfl⟩;have:iU b id=none:=by
    unfold iU;rw[List.findIdx?_eq_none_iff];intro x D;obtain⟨j,d⟩:=List.getElem?_of_mem D;have B:=(List.getElem?_eq_some_iff.1 d).1;have:=ae p j (by rw[ae s]at B;exact B);rw[wV d]at this
    simpa using this
   rw[this];rfl
open Go.Shelf
def EO:Go.Shelf.Ren:=⟨fun | 171=>115 | 243=>148 | 246=>174 | 283=>207 | 284=>208 | 285=>209 | 286=>210 | 129=>188 | 317=>226 | 318=>227 | 319=>228 | 320=>229 | 337=>237 | 338=>238 | n=>n,fun | 3=>3 | 9=>9 | 2=>2 | 4=>4 | 171=>268 | 0=>0 | 53=>253 | 37=>98 | 5=>5 | 173=>270 | 212=>287 | 51=>251 | 20=>20 | 213=>288 | 46=>223 | 232=>301 | 233=>302 | n=>n,fun | 17=>3 | 18=>6 | 19=>7 | n=>n⟩
theorem Q5:Go.Proofs.LaysM.n171 Tryz.prog EO :=
 { mixed:=by kernel_rfl,f129:=Tryz.func188.trans (congrArg some (by kernel_rfl)),f171:=Tryz.func115.trans (congrArg some (by kernel_rfl)),f243:=Tryz.func148.trans (congrArg some (by kernel_rfl)),f246:=Tryz.func174.trans (congrArg some (by kernel_rfl)),f283:=Tryz.func207.trans (congrArg some (by kernel_rfl)),f284:=Tryz.func208.trans (congrArg some (by kernel_rfl)),f285:=Tryz.func209.trans (congrArg some (by kernel_rfl)),f286:=Tryz.func210.trans (congrArg some (by kernel_rfl)),f317:=Tryz.func226.trans (congrArg some (by kernel_rfl)),f318:=Tryz.func227.trans (congrArg some (by kernel_rfl)),f319:=Tryz.func228.trans (congrArg some (by kernel_rfl)),f320:=Tryz.func229.trans (congrArg some (by kernel_rfl)),f337:=Tryz.func237.trans (congrArg some (by kernel_rfl)),f338:=Tryz.func238.trans (congrArg some (by kernel_rfl)),t0:=Tryz.underlying0,a0:=Tryz.isAgg0,z0:=Tryz.sizeOf0,v0:=Tryz.zeroValue0,t2:=Tryz.underlying2,a2:=Tryz.isAgg2,z2:=Tryz.sizeOf2,v2:=Tryz.zeroValue2,t3:=Tryz.underlying3,a3:=Tryz.isAgg3,z3:=Tryz.sizeOf3,v3:=Tryz.zeroValue3,t4:=Tryz.underlying4,a4:=Tryz.isAgg4,z4:=Tryz.sizeOf4,v4:=Tryz.zeroValue4,t5:=Tryz.underlying5,a5:=Tryz.isAgg5,z5:=Tryz.sizeOf5,v5:=Tryz.zeroValue5,t9:=Tryz.underlying9,a9:=Tryz.isAgg9,z9:=Tryz.sizeOf9,v9:=Tryz.zeroValue9,t20:=Tryz.underlying20,a20:=Tryz.isAgg20,z20:=Tryz.sizeOf20,v20:=Tryz.zeroValue20,t37:=Tryz.underlying98,a37:=Tryz.isAgg98,z37:=Tryz.sizeOf98,v37:=Tryz.zeroValue98,t46:=Tryz.underlying223,a46:=Tryz.isAgg223,z46:=Tryz.sizeOf223,v46:=Tryz.zeroValue223,t51:=Tryz.underlying251,a51:=Tryz.isAgg251,z51:=Tryz.sizeOf251,v51:=Tryz.zeroValue251,t53:=Tryz.underlying253,a53:=Tryz.isAgg253,z53:=Tryz.sizeOf253,v53:=Tryz.zeroValue253,t171:=Tryz.underlying268,a171:=Tryz.isAgg268,z171:=Tryz.sizeOf268,v171:=Tryz.zeroValue268,t173:=Tryz.underlying270,a173:=Tryz.isAgg270,z173:=Tryz.sizeOf270,v173:=Tryz.zeroValue270,t212:=Tryz.underlying287,a212:=Tryz.isAgg287,z212:=Tryz.sizeOf287,v212:=Tryz.zeroValue287,t213:=Tryz.underlying288,a213:=Tryz.isAgg288,z213:=Tryz.sizeOf288,t232:=Tryz.underlying301,a232:=Tryz.isAgg301,z232:=Tryz.sizeOf301,v232:=Tryz.zeroValue301,t233:=Tryz.underlying302,a233:=Tryz.isAgg302,z233:=Tryz.sizeOf302,v233:=Tryz.zeroValue302,g17:=by kernel_rfl,g18:=by kernel_rfl,g19:=by kernel_rfl,i0:=by kernel_rfl,i2:=by kernel_rfl,i3:=by kernel_rfl,i4:=by kernel_rfl,i5:=by kernel_rfl,i9:=by kernel_rfl,i20:=by kernel_rfl,i37:=by kernel_rfl,i46:=by kernel_rfl,i51:=by kernel_rfl,i53:=by kernel_rfl,i171:=by kernel_rfl,i173:=by kernel_rfl,i212:=by kernel_rfl,i232:=by kernel_rfl,i233:=by kernel_rfl,m17:=by kernel_rfl,m18:=by kernel_rfl,m19:=by kernel_rfl }
def qj (w : World) : Prop := Lib.TabIs Tryz.prog w "internal/strconv.uint64pow10" .u64 Lib.pow10Tab
def DU:Nat:=3
theorem S9 : Tryz.prog.globalNamed "internal/strconv.uint64pow10" = some DU := by kernel_rfl
theorem qj.aC{S:Nat->Prop}{w w':World}(h:qj w)(k:aj S w w')(b:¬S DU):qj w':=by
 unfold qj Lib.TabIs World.var? at h ⊢;rw[S9]at h ⊢;simp only[Option.bind_some]at h ⊢;have c:DU<w.heap.size:=by
  rcases Nat.lt_or_ge DU w.heap.size with a | a
  ·exact a
  ·rw[Array.getElem?_eq_none a]at h;simp at h
 rw[k.block DU c b];exact h
theorem qj.ax{w w':World}(h:qj w)(k:aj aA w w'):qj w':=h.aC k idd
theorem QS(n:Int)(h0:-9223372036854775808<=n)(a:n<=9223372036854775807)(w:World)(b:qj w) :
 CT 115 #[II n] w fun e w'=>e=.returned (.string ⟨(Lib.itoa n).toArray⟩)/\aj aA w w':=by
 refine (Any.strconv_Itoa Q5 n h0 a w b).mono ?_;rintro e w' ⟨rfl,k,os,rfl⟩;refine⟨rfl,rfl,rfl,rfl,?_,?_⟩
 ·show w.heap.size<=(w.heap++os).size;rw[Array.size_append];omega
 ·intro j c _;show (w.heap++os)[j]?=w.heap[j]?;rw[Array.getElem?_append_left c]
def OC(n:Int):ByteArray:=⟨#[32]⟩++⟨(Lib.itoa n).toArray⟩
def iJ(f:Nat->Int)(word:ByteArray):Nat->ByteArray
 | 0=>word
 | i+1=>iJ f word i++OC (f i)
theorem OD(n:Int)(h0:-9223372036854775808<=n)(a:n<=9223372036854775807):(OC n).size<=22:=by
 have:=Lib.itoa_length_le n h0 a;have e:(OC n).size=1+(Lib.itoa n).length:=by simp[OC,ByteArray.size_append];rfl
 omega
theorem jX(f:Nat->Int)(a:ByteArray):∀k,(∀i,i<k->-9223372036854775808<=f i/\f i<=9223372036854775807)->(iJ f a k).size<=a.size+22 * k
 | 0,_=>by simp[iJ]
 | k+1,h=>by
   have b:=jX f a k (fun i d=>h i (by omega));have c:=OD (f k) (h k (by omega)).1 (h k (by omega)).2;simp only[iJ,ByteArray.size_append];omega
theorem XN:∃i,Tryz.prog.info? 5=some i/\i.zero=some (.int .u8 0)/\i.size=1/\i.bytes=1:=by
 have h:(Tryz.prog.info? 5).map (fun i=>(i.zero,i.size,i.bytes))=some (some (.int .u8 0),1,1):=by kernel_rfl
 cases hi:Tryz.prog.info? 5 with
 | none=>rw[hi]at h;simp at h
 | some i =>
   rw[hi]at h;simp at h;exact⟨i,rfl,h.1,h.2.1,h.2.2⟩
theorem JA{P:Program}(w:World)(t a ty e:TypeId)(i:TypeInfo)(l:P.underlying t=some (.slice e))(m:P.underlying a=some .string)(f:P.info? e=some i)(q:i.zero=some (.int .u8 0))(p:i.size=1)(o:i.bytes=1)
 (v:Value) (n:Nat) (c:List Value) (hown:w.ownsRow 0 e 1 v n c) (s:ByteArray) (E:0<s.size) (K:n+s.size<=1000000000) :
 ∃g cap w',(Builtin.append_ #[t,a] ty #[v,.string s]).run P w=.ok (.slice (some ⟨g,0,none⟩) (n+s.size) cap) w'/\w'.ownsRow 0 e 1 (.slice (some ⟨g,0,none⟩) (n+s.size) cap) (n+s.size) (c++Lib.strCells s)/\w.grownBy w' v.ownBlock/\(v.ownBlock=some g\/g=w.heap.size):=by
 obtain⟨I,w',k,u,x,J⟩:=Lib.run_append_own_string (P:=P) w 0 t a ty e i l m f q p o v n c hown s (by unfold maxLen;omega) (by omega) (by omega);have G:∃g cap,I=.slice (some ⟨g,0,none⟩) (n+s.size) cap/\(v.ownBlock=some g\/g=w.heap.size):=by
  have H:c.length=n:=by simpa using hown.1
  rcases hown.2 with⟨rfl,rfl⟩ | ⟨g,cap,r,rfl,y,d,B,z,A,F⟩
  ·have b:=run_append_nil_string (P:=P) w t a ty e i (.int .u8 0) l m f q s E (by omega) (by rw[o];omega);rw[k]at b;injection b with e1 _;exact⟨_,_,by rw[e1,Nat.zero_add],.inr rfl⟩
  ·by_cases D:n+s.size<=cap
   ·have b:=Lib.run_append_room_string (P:=P) w t a ty e i l m f p g n cap r d s D (by omega);rw[k]at b;injection b with e1 _;exact⟨_,_,e1,.inl rfl⟩
   ·have C:∀j a,c[j]?=some a->w.cell? ((⟨g,0,none⟩:Addr).add j)=some a:=World.ownsRow.cells (g:=g) ⟨hown.1,.inr ⟨g,cap,r,rfl,y,d,B,z,A,F⟩⟩ rfl;have b:=Lib.run_append_grow_string (P:=P) w t a ty e i (.int .u8 0) l m f q ⟨g,0,none⟩ n cap c (by rw[p];simpa using H) C s (by omega) (by omega) (by rw[o];exact growslice_fits (by omega) (by omega));rw[k]at b;injection b with e1 _;exact⟨_,_,e1,.inr rfl⟩
 obtain⟨g,cap,rfl,d⟩:=G;exact⟨g,cap,w',k,u,x,d⟩
theorem xu{P:Program}{w:World}{d:Array Oper}{rest:List Oper}{o:Oper}{a:Act}{Q:Exit->Act->World->Prop}(q:o.guard=none)(sl x:Operand)(t b:TypeId)
 (u:o.op=.call { callee:=.builtin .append,args:=#[sl,x],argTypes:=#[t,b] })
 (e:TypeId) (i:TypeInfo) (B:P.underlying t=some (.slice e)) (C:P.underlying b=some .string) (r:P.info? e=some i) (E:i.zero=some (.int .u8 0)) (A:i.size=1) (p:i.bytes=1)
 (v:Value) (n:Nat) (c:List Value) (hs:a.eval sl=v) (hown:w.ownsRow 0 e 1 v n c) (s:ByteArray) (D:a.eval x=.string s) (z:0<s.size) (m:n+s.size<=1000000000)
 (h:∀g cap w',w'.ownsRow 0 e 1 (.slice (some ⟨g,0,none⟩) (n+s.size) cap) (n+s.size) (c++Lib.strCells s)->w.grownBy w' v.ownBlock->(v.ownBlock=some g\/g=w.heap.size)->wpList P d Q rest (a.put o.dst (.slice (some ⟨g,0,none⟩) (n+s.size) cap)) w'):wpList P d Q (o :: rest) a w:=by
 refine wpList_plain q fun F l=>?_
 obtain⟨g,cap,w',y,f,j,k⟩:=JA (P:=P) w t b o.type e i B C r E A p v n c hown s z m;unfold Oper.wp execOp;simp only[u,resolve,invoke,builtin,Sem.run_bind,Sem.run_pure,Result.andThen_ok,List.map_toArray,List.map_cons,List.map_nil,hs,D,y];exact l _ _ (h g cap w' f j k)
theorem Du{w:World}{base e size n:Nat}{v:Value}{b:List Value}(h:w.ownsRow base e size v n b):∃a c,v=.slice a n c:=by
 rcases h.2 with⟨h,h0⟩ | ⟨g,cap,cs,h,_⟩
 ·exact⟨none,0,by rw[h,h0]⟩
 ·exact⟨_,cap,h⟩
theorem fP.aci{w d:World}{bv r s:Nat}{G:Lg}{m:Lm}{q q' n:Nat}(h:fP w bv r s G m q)(k:aj (fun b=>m.jv.ownBlock=some b) w d){jv:Value}{jn:List Value}(A:jn.length=n)(hown:d.ownsRow 0 5 1 jv n jn)(B:n<=300 * q') :
 fP (d.setCell ⟨bv,6,none⟩ jv) bv r s G { m with jv:=jv,jn:=jn } q'/\aj (fun b=>b=bv\/m.jv.ownBlock=some b) w (d.setCell ⟨bv,6,none⟩ jv):=by
 subst A;have no:∀{b c t},au w b c t->t≠5->¬(m.jv.ownBlock=some b):=fun a l e=>dC h.aO.lT e a (fun e=>l e.symm) rfl
 have u:au d bv (rZ r s m G.day) 100:=k.ay h.cO (no h.cO (by decide));have y:aj (fun b=>b=bv) d (d.setCell ⟨bv,6,none⟩ jv):=(aj.refl (fun b=>b=bv) d).setCell (p:=⟨bv,6,none⟩) (.inl rfl) _;have j:aj (fun b=>b=bv\/m.jv.ownBlock=some b) w (d.setCell ⟨bv,6,none⟩ jv):=(k.mono (fun b e=>.inr e)).trans (y.mono (fun b e=>.inl e));have o:∀{b c t},au w b c t->t≠5->t≠100->¬(b=bv\/m.jv.ownBlock=some b):=by
  rintro b c t a z h0 (e | e)
  ·exact au.ne a h.cO h0 e
  ·exact no a z e
 refine⟨⟨u.set 6 _,?_⟩,j⟩;refine⟨aB h.aO.dJ j ?_,aB h.aO.fQ j ?_,h.aO.len,fun i b g x v=>j.ay (h.aO.ay i b g x v) (o (h.aO.ay i b g x v) (by decide) (by decide)),h.aO.nodup,h.aO.act.aC j ?_,aB hown y (fun b a e=>dC hown a u (by decide) e),B⟩
 ·intro b a;obtain⟨cs,f⟩:=aF h.aO.dJ a;exact o f (by decide) (by decide)
 ·intro b a;obtain⟨cs,f⟩:=aF h.aO.fQ a;exact o f (by decide) (by decide)
 ·intro b a;obtain⟨cs,t,f,l⟩:=h.aO.act.gZ a;exact o f (by rcases l with rfl | rfl <;> decide) (by rcases l with rfl | rfl <;> decide)
theorem D8(bv d f:Nat)(G:Lg)(m:Lm)(q:Nat)(line:ByteArray)(w:World)(a:fP w bv d f G m q)(hq:q<3000000)(h0:0<line.size)(hl:line.size<=290) :
 CT 44 #[PP bv,.string line] w fun e w'=>e=.returned (.tuple #[]) /\
  ∃jv jn,fP w' bv d f G { m with jv:=jv,jn:=jn } (q+1)/\(∀b,jv.ownBlock=some b->m.jv.ownBlock=some b\/w.heap.size<=b)/\aj (fun b=>b=bv\/m.jv.ownBlock=some b) w w':=by
 obtain⟨n,s⟩:=dQ m.jn.length;have c:=a.aO.lT;have Z:=a.aO.jb;rw[s]at c Z;obtain⟨t,u,i⟩:=Du c;rw[i]at c;have v6:CC w bv 6 (.slice t n u):=(a.cO.cell 6).trans (by rw[<-i];rfl);have f6:=a.cO.frozen 6;have lv:=a.cO.lt;obtain⟨i0,D,I,J,K⟩:=XN;have Y:n+line.size<=1000000000:=by omega
 have hmx:n+line.size+1<=maxLen:=by unfold maxLen;omega
 have lH:(n+line.size+1) * 1<=140737488355328:=by omega
 obtain⟨X,U,T,HN⟩:=gY c a i s;have E:(Value.slice t n u).ownBlock≠some bv:=fun e=>dC c e a.cO (by decide) rfl
 obtain⟨V,Q⟩:=aZ E a.cO;clear c a i s E;go_enter Tryz.func44,Tryz.ntmps44;go_wp2_with (at_builtin;first
  | (refine xu rfl _ _ 98 9 rfl 5 i0 Tryz.underlying98 Tryz.underlying9 D I J K (.slice t n u) n _ rfl (ae X) line rfl h0 Y ?_;intro g cap w2 F o A;have y:=ai F;have R:=ai o;have v:=ai A;have z:au w2 bv (rZ d f m G.day) 100:=(o.block bv lv (fun e=>ae V e.symm)).trans (ae Q);have j:=ai z;clear F o A z)
  | (refine wpList_append_lies _ rfl _ _ 98 rfl 0 5 i0 (.int .u8 0) 1 1 Tryz.underlying98 D I J K rfl (by decide) (.slice (some ⟨g,0,none⟩) (n+line.size) cap) (n+line.size) _ rfl (aB (ae y) ((aj.refl aA w2).alloc _) (fun _ _ x=>x)) ⟨w2.heap.size,0,none⟩ 1 1 [.int .u8 10] rfl rfl (World.news_of_block (au.new w2 #[.int .u8 10] 5)) (by simp[Value.oneCell']) (by omega) hmx lH (by omega) (w2.heap.size+1) (by simp) ?_;intro g4 cap4 O H p B hlt4;have W:=ai H;have S:=ai p;have P:=ai B;have l:au O bv (rZ d f m G.day) 100:=(p.block bv (((ae j).alloc _).lt) (fun e=>au.ne (ae j) (aF (ae y) (show (Value.slice (some ⟨g,0,none⟩) (n+line.size) cap).ownBlock=some bv from e.symm)).choose_spec (by decide) rfl)).trans ((ae j).alloc _);have N:=l.cell 6;have f64:=l.frozen 6;simp only[rZ]at N;simp at N;clear H p B l))
 go_end0;have r:=ae T;have L:aj (fun b=>m.jv.ownBlock=some b) w w2:=(aj.refl _ w).grown (ae R) (fun k e=>.inl (by rw[r];exact e));have k4:aj (fun b=>m.jv.ownBlock=some b) w O:=(L.alloc _).grown (ae S) (fun k e=>by
  simp only[Value.ownBlock,Option.some.injEq]at e;subst e;rcases ae v with e | e
  ·exact .inl (by rw[r];exact e)
  ·exact .inr (by omega))
 have M:=ae W;have hlen:((m.jn++Lib.strCells line)++[Value.int .u8 10]).length=n+line.size+1:=by have:=M.1;omega
 have hs:=(ae U).aci k4 (q':=q+1) hlen M (by omega);refine⟨rfl,_,_,hs.1,?_,hs.2⟩;intro b C;simp only[Value.ownBlock,Option.some.injEq]at C;subst C;rcases ae P with e | e
 ·simp only[Value.ownBlock,Option.some.injEq]at e;subst e;rcases ae v with e | e
  ·exact .inl (by rw[r];exact e)
  ·exact .inr (by omega)
 ·have:=L.size;exact .inr (by omega)
theorem Eo(w:World)(ty:TypeId)(a b:Option Addr)(n c m k:Nat):(Builtin.append_ #[109,108] ty #[.slice a n c,.slice b m k]).run Tryz.prog w=(Builtin.append_ #[109,109] ty #[.slice a n c,.slice b m k]).run Tryz.prog w:=by kernel_rfl
theorem aat:∃i,Tryz.prog.info? 1=some i/\i.zero=some .nilFunc/\i.size=1/\i.bytes=8:=by
 have h:(Tryz.prog.info? 1).map (fun i=>(i.zero,i.size,i.bytes))=some (some .nilFunc,1,8):=by kernel_rfl
 cases hi:Tryz.prog.info? 1 with
 | none=>rw[hi]at h;simp at h
 | some i=>rw[hi]at h;simp at h;exact⟨i,rfl,h.1,h.2.1,h.2.2⟩
theorem QP:∃i,Tryz.prog.info? 109=some i/\i.zero=some (.slice none 0 0)/\i.size=1/\i.bytes=24:=by
 have h:(Tryz.prog.info? 109).map (fun i=>(i.zero,i.size,i.bytes))=some (some (.slice none 0 0),1,24):=by kernel_rfl
 cases hi:Tryz.prog.info? 109 with
 | none=>rw[hi]at h;simp at h
 | some i=>rw[hi]at h;simp at h;exact⟨i,rfl,h.1,h.2.1,h.2.2⟩
theorem zh{p:Array Oper}{o:Oper}{a:Act}{k:Act->World->Prop}{Q:Exit->Act->World->Prop}{q:Prop}{w:World}(A:o.guard=none)(s x:Operand)
 (E:o.op=.call { callee:=.builtin .append,args:=#[s,x],argTypes:=#[109,108] })
 (sa:Option Addr) (n b:Nat) (f:List Value) (hs:a.eval s=.slice sa n b) (hown:w.ownsRow 0 1 1 (.slice sa n b) n f)
 (e:Addr) (m c:Nat) (news:List Value) (I:a.eval x=.slice (some e) m c) (C:news.length=m * 1) (hnews:∀j d,news[j]?=some d->w.cell? (e.add j)=some d) (r:∀d∈news,d.oneCell'=true)
 (D:0<m) (K:n+m<=2000000000) (H:Nat) (hH:w.heap.size=H)
 (h:∀g cap w',w'.ownsRow 0 1 1 (.slice (some ⟨g,0,none⟩) (n+m) cap) (n+m) (f++news)->w.grownBy w' (Value.slice sa n b).ownBlock->((Value.slice sa n b).ownBlock=some g\/g=H)->g<w'.heap.size->k (a.put o.dst (.slice (some ⟨g,0,none⟩) (n+m) cap)) w') :
 if Region.wanted o (yielded p a.tmps)=true then Oper.wp Tryz.prog o a w k Q else q:=by
 have G:Region.wanted o (yielded p a.tmps)=true:=by simp[Region.wanted,A]
 rw[if_pos G];obtain⟨i,B,J,F,z⟩:=aat;obtain⟨g,cap,w',l,t,u,v,y⟩:=run_append_lies (P:=Tryz.prog) w 109 o.type 0 1 i .nilFunc 1 8 Tryz.underlying109 B J F z rfl (by decide) (.slice sa n b) n f hown e m c news C hnews r D (by unfold maxLen;omega) (by omega) (by omega) H hH;rw[<-Eo]at l;unfold Oper.wp execOp;simp only[E,resolve,invoke,builtin,Sem.run_bind,Sem.run_pure,Result.andThen_ok,List.map_toArray,List.map_cons,List.map_nil,hs,I,l];exact h g cap w' t u v y
def Lg.begun(G:Lg):Lg:={ G with na:=G.na+1,nt:=[] }
def Lg.aY(G:Lg)(ds:List dU):Lg:={ G with nt:=G.nt++ds }
theorem AL{w:World}{base e size n:Nat}{v:Value}{b:List Value}(h:w.ownsRow base e size v n b):∃a c,v=.slice a n c:=Du h
theorem fP.UC{l w2:World}{bv r s:Nat}{G:Lg}{m:Lm}{q:Nat}(h:fP l bv r s G m q)(C:q<=G.ud+G.na+1){n H g cap:Nat}(B:G.na=n)(hown:w2.ownsRow 0 109 1 (.slice (some ⟨g,0,none⟩) (n+1) cap) (n+1) (m.ac.map Prod.fst++[.slice none 0 0]))(w:l.grownBy w2 m.av.ownBlock)(z:m.av.ownBlock=some g\/g=H)(hH:l.heap.size=H) :
 bz (w2.setCell ⟨bv,5,none⟩ (.slice (some ⟨g,0,none⟩) (n+1) cap)) bv r s G.begun { m with av:=.slice (some ⟨g,0,none⟩) (n+1) cap,ac:=m.ac++[(.slice none 0 0,[])] } /\
  (∀b,Lm.F { m with av:=.slice (some ⟨g,0,none⟩) (n+1) cap,ac:=m.ac++[(.slice none 0 0,[])] } b->m.F b\/H<=b)/\aj (fun b=>b=bv\/m.av.ownBlock=some b) l (w2.setCell ⟨bv,5,none⟩ (.slice (some ⟨g,0,none⟩) (n+1) cap)):=by
 have u:au w2 bv (rZ r s m G.day) 100:=(w.block bv h.cO.lt (fun e=>h.JH (iQ e.symm))).trans h.cO;have o:aj (fun b=>b=bv\/m.av.ownBlock=some b) l (w2.setCell ⟨bv,5,none⟩ (.slice (some ⟨g,0,none⟩) (n+1) cap)) :=
  ((aj.refl _ l).grown w (fun k e=>.inl (.inr e))).setCell (p:=⟨bv,5,none⟩) (.inl (.inl rfl)) _
 have D:aj (fun b=>b=bv) w2 (w2.setCell ⟨bv,5,none⟩ (.slice (some ⟨g,0,none⟩) (n+1) cap)):=(aj.refl (fun b=>b=bv) w2).setCell (p:=⟨bv,5,none⟩) (.inl rfl) _;have no:∀{b c t},au l b c t->t≠100->t≠109->¬(b=bv\/m.av.ownBlock=some b):=by
  rintro b c t d h0 y (e | e)
  ·exact au.ne d h.cO h0 e
  ·exact dC h.aO.act.row e d (fun e=>y e.symm) rfl
 refine⟨⟨u.set 5 _,?_⟩,?_,o⟩
 ·refine⟨aB h.aO.dJ o ?_,aB h.aO.fQ o ?_,h.aO.len,fun i b g x v=>o.ay (h.aO.ay i b g x v) (no (h.aO.ay i b g x v) (by decide) (by decide)),h.aO.nodup,⟨?_,?_,?_,?_,?_⟩,aB h.aO.lT o ?_,Nat.le_trans h.aO.jb (Nat.mul_le_mul_left 300 C)⟩
  ·intro b d;obtain⟨cs,j⟩:=aF h.aO.dJ d;exact no j (by decide) (by decide)
  ·intro b d;obtain⟨cs,j⟩:=aF h.aO.fQ d;exact no j (by decide) (by decide)
  ·have A:(m.ac++[((.slice none 0 0:Value),([]:List Value))]).length=n+1:=by rw[List.length_append,h.aO.act.len,B];rfl
   simp only[A,List.map_append,List.map_cons,List.map_nil];exact aB hown D (fun b d e=>dC hown d u (by decide) e)
  ·intro a f;rcases List.mem_append.1 f with f | f
   ·refine aB (h.aO.act.own a f) o (fun b d=>?_);obtain⟨cs,j⟩:=aF (h.aO.act.own a f) d;exact no j (by decide) (by decide)
   ·simp only[List.mem_singleton]at f;subst f;exact World.ownsRow_nil _ _ _ _
  ·rw[List.filterMap_append]
   simpa [Value.ownBlock] using h.aO.act.dis
  ·show _=G.na+1;rw[List.length_append,h.aO.act.len];rfl
  ·intro a f;rw[List.getLast?_append]at f;simp at f;rw[<-f]
   rfl
  ·intro b d;obtain⟨cs,j⟩:=aF h.aO.lT d;exact no j (by decide) (by decide)
 ·rintro b (d | d | d | d | ⟨a,f,d⟩)
  ·exact .inl (.inl d)
  ·exact .inl (.inr (.inl d))
  ·exact .inl (jL d)
  ·simp only[Value.ownBlock,Option.some.injEq]at d;rcases z with e | e
   ·exact .inl (iQ (by rw[e,d]))
   ·right;omega
  ·rcases List.mem_append.1 f with f | f
   ·exact .inl (xA ⟨a,f,d⟩)
   ·simp only[List.mem_singleton]at f;subst f;simp[Value.ownBlock]at d
theorem SI{α:Type}(l:List α)(x y:α):(l++[x]).set l.length y=l++[y]:=by
 induction l with
 | nil=>rfl
 | cons a l ih=>simp only[List.cons_append,List.length_cons,List.set_cons_succ,ih]
theorem fP.Qz{u w2:World}{bv N O:Nat}{G:Lg}{m:Lm}(h:bz u bv N O G m){q:List (Value × List Value)}{r:Value}{fs news:List Value}{ds:List dU}{n k j L g cap c H:Nat}(s:m.ac=q++[(r,fs)])(B:m.av=.slice (some ⟨j,0,none⟩) n L)(K:G.na=n)(hk:k+1=n)
 (hown:w2.ownsRow 0 1 1 (.slice (some ⟨g,0,none⟩) (fs.length+c) cap) (fs.length+c) (fs++news)) (J:u.grownBy w2 r.ownBlock) (Q:r.ownBlock=some g\/g=H) (hH:u.heap.size=H) (QE:ds.length=c) :
 bz (w2.setCell ⟨j,k,none⟩ (.slice (some ⟨g,0,none⟩) (fs.length+c) cap)) bv N O (G.aY ds) { m with ac:=q++[(.slice (some ⟨g,0,none⟩) (fs.length+c) cap,fs++news)] } /\
  (∀b,Lm.F { m with ac:=q++[(.slice (some ⟨g,0,none⟩) (fs.length+c) cap,fs++news)] } b->m.F b\/H<=b)/\aj (fun b=>gK m.av m.ac b) u (w2.setCell ⟨j,k,none⟩ (.slice (some ⟨g,0,none⟩) (fs.length+c) cap)) /\
  (∀b,gK m.av (q++[(.slice (some ⟨g,0,none⟩) (fs.length+c) cap,fs++news)]) b->gK m.av m.ac b\/H<=b):=by
 have l:=h.aO.act;have C:(r,fs)∈m.ac:=by rw[s];simp
 have A:m.av.ownBlock=some j:=by rw[B];rfl
 have T:q.length=k:=by
  have:=l.len;rw[s,K,List.length_append]at this;simp at this;omega
 have V:r.ownBlock≠some j:=fun e=>by
  obtain⟨cs,o⟩:=aF (l.own _ C) e;exact dC l.row A o (by decide) rfl
 have v:aj (fun b=>b=j\/r.ownBlock=some b) u (w2.setCell ⟨j,k,none⟩ (.slice (some ⟨g,0,none⟩) (fs.length+c) cap)) :=
  ((aj.refl _ u).grown J (fun k e=>.inl (.inr e))).setCell (p:=⟨j,k,none⟩) (.inl (.inl rfl)) _
 have k3:aj (fun b=>b=j) w2 (w2.setCell ⟨j,k,none⟩ (.slice (some ⟨g,0,none⟩) (fs.length+c) cap)):=(aj.refl (fun b=>b=j) w2).setCell (p:=⟨j,k,none⟩) (.inl rfl) _;have no:∀{b c t},au u b c t->t≠109->t≠1->¬(b=j\/r.ownBlock=some b):=by
  rintro b c t d h0 w (e | e)
  ·exact dC l.row A d (fun e=>h0 e.symm) e.symm
  ·exact dC (l.own _ C) e d (fun e=>w e.symm) rfl
 have I:=l.dis;rw[s,List.filterMap_append]at I;have P:∀a,a∈q->∀b,a.1.ownBlock=some b->r.ownBlock≠some b:=by
  intro a f b d e;have D:=(List.nodup_append.1 I).2.2;exact D b (List.mem_filterMap.2 ⟨a,f,d⟩) b (by simp[e]) rfl
 have ltI:∀a,a∈q->∀b,a.1.ownBlock=some b->b<u.heap.size:=by
  intro a f b d;obtain⟨cs,o⟩:=aF (l.own a (by rw[s];exact List.mem_append.2 (.inl f))) d;exact o.lt
 have M:∀b,gK m.av (q++[(.slice (some ⟨g,0,none⟩) (fs.length+c) cap,fs++news)]) b->gK m.av m.ac b\/H<=b:=by
  rintro b (d | ⟨a,f,d⟩)
  ·exact .inl (.inl d)
  ·rcases List.mem_append.1 f with f | f
   ·exact .inl (.inr ⟨a,by rw[s];exact List.mem_append.2 (.inl f),d⟩)
   ·simp only[List.mem_singleton]at f;subst f;simp only[Value.ownBlock,Option.some.injEq]at d;subst d;rcases Q with e | e
    ·exact .inl (.inr ⟨_,C,e⟩)
    ·right;omega
 refine⟨⟨v.ay h.cO (no h.cO (by decide) (by decide)),?_⟩,?_,v.mono (fun b d=>by
  rcases d with e | e
  ·subst e;exact .inl A
  ·exact .inr ⟨_,C,e⟩),?_⟩
 ·refine⟨aB h.aO.dJ v ?_,aB h.aO.fQ v ?_,h.aO.len,fun i b g R z=>v.ay (h.aO.ay i b g R z) (no (h.aO.ay i b g R z) (by decide) (by decide)),h.aO.nodup,⟨?_,?_,?_,?_,?_⟩,aB h.aO.lT v ?_,h.aO.jb⟩
  ·intro b d;obtain⟨cs,o⟩:=aF h.aO.dJ d;exact no o (by decide) (by decide)
  ·intro b d;obtain⟨cs,o⟩:=aF h.aO.fQ d;exact no o (by decide) (by decide)
  ·have W:=l.row;rw[l.len,K]at W;have S:(q++[((.slice (some ⟨g,0,none⟩) (fs.length+c) cap:Value),fs++news)]).length=n:=by rw[List.length_append,T];exact hk
   rcases W.2 with⟨e,_⟩ | ⟨g',cap',Y,e,h0,z,w,D,h3,h4⟩
   ·rw[B]at e;simp at e
   ·rw[B]at e;simp only[Value.slice.injEq,Option.some.injEq,Addr.mk.injEq]at e;obtain⟨⟨Z,_⟩,_,e2⟩:=e;subst Z e2;have E:au w2 j Y 109:=(J.block j (au.lt z) (fun e=>V e.symm)).trans z;have hb3:=E.set k (.slice (some ⟨g,0,none⟩) (fs.length+c) cap);rw[S];refine⟨by simp only[List.length_map,S];omega,.inr ⟨j,L,_,B,h0,hb3,w,D,by rw[Array.size_setIfInBounds];exact h3,?_⟩⟩;rw[Array.toList_setIfInBounds,List.take_set,h4,s];simp only[List.map_append,List.map_cons,List.map_nil];have:k=(q.map Prod.fst).length:=by rw[List.length_map,T]
    rw[this];exact SI _ _ _
  ·intro a f;rcases List.mem_append.1 f with f | f
   ·have U:a∈m.ac:=by rw[s];exact List.mem_append.2 (.inl f)
    refine aB (l.own a U) v ?_;rintro b d (e | e)
    ·obtain⟨cs,o⟩:=aF (l.own a U) d;subst e;exact dC l.row A o (by decide) rfl
    ·exact P a f b d e
   ·simp only[List.mem_singleton]at f;subst f;have e:(fs++news).length=fs.length+c:=by have:=hown.1;omega
    simp only[e];refine aB hown k3 (fun b d e=>?_);simp only[Value.ownBlock,Option.some.injEq]at d;subst d;subst e;obtain⟨cs,o⟩:=aF l.row A;have E:au w2 g cs 109:=(J.block g o.lt (fun e=>V e.symm)).trans o;exact dC hown rfl E (by decide) rfl
  ·rw[List.filterMap_append,List.nodup_append];refine⟨(List.nodup_append.1 I).1,by simp[Value.ownBlock],?_⟩;intro x hx y X e;simp[Value.ownBlock]at X;subst X;subst e;obtain⟨a,f,d⟩:=List.mem_filterMap.1 hx;rcases Q with e | e
   ·exact P a f _ d e
   ·have:=ltI a f _ d;omega
  ·have:q.length+1=n:=by omega
   simpa [K,Lg.aY] using this
  ·intro a f;simp at f;subst f;have w:=l.last (r,fs) (by rw[s];simp);simp only at w;have:=hown.1;simp only[Lg.aY,List.length_append]at this ⊢;omega
  ·intro b d;obtain⟨cs,o⟩:=aF h.aO.lT d;exact no o (by decide) (by decide)
 ·rintro b (d | d | d | d)
  ·exact .inl (.inl d)
  ·exact .inl (.inr (.inl d))
  ·exact .inl (jL d)
  ·exact (M b d).imp_left (fun h=>BA h)
 ·exact M
theorem yO{α:Type}:∀l:List α,0<l.length->∃i x,l=i++[x]
 | [],h=>absurd h (by simp)
 | [x],_=>⟨[],x,rfl⟩
 | a :: b :: l,_=>by
   obtain⟨i,x,e⟩:=yO (b :: l) (by simp);exact⟨a :: i,x,by rw[e];rfl⟩
theorem QT(n:Int)(h0:-9223372036854775808<=n)(a:n<=9223372036854775807)(w:World)(b:qj w) :
 CT 115 #[II n] w fun e w'=>∃s:ByteArray,e=.returned (.string s)/\s.size<=21/\(⟨#[32]⟩++s:ByteArray)=OC n/\aj aA w w':=by
 refine (QS n h0 a w b).mono ?_;rintro e w' ⟨rfl,k⟩;refine⟨_,rfl,?_,rfl,k⟩;have:=Lib.itoa_length_le n h0 a;have e:(ByteArray.mk (Lib.itoa n).toArray).size=(Lib.itoa n).length:=by show (Lib.itoa n).toArray.size=_;simp
 omega
theorem gu{P:Program}(a b:ByteArray)(h:a.size+b.size<=1000000)(c:World):(Op.stringOp .add a b).run P c=.ok (.string (a++b)) c:=run_string_add_sum c _ _ (by omega)
theorem rF(a:ByteArray)(f:Nat->Int)(c m cap:Nat)(w:World)(g:qj w)(J:m<=100)(L:a.size<=1000)
 (b:∀i,i<m->w.cell? ⟨c,i,none⟩=some (II (f i))) (n:∀i,i<m->-9223372036854775808<=f i/\f i<=9223372036854775807) :
 CT 65 #[.string a,.slice (some ⟨c,0,none⟩) m cap] w fun e w'=>e=.returned (.string (iJ f a m))/\aj aA w w':=by
 obtain⟨y,r,d⟩:=fK g b n;clear g b n;go_enter Tryz.func65,Tryz.ntmps65;go_wp2;go_loopg [0,6,9] m (fun k C _ B wr=>∃i:Nat,B=II (i:Int)/\i<=m/\k=m-i/\C=.string (iJ f a i)/\aj aA w wr)
 case atStart=>exact⟨0,rfl,Nat.zero_le _,rfl,rfl,aj.refl _ _⟩
 case round =>
  obtain⟨i,rfl,G,F,rfl,b⟩:=hrel;by_cases o:i<m
  ·have E:CC wr c i (II (f i)):=b.cell (ae r i o) idd;have l:=ae d i o;have z:=ai ((ae y).ax b);have t:=ai b;clear b;have I:(iJ f a i).size<=10000:=by
    have:=jX f a i (fun j H=>ae d j (by omega));omega
   have A:Hid (iJ f a (i+1)=iJ f a i++OC (f i)):=rfl;generalize hv:f i=v at *;generalize hsw:iJ f a i=sw at *;clear hv hsw;go_wp2_with (go_at_call 115;refine (QT v l.1 l.2 _ (ae z)).mono ?_;rintro e w' ⟨s,rfl,K,q,p⟩;have u:=ai p;have x:=ai q;clear p q;have c1:=gu (P:=Tryz.prog) ⟨#[32]⟩ s (by show 1+s.size<=1000000;omega);have D:=gu (P:=Tryz.prog) sw (⟨#[32]⟩++s) (by rw[ByteArray.size_append];show sw.size+(1+s.size)<=1000000;omega));go_roundg (m-(i+1))
   case measure=>omega
   case rel=>exact⟨i+1,by push_cast;rfl,by omega,rfl,by rw[ae A,ae x],(ae t).trans (ae u)⟩
  ·obtain rfl:i=m:=by omega
   go_wp2;go_ret;exact⟨rfl,b⟩
def DY(a b:Int)(i:Nat):Int:=if i=0 then a else b
def Oe(a b c d:Int)(i:Nat):Int:=if i=0 then a else if i=1 then b else if i=2 then c else d
def uo:ByteArray:=⟨#[101,110,116,101,114]⟩
def D6:ByteArray:=⟨#[98,117,115,116]⟩
def vK(id aG:Int)(sym:ByteArray)(side kind af az:Int):ByteArray:=(iJ (DY id aG) uo 2++⟨#[32]⟩)++iJ (Oe side kind af az) sym 4
def dM(n:Int):Prop:=-9223372036854775808<=n/\n<=9223372036854775807
def abn(W:World)(w1:ByteArray)(a b:Int)(s1 w2:ByteArray)(c d e f:Int)(s2:ByteArray)(word:ByteArray)(sb m:Nat)(s:ByteArray):Prop :=
 (m=2/\word=w1/\W.cell? ⟨sb,0,none⟩=some (II a)/\W.cell? ⟨sb,1,none⟩=some (II b)/\s=s1) \/
 (m=4/\word=w2/\W.cell? ⟨sb,0,none⟩=some (II c)/\W.cell? ⟨sb,1,none⟩=some (II d)/\W.cell? ⟨sb,2,none⟩=some (II e)/\W.cell? ⟨sb,3,none⟩=some (II f)/\s=s2)
theorem TC(q w2:ByteArray)(a b c o e f:Int)(v:q.size<=1000)(w:w2.size<=1000)(y:dM a)(z:dM b)(A:dM c)(B:dM o)(C:dM e)(D:dM f)(p:World)(x:qj p) :
 ∀d,aj aA p d->∀n l m cap s,abn d q a b (iJ (DY a b) q 2) w2 c o e f (iJ (Oe c o e f) w2 4) n l m s ->
  CT 65 #[.string n,.slice (some ⟨l,0,none⟩) m cap] d fun e w'=>e=.returned (.string s)/\aj aA p w'/\aj aA d w':=by
 intro d k n l m cap s E;have r:=x.ax k;rcases E with⟨rfl,rfl,c0,c1,rfl⟩ | ⟨rfl,rfl,c0,c1,t,u,rfl⟩
 ·refine (rF n (DY a b) l 2 cap d r (by omega) v ?_ ?_).mono ?_
  ·intro i g
   match i,g with
   | 0,_=>exact c0
   | 1,_=>exact c1
  ·intro i g
   match i,g with
   | 0,_=>exact y
   | 1,_=>exact z
  ·rintro e w' ⟨rfl,j⟩;exact⟨rfl,k.trans j,j⟩
 ·refine (rF n (Oe c o e f) l 4 cap d r (by omega) w ?_ ?_).mono ?_
  ·intro i g
   match i,g with
   | 0,_=>exact c0
   | 1,_=>exact c1
   | 2,_=>exact t
   | 3,_=>exact u
  ·intro i g
   match i,g with
   | 0,_=>exact A
   | 1,_=>exact B
   | 2,_=>exact C
   | 3,_=>exact D
  ·rintro e w' ⟨rfl,j⟩;exact⟨rfl,k.trans j,j⟩
theorem yV(id c:Int)(sym:ByteArray)(side b af az:Int)(w:World)(y:qj w)(hs:sym.size<=1000)(n:dM id)(o:dM c)(q:dM side)(r:dM b)(s:dM af)(t:dM az) :
 CT 113 #[.agg #[II id,II c,.string sym,II side,II b,II af,II az]] w fun e w'=>e=.returned (.string (vK id c sym side b af az))/\aj aA w w':=by
 obtain⟨m,l⟩:=gy (w.alloc (.cells #[II id,II c,.string sym,II side,II b,II af,II az] 52));have g:aj aA w m:=by rw[l];exact (aj.refl aA w).alloc _
 have k:au m w.heap.size #[II id,II c,.string sym,II side,II b,II af,II az] 52:=by rw[l];exact au.new _ _ _
 have z:=y.ax g;have v:=TC uo sym id c side b af az (by decide) hs n o q r s t m z;have I:=jX (DY id c) uo 2 (fun i u=>by match i,u with | 0,_=>exact n | 1,_=>exact o);have z2:=jX (Oe side b af az) sym 4 (fun i u=>by match i,u with | 0,_=>exact q | 1,_=>exact r | 2,_=>exact s | 3,_=>exact t);unfold vK;have J:uo.size=5:=by decide
 rw[J]at I;generalize iJ (DY id c) uo 2=s1 at *;generalize iJ (Oe side b af az) sym 4=s2 at *;have c1:=gu (P:=Tryz.prog) s1 ⟨#[32]⟩ (by show s1.size+1<=1000000;omega);have U:=gu (P:=Tryz.prog) (s1++⟨#[32]⟩) s2 (by rw[ByteArray.size_append];show (s1.size+1)+s2.size<=1000000;omega);obtain⟨H,hH⟩:=dQ w.heap.size;rw[hH]at k;obtain⟨A,B,C,D,E,F,G⟩:=k.c7;have V:H<m.heap.size:=k.lt;obtain⟨x,K,L⟩:=fK v g l;clear v g l z y k n o q r s t I z2 J hs;go_enter Tryz.func113,Tryz.ntmps113;go_wp2;rw[<-ae L];go_region_held3 (fun w'=>w'.cell? ⟨H,0,none⟩=some (II id)/\w'.cell? ⟨H,1,none⟩=some (II c)/\w'.cell? ⟨H,2,none⟩=some (.string sym)/\w'.cell? ⟨H,3,none⟩=some (II side)/\w'.cell? ⟨H,4,none⟩=some (II b)/\w'.cell? ⟨H,5,none⟩=some (II af)/\w'.cell? ⟨H,6,none⟩=some (II az)) (go_keep)
  (first
    | (go_at_call 65;refine (ae x _ ?cc _ _ _ _ s1 ?wt).mono ?_;(case wt=>exact Or.inl ⟨rfl,rfl,by go_keep,by go_keep,rfl⟩);(case cc=>repeat (first | exact ae j | exact aj.refl _ _ | refine aj.drew ?_ | refine aj.alloc ?_ _));rintro e T ⟨rfl,a,f⟩;have d:=ai f;clear f;have g:=a.cell (p:=⟨H,0,none⟩) A idd;have M:=a.cell (p:=⟨H,1,none⟩) B idd;have N:=a.cell (p:=⟨H,2,none⟩) C idd;have O:=a.cell (p:=⟨H,3,none⟩) D idd;have Q:=a.cell (p:=⟨H,4,none⟩) E idd;have R:=a.cell (p:=⟨H,5,none⟩) F idd;have S:=a.cell (p:=⟨H,6,none⟩) G idd;have j:=ai a;clear a)
    | (go_at_call 65;refine (ae x _ ?cc _ _ _ _ s2 ?wt).mono ?_;(case wt=>exact Or.inr ⟨rfl,rfl,(by first | go_keep | exact (ae d).cell (by go_keep) idd),(by first | go_keep | exact (ae d).cell (by go_keep) idd),(by first | go_keep | exact (ae d).cell (by go_keep) idd),(by first | go_keep | exact (ae d).cell (by go_keep) idd),rfl⟩);(case cc=>repeat (first | exact ae j | exact aj.refl _ _ | refine aj.drew ?_ | refine aj.alloc ?_ _));rintro e T ⟨rfl,a,f⟩;have d:=ai f;clear f;have g:=a.cell (p:=⟨H,0,none⟩) A idd;have M:=a.cell (p:=⟨H,1,none⟩) B idd;have N:=a.cell (p:=⟨H,2,none⟩) C idd;have O:=a.cell (p:=⟨H,3,none⟩) D idd;have Q:=a.cell (p:=⟨H,4,none⟩) E idd;have R:=a.cell (p:=⟨H,5,none⟩) F idd;have S:=a.cell (p:=⟨H,6,none⟩) G idd;have j:=ai a;clear a))
 all_goals
  go_wp2;go_ret;exact⟨rfl,(ae K).trans (by repeat (first | exact ae j | exact aj.refl _ _ | refine aj.drew ?_ | refine aj.drewN ?_ _ | refine aj.alloc ?_ _))⟩
def nJ:List Rc->List Rc->List Rc
 | R,[]=>R
 | R,r :: t=>nJ (R++[{ r with num:=(R.length:Int)+1 }]) t
theorem xZ:∀(R t:List Rc) (r:Rc),nJ R (t++[r])=nJ R t++[{ r with num:=((nJ R t).length:Int)+1 }]
 | R,[],r=>rfl
 | R,x :: t,r=>by show nJ _ (t++[r])=nJ _ t++_;rw[xZ];rfl
theorem AV:∀(R t:List Rc),(nJ R t).length=R.length+t.length
 | R,[]=>rfl
 | R,x :: t=>by show (nJ _ t).length=_;rw[AV];simp;omega
open Go.RowKit Go.Sort
structure iT where
 af:Int
 az:Int
 num:Int
def iT.cells(l:iT):List Value:=[II l.af,II l.az,II l.num]
def jF(ls:List iT):List Value:=ls.flatMap iT.cells
theorem tH(a:List iT):(jF a).length=3 * a.length:=by
 induction a with
 | nil=>rfl
 | cons l a ih=>simp only[jF,List.flatMap_cons,List.length_append,List.length_cons]at *;simp only[iT.cells,List.length_cons,List.length_nil];omega
theorem KC(a:List iT)(k c:Nat)(b:k<a.length)(e:c<3):(jF a)[3 * k+c]?=(a[k].cells)[c]?:=by
 induction a generalizing k with
 | nil=>exact absurd b (by simp)
 | cons l a ih =>
   have d:(iT.cells l).length=3:=rfl;cases k with
   | zero =>
     simp only[jF,List.flatMap_cons];rw[List.getElem?_append_left (by omega)];simp
   | succ k =>
     have:=ih k (by simpa using b);simp only[jF,List.flatMap_cons]at *;rw[List.getElem?_append_right (by omega),d,show 3 * (k+1)+c-3=3 * k+c from by omega,this];simp
def jK(ls:List iT)(o:Ord):List iT :=
 match ls.getLast? with
 | some l=>if l.af=o.af then ls.dropLast++[⟨l.af,wrap64 (l.az+o.aH),wrap64 (l.num+1)⟩] else ls++[⟨o.af,wrap64 o.aH,1⟩]
 | none=>[⟨o.af,wrap64 o.aH,1⟩]
def je(os:List Ord):List iT:=os.foldl jK []
def uK(n₀:Nat)(W:World)(v:Value)(ls:List iT):Prop :=
 (v=.slice none 0 0/\ls=[])\/∃g cap cs,v=.slice (some ⟨g,0,none⟩) ls.length cap/\n₀<=g/\au W g cs 93/\ls.length<=cap/\cap<=maxLen/\cs.size=cap * 3/\cs.toList.take (ls.length * 3)=jF ls/\0<ls.length
theorem uK.owns{n₀:Nat}{b:World}{v:Value}{a:List iT}(h:uK n₀ b v a):b.ownsRow n₀ 93 3 v a.length (jF a):=by
 refine⟨by rw[tH];omega,?_⟩;rcases h with⟨rfl,rfl⟩ | ⟨g,cap,cs,rfl,c,d,e,f,i,j⟩
 ·exact .inl ⟨rfl,rfl⟩
 ·exact .inr ⟨g,cap,cs,rfl,c,d,e,f,i,j.1⟩
theorem EJ:(Tryz.prog.info? 93).map (fun i=>(i.zero,i.size,i.bytes))=some (some (.agg #[II 0,II 0,II 0]),3,24):=by kernel_rfl
def iG(om:Nat->Ord)(ys:List Nat):List Ord:=ys.map om
def wO(t0:List Tg)(r:Rc):Option (Int × Tr) :=
 if r.kind=1 then some (2,r.t) else if r.kind=2 then some (1,r.t) else if r.kind=3 then (t0[(r.t.num-1).toNat]?).map (fun x=>(3,x.t)) else none
def lY(t0:List Tg)(told:List Rc):List (Int × Tr):=told.filterMap (wO t0)
def pW(t0:List Tg)(told:List Rc):Prop:=∀r∈told,r.kind=3->∃(k:Nat) (x:Tg),r.t.num-1=(k:Int)/\t0[k]?=some x
theorem pW.nil{t0:List Tg}:pW t0 []:=fun r a _=>(List.not_mem_nil a).elim
theorem pW.one{t0:List Tg}{r:Rc}(h:r.kind≠3):pW t0 [r]:=fun x a e=>absurd (by rw[<-List.mem_singleton.1 a];exact e) h
def iL(R:List Rc)(B:List (Int × Tr)):List Rc:=B.foldl (fun R p=>R++[⟨(R.length:Int)+1,p.1,p.2⟩]) R
theorem IZ(R:List Rc)(B:List (Int × Tr))(p:Int × Tr):iL R (B++[p])=iL R B++[⟨((iL R B).length:Int)+1,p.1,p.2⟩]:=by
 unfold iL;rw[List.foldl_append]
 rfl
theorem vX:∀(B:List (Int × Tr)) (R:List Rc),(iL R B).length=R.length+B.length
 | [],R=>rfl
 | p :: B,R=>by
   show (iL (R++[_]) B).length=_;rw[vX B];simp;omega
theorem QQ(t0:List Tg)(a:List Rc):(lY t0 a).reverse=lY t0 a.reverse:=by
 unfold lY;rw[List.filterMap_reverse]
theorem MM(t0:List Tg)(a:List Rc):(lY t0 a).length<=a.length:=List.length_filterMap_le _ _
end Go.Proofs.YtigaphnafnpfnaaGreatDoor
