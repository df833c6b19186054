import Derived.Test.YtigaphnafnpfnaaGreatDoorQVG25
import Derived.Test.YtigaphnafnpfnaaGreatDoorRows
import Derived.Deep.Slices
import Derived.OpenShut
import Derived.ProofKit
import Derived.LaidSub
import Derived.Lay
import Derived.Stop.Joined
import Derived.JoinedCond
import Derived.Lib.LaidTab
set_option linter.unusedVariables false
set_option linter.unusedSimpArgs false
set_option maxHeartbeats 8000000
set_option maxRecDepth 100000
namespace Go.Proofs.YtigaphnafnpfnaaGreatDoor
open Go.RowKit Go.Maps
attribute [local go_sem ↓] Go.wp_at_zero Go.wp_at_succ
theorem wY.aj{w0 w w':World}{wb N:Nat}(h:wY w0 wb N w)(k:ag ak w w'):wY w0 wb N w':=by
 obtain⟨X,Hs,pv,hv,h1,h2⟩:=h
 exact⟨X,Hs,pv,hv,h1.aj k,h2⟩
theorem wY.mono{w0 w:World}{wb N N':Nat}(h:wY w0 wb N w)(hN:N≤N'):wY w0 wb N' w:=by
 obtain⟨X,Hs,pv,hv,h1,h2⟩:=h
 exact⟨X,Hs,pv,hv,h1.mono hN,h2⟩
theorem wY.gY{w0 w:World}{wb N:Nat}(h:wY w0 wb N w):ag ak w0 w:=by
 obtain⟨X,Hs,pv,hv,h1,h2⟩:=h
 exact h1.gY
theorem wY.step{w0 w:World}{wb N:Nat}(h:wY w0 wb N w)(hN:N<2000000)(o:ji)(hk:o.kind≤12)(hO:nV o) :
 Calls Tryz.prog 32 #[.pointer (some ⟨wb,0,none⟩),o.val] w fun e w'=>e=.returned (.bool true)∧wY w0 wb (N+1) w':=by
 obtain⟨X,Hs,pv,hv,h1,h2⟩:=h
 exact OM h1 h2 hN o hk hO
theorem wY.looks{w0 w:World}{wb N:Nat}(h:wY w0 wb N w)(hN:N≤2000000):Calls Tryz.prog 33 #[.pointer (some ⟨wb,0,none⟩)] w fun e w'=>e=.returned (.bool true)∧wY w0 wb N w':=by
 have h0:=h
 obtain⟨X,Hs,pv,hv,h1,h2⟩:=h
 refine (Lp wb pv hv Hs w h1.blk h1.hrow h1.hds (by have:=h1.hl;omega)).mono ?_
 rintro e w' ⟨rfl,k⟩
 exact⟨rfl,h0.aj k⟩
theorem PG.first{w:World}(hT:Tab w):PG w (w.alloc (.cells #[.slice none 0 0,.slice none 0 0] 78)) w.heap.size [] [] (.slice none 0 0) (.slice none 0 0) 0:=by
 refine⟨ai.new _ _ _,World.ownsRow_nil _ _ _ _,World.ownsRow_nil _ _ _ _,fun x hx=>by simp at hx,List.Pairwise.nil,fun x hx=>by simp at hx,fun x hx=>by simp at hx,fun x hx=>by simp at hx,⟨Nat.le_refl _,fun b hb=>by simp[Value.ownBlock]at hb,fun b hb=>by simp[Value.ownBlock]at hb⟩,(ag.refl ak w).alloc _,hT,Nat.zero_le _,Nat.zero_le _⟩
def Script(w:World)(a0:Option Addr)(n:Nat)(op:Nat→ji):Prop:=∀i,i<n→nV (op i)∧∃b off,a0=some ⟨b,off,none⟩∧∀j u,(op i).cells[j]?=some u→w.cell? ⟨b,off+i * 13+j,none⟩=some u
theorem UT:nV ⟨2,0,0,0,0,⟨#[65]⟩,⟨0,0,⟨#[]⟩,0,0,0,0⟩⟩:=⟨by unfold bZ;simp,by unfold bZ;simp,by unfold bZ;simp,by unfold bZ;simp,by unfold bZ;simp,by unfold bZ;simp,by show (1:Nat)≤_;omega,by show (0:Nat)≤_;omega⟩
theorem UU:nV ⟨3,0,0,0,0,⟨#[]⟩,⟨1000,0,⟨#[65]⟩,1,0,100,5⟩⟩:=⟨by unfold bZ;simp,by unfold bZ;simp,by unfold bZ;simp,by unfold bZ;simp,by unfold bZ;simp,by unfold bZ;simp,by show (0:Nat)≤_;omega,by show (1:Nat)≤_;omega⟩
theorem UW:nV ⟨6,0,1000,0,0,⟨#[]⟩,⟨0,0,⟨#[]⟩,0,0,0,0⟩⟩:=⟨by unfold bZ;simp,by unfold bZ;simp,by unfold bZ;simp,by unfold bZ;simp,by unfold bZ;simp,by unfold bZ;simp,by show (0:Nat)≤_;omega,by show (0:Nat)≤_;omega⟩
theorem LU(a0:Option Addr)(n cap:Nat)(lo hi mo:Int)(hmo:mo≤12)(op:Nat→ji)(w:World)(hT:Tab w)(hn:n≤1048576)(hs:Script w a0 n op) :
 Calls Tryz.prog 13 #[.slice a0 n cap,.int .i64 lo,.int .i64 hi,.int .i64 mo] w fun e w'=>e=.returned (.bool true)∧ag ak w w':=by
 have H0:=hide (PG.first hT)
 have HS:=hide hs
 clear hT hs
 go_enter Tryz.func13,Tryz.ntmps13
 go_wp2_with fail
 refine (Aq (ae H0) (by omega)).mono ?_
 rintro e w1 ⟨rfl,h1⟩
 have H1:=hide h1
 clear h1 H0
 go_wp2_with fail
 refine (((ae H1).step (by omega) _ (by simp) UT)).mono ?_
 rintro e w2 ⟨rfl,h2⟩
 have H2:=hide h2
 clear h2 H1
 go_wp2_with fail
 refine (((ae H2).step (by omega) _ (by simp) UU)).mono ?_
 rintro e w3 ⟨rfl,h3⟩
 have H3:=hide h3
 clear h3 H2
 go_wp2_with fail
 refine (((ae H3).step (by omega) _ (by simp) UW)).mono ?_
 rintro e w4 ⟨rfl,h4⟩
 have H4:=hide h4
 clear h4 H3
 go_wp2
 go_loopg [10,14,15,16] n (fun k okv iv pv lv wr=>∃i:Nat,okv=.bool true∧iv=.int .i64 (i:Int)∧i≤n∧k=n-i∧wY w w.heap.size (4+i) wr)
 case atStart=>exact⟨0,rfl,rfl,Nat.zero_le _,rfl,(ae H4)⟩
 case round =>
  obtain⟨i,rfl,rfl,hi2,hgk,hp⟩:=hrel
  by_cases hlt:i<n
  ·obtain⟨hO,b,off,rfl,hc⟩:=ae HS i hlt
   have kc:=hp.gY
   have HO:=hide hO
   have HP:=hide hp
   obtain⟨o,ho⟩:∃o,op i=o:=⟨_,rfl⟩
   rw[ho]at hc HO
   obtain⟨kind,m,a,b1,c,s,⟨id,owner,sym,side,ax,price,qty⟩⟩:=o
   have g0:wr.cell? ⟨b,off+i * 13,none⟩=some (.int .i64 kind):=kc.cell (hc 0 _ rfl) (fun z=>z)
   have g1:wr.cell? ⟨b,off+i * 13+1,none⟩=some (.int .i64 m):=kc.cell (hc 1 _ rfl) (fun z=>z)
   have g2:wr.cell? ⟨b,off+i * 13+2,none⟩=some (.int .i64 a):=kc.cell (hc 2 _ rfl) (fun z=>z)
   have g3:wr.cell? ⟨b,off+i * 13+3,none⟩=some (.int .i64 b1):=kc.cell (hc 3 _ rfl) (fun z=>z)
   have g4:wr.cell? ⟨b,off+i * 13+4,none⟩=some (.int .i64 c):=kc.cell (hc 4 _ rfl) (fun z=>z)
   have g5:wr.cell? ⟨b,off+i * 13+5,none⟩=some (.string s):=kc.cell (hc 5 _ rfl) (fun z=>z)
   have g6:wr.cell? ⟨b,off+i * 13+6,none⟩=some (.int .i64 id):=kc.cell (hc 6 _ rfl) (fun z=>z)
   have g7:wr.cell? ⟨b,off+i * 13+7,none⟩=some (.int .i64 owner):=kc.cell (hc 7 _ rfl) (fun z=>z)
   have g8:wr.cell? ⟨b,off+i * 13+8,none⟩=some (.string sym):=kc.cell (hc 8 _ rfl) (fun z=>z)
   have g9:wr.cell? ⟨b,off+i * 13+9,none⟩=some (.int .i64 side):=kc.cell (hc 9 _ rfl) (fun z=>z)
   have g10:wr.cell? ⟨b,off+i * 13+10,none⟩=some (.int .i64 ax):=kc.cell (hc 10 _ rfl) (fun z=>z)
   have g11:wr.cell? ⟨b,off+i * 13+11,none⟩=some (.int .i64 price):=kc.cell (hc 11 _ rfl) (fun z=>z)
   have g12:wr.cell? ⟨b,off+i * 13+12,none⟩=some (.int .i64 qty):=kc.cell (hc 12 _ rfl) (fun z=>z)
   have lb:b<wr.heap.size:=World.block_lt_of_cell? wr _ g0
   clear hc kc hp hO ho
   by_cases hk7:kind≤mo
   ·go_wp2_with fail
    have hp2:=(ae HP).aj ((ag.refl ak wr).alloc (.cells #[.int .i64 kind,.int .i64 m,.int .i64 a,.int .i64 b1,.int .i64 c,.string s,.int .i64 id,.int .i64 owner,.string sym,.int .i64 side,.int .i64 ax,.int .i64 price,.int .i64 qty] 81))
    refine (hp2.step (by omega) ⟨kind,m,a,b1,c,s,⟨id,owner,sym,side,ax,price,qty⟩⟩ (by show kind≤12;omega) (ae HO)).mono ?_
    rintro e w5 ⟨rfl,h5⟩
    have H5:=hide h5
    clear h5 hp2 HP g0 g1 g2 g3 g4 g5 g6 g7 g8 g9 g10 g11 g12
    go_wp2_with fail
    refine ((ae H5).looks (by omega)).mono ?_
    rintro e w6 ⟨rfl,h6⟩
    have H6:=hide h6
    clear h6 H5
    go_wp2
    go_roundg (n-(i+1))
    case measure=>omega
    case rel=>exact⟨i+1,rfl,by push_cast;rfl,by omega,rfl,ae H6⟩
   ·go_wp2
    go_roundg (n-(i+1))
    case measure=>omega
    case rel=>exact⟨i+1,rfl,by push_cast;rfl,by omega,rfl,((ae HP).mono (by omega)).aj ((ag.refl ak wr).alloc _)⟩
  ·obtain rfl:i=n:=by omega
   go_wp2
   go_ret
   exact⟨rfl,hp.gY⟩
end Go.Proofs.YtigaphnafnpfnaaGreatDoor
namespace Go.Proofs.YtigaphnafnpfnaaGreatDoor
open Go.RowKit Go.Maps Go.Deep
theorem pF{H:Type}{d:DataW H}:∀{ds:List (DataW H)},d∈ds→Rows.uptoBulk d≤Rows.uptoBulkAll ds
 | [],h=>by simp at h
 | e :: ds,h=>by
   rw[Rows.uptoBulkAll]
   rcases List.mem_cons.1 h with h | h
   ·subst h;omega
   ·have:=pF h;omega
theorem ND{H:Type}:∀d:DataW H,1≤Rows.uptoBulk d:=by
 intro d
 cases d with
 | lit l=>cases l <;> simp[Rows.uptoBulk]
 | _=>simp[Rows.uptoBulk]
theorem Eo{H:Type}:∀ds:List (DataW H),ds.length≤Rows.uptoBulkAll ds
 | []=>Nat.zero_le _
 | d :: ds=>by
   have:=ND d
   have:=Eo ds
   rw[Rows.uptoBulkAll,List.length_cons]
   omega
section
variable {H : Type} {enc : TypeId × Value → H} {w : World} {base : Nat} {spare : Nat → Bool} {held : Bool}
theorem cells3:Tryz.prog.cellsOf 3=1:=by kernel_rfl
theorem cells9:Tryz.prog.cellsOf 9=1:=by kernel_rfl
theorem Ju:Tryz.prog.cellsOf 52=7:=by kernel_rfl
theorem Jv:Tryz.prog.cellsOf 81=13:=by kernel_rfl
theorem qB{n:Int}(h:(Lit.int .i64 n).wf=true):bZ n:=by
 have:=bounds_i64 h
 unfold bZ
 omega
theorem JA{fs:Array Field}{xs:List (DataW H × List MemPlace)}{n:Nat}{cs:List Value}(hxl:xs.length=fs.size)(hf:∀(i:Nat) (f:Field),fs[i]?=some f→DataW.trod enc Tryz.prog w base spare held n f.type ((cs.drop f.offset).take (Tryz.prog.cellsOf f.type))=xs[i]?)
 {i:Nat} {f:Field} (hi:fs[i]?=some f) {u:TypeId} {o k:Nat} (h1:f.type=u) (h2:f.offset=o) (h3:Tryz.prog.cellsOf u=k):∃y,xs[i]?=some y∧DataW.trod enc Tryz.prog w base spare held n u ((cs.drop o).take k)=some y:=by
 have hl:i<xs.length:=by rw[hxl];exact (Array.getElem?_eq_some_iff.1 hi).1
 have:=hf i f hi
 subst h1 h2 h3
 exact⟨_,List.getElem?_eq_getElem hl,by rw[this,List.getElem?_eq_getElem hl]⟩
theorem IG{fuel:Nat}{cs:List Value}{x:DataW H × List MemPlace}(h:DataW.trod enc Tryz.prog w base spare held fuel 52 cs=some x) :
 ∃id owner sym side kind price qty,cs=[.int .i64 id,.int .i64 owner,.string sym,.int .i64 side,.int .i64 kind,.int .i64 price,.int .i64 qty]∧bZ id∧bZ owner∧bZ kind∧bZ price∧sym.size≤Rows.uptoBulk x.1:=by
 obtain⟨xs,n,-,hx,hl,hxl,hf⟩:=DataW.trod_struct Tryz.underlying52 h
 rw[Ju]at hl
 match cs,hl with
 | [c0,c1,c2,c3,c4,c5,c6],_ =>
   obtain⟨y0,e0,h0⟩:=JA hxl hf (i:=0) rfl rfl rfl cells3
   obtain⟨y1,e1,h1⟩:=JA hxl hf (i:=1) rfl rfl rfl cells3
   obtain⟨y2,e2,h2⟩:=JA hxl hf (i:=2) rfl rfl rfl cells9
   obtain⟨y3,e3,h3⟩:=JA hxl hf (i:=3) rfl rfl rfl cells3
   obtain⟨y4,e4,h4⟩:=JA hxl hf (i:=4) rfl rfl rfl cells3
   obtain⟨y5,e5,h5⟩:=JA hxl hf (i:=5) rfl rfl rfl cells3
   obtain⟨y6,e6,h6⟩:=JA hxl hf (i:=6) rfl rfl rfl cells3
   obtain⟨a0,q0,-,w0⟩:=DataW.trod_int Tryz.underlying3 h0
   obtain⟨a1,q1,-,w1⟩:=DataW.trod_int Tryz.underlying3 h1
   obtain⟨a2,q2,r2,-⟩:=DataW.trod_string Tryz.underlying9 h2
   obtain⟨a3,q3,-,w3⟩:=DataW.trod_int Tryz.underlying3 h3
   obtain⟨a4,q4,-,w4⟩:=DataW.trod_int Tryz.underlying3 h4
   obtain⟨a5,q5,-,w5⟩:=DataW.trod_int Tryz.underlying3 h5
   obtain⟨a6,q6,-,w6⟩:=DataW.trod_int Tryz.underlying3 h6
   have q0:[c0]=[.int .i64 a0]:=q0
   have q1:[c1]=[.int .i64 a1]:=q1
   have q2:[c2]=[.string a2]:=q2
   have q3:[c3]=[.int .i64 a3]:=q3
   have q4:[c4]=[.int .i64 a4]:=q4
   have q5:[c5]=[.int .i64 a5]:=q5
   have q6:[c6]=[.int .i64 a6]:=q6
   simp only[List.cons.injEq,and_true]at q0 q1 q2 q3 q4 q5 q6
   refine⟨a0,a1,a2,a3,a4,a5,a6,by rw[q0,q1,q2,q3,q4,q5,q6],qB w0,qB w1,qB w4,qB w5,?_⟩
   rw[hx]
   show _≤Rows.uptoBulk (.agg _)
   rw[Rows.uptoBulk]
   have:y2.1∈xs.map (·.1):=List.mem_map_of_mem (List.mem_of_getElem? e2)
   have:=pF this
   rw[r2]at this
   have e3:Rows.uptoBulk (DataW.lit (H:=H) (.string a2.data.toList))=a2.data.toList.length+1:=by rw[Rows.uptoBulk]
   simp only at this
   rw[e3,Array.length_toList]at this
   have hsz:a2.size=a2.data.size:=rfl
   omega
theorem Ri{fuel:Nat}{cs:List Value}{x:DataW H × List MemPlace}(h:DataW.trod enc Tryz.prog w base spare held fuel 81 cs=some x)(hb:Rows.uptoBulk x.1≤1048576) :
 ∃o:ji,cs=o.cells.toList∧nV o:=by
 obtain⟨xs,n,-,hx,hl,hxl,hf⟩:=DataW.trod_struct Tryz.underlying81 h
 rw[Jv]at hl
 rw[hx]at hb
 simp only at hb
 have hb2:Rows.uptoBulkAll (xs.map (·.1))+1≤1048576:=by
  have:Rows.uptoBulk (.agg (xs.map (·.1)))=Rows.uptoBulkAll (xs.map (·.1))+1:=by rw[Rows.uptoBulk]
  omega
 have bm:∀(i:Nat) (y:DataW H × List MemPlace),xs[i]?=some y→Rows.uptoBulk y.1≤1048576:=fun i y e=>by
  have:y.1∈xs.map (·.1):=List.mem_map_of_mem (List.mem_of_getElem? e)
  have:=pF this
  omega
 match cs,hl with
 | [c0,c1,c2,c3,c4,c5,c6,c7,c8,c9,c10,c11,c12],_ =>
   obtain⟨y0,e0,h0⟩:=JA hxl hf (i:=0) rfl rfl rfl cells3
   obtain⟨y1,e1,h1⟩:=JA hxl hf (i:=1) rfl rfl rfl cells3
   obtain⟨y2,e2,h2⟩:=JA hxl hf (i:=2) rfl rfl rfl cells3
   obtain⟨y3,e3,h3⟩:=JA hxl hf (i:=3) rfl rfl rfl cells3
   obtain⟨y4,e4,h4⟩:=JA hxl hf (i:=4) rfl rfl rfl cells3
   obtain⟨y5,e5,h5⟩:=JA hxl hf (i:=5) rfl rfl rfl cells9
   obtain⟨y6,e6,h6⟩:=JA hxl hf (i:=6) rfl rfl rfl Ju
   obtain⟨a0,q0,-,w0⟩:=DataW.trod_int Tryz.underlying3 h0
   obtain⟨a1,q1,-,w1⟩:=DataW.trod_int Tryz.underlying3 h1
   obtain⟨a2,q2,-,w2⟩:=DataW.trod_int Tryz.underlying3 h2
   obtain⟨a3,q3,-,w3⟩:=DataW.trod_int Tryz.underlying3 h3
   obtain⟨a4,q4,-,w4⟩:=DataW.trod_int Tryz.underlying3 h4
   obtain⟨a5,q5,r5,-⟩:=DataW.trod_string Tryz.underlying9 h5
   obtain⟨id,owner,sym,side,kind,price,qty,q6,i0,i1,i2,i3,i4⟩:=IG h6
   have q0:[c0]=[.int .i64 a0]:=q0
   have q1:[c1]=[.int .i64 a1]:=q1
   have q2:[c2]=[.int .i64 a2]:=q2
   have q3:[c3]=[.int .i64 a3]:=q3
   have q4:[c4]=[.int .i64 a4]:=q4
   have q5:[c5]=[.string a5]:=q5
   have q6:[c6,c7,c8,c9,c10,c11,c12]=[.int .i64 id,.int .i64 owner,.string sym,.int .i64 side,.int .i64 kind,.int .i64 price,.int .i64 qty]:=q6
   simp only[List.cons.injEq,and_true]at q0 q1 q2 q3 q4 q5 q6
   obtain⟨p6,p7,p8,p9,p10,p11,p12⟩:=q6
   have b5:=bm 5 y5 e5
   have b6:=bm 6 y6 e6
   rw[r5]at b5
   have e3:Rows.uptoBulk (DataW.lit (H:=H) (.string a5.data.toList))=a5.data.toList.length+1:=by rw[Rows.uptoBulk]
   simp only at b5
   rw[e3,Array.length_toList]at b5
   have hsz:a5.size=a5.data.size:=rfl
   refine⟨⟨a0,a1,a2,a3,a4,a5,⟨id,owner,sym,side,kind,price,qty⟩⟩,by rw[q0,q1,q2,q3,q4,q5,p6,p7,p8,p9,p10,p11,p12];rfl,⟨qB w1,qB w2,i0,i1,i2,i3,by show a5.size≤_;omega,by show sym.size≤_;omega⟩⟩
theorem Gp{fuel len cap:Nat}{a0:Option Addr}{x:DataW H × List MemPlace}(h:DataW.trod enc Tryz.prog w 0 spare held fuel 22 [.slice a0 len cap]=some x)(hb:Rows.uptoBulk x.1≤1048576) :
 ∃op:Nat→ji,Script w a0 len op∧len≤1048576:=by
 rcases open_slice Tryz.underlying22 h with⟨hcs,_⟩ | ⟨a,l,c,m,n,D,Pl,hcs,_,hl,hm,hme,hx,hel⟩
 ·simp at hcs
  obtain⟨rfl,rfl,rfl⟩:=hcs
  exact⟨fun _=>⟨0,0,0,0,0,⟨#[]⟩,⟨0,0,⟨#[]⟩,0,0,0,0⟩⟩,fun i hi=>absurd hi (Nat.not_lt_zero i),Nat.zero_le _⟩
 ·simp at hcs
  obtain⟨rfl,rfl,rfl⟩:=hcs
  rw[hx]at hb
  have hb2:Rows.uptoBulkAll ((List.range len).map D)≤1048576:=by
   have e:=Rows.uptoBulk.eq_def (DataW.slice ((List.range len).map D) ((List.range (m-len)).map fun j=>D (len+j)))
   simp only at e
   simp only at hb
   omega
  have hlen:len≤1048576:=by
   have:=Eo ((List.range len).map D)
   simp at this
   omega
  have XC:len≤m:=by rw[hme];split <;> omega
  have key:∀i,∃o:ji,i<len→nV o∧w.cells? 0 (a.add (i * 13)) 13=some o.cells.toList:=fun i=>by
   by_cases hi:i<len
   ·obtain⟨cs',h1,h2⟩:=hel i (by omega)
    rw[Jv]at h1
    have hd:D i∈(List.range len).map D:=List.mem_map_of_mem (List.mem_range.2 hi)
    have:=pF hd
    obtain⟨o,ho,hok⟩:=Ri h2 (by show Rows.uptoBulk (D i)≤_;omega)
    exact⟨o,fun _=>⟨hok,by rw[h1,ho]⟩⟩
   ·exact⟨⟨0,0,0,0,0,⟨#[]⟩,⟨0,0,⟨#[]⟩,0,0,0,0⟩⟩,fun z=>absurd z hi⟩
  refine⟨fun i=>Classical.choose (key i),fun i hi=>?_,hlen⟩
  obtain⟨k1,k2⟩:=Classical.choose_spec (key i) hi
  refine⟨k1,?_⟩
  obtain⟨-,_,z3⟩:=World.cells?_some (Classical.choose_spec (key 0) (by omega)).2
  have z0:=z3 0 (by omega)
  obtain⟨b,off,spot⟩:=a
  obtain rfl:spot=none:=by
   have hsome:(Classical.choose (key 0)).cells.toList[0]?=some (.int .i64 (Classical.choose (key 0)).kind):=rfl
   rw[hsome]at z0
   simpa [Addr.add] using World.cell?_spot z0
  refine⟨b,off,rfl,fun j u hu=>?_⟩
  obtain⟨-,_,c3⟩:=World.cells?_some k2
  have hj:j<13:=by
   have:=(Array.getElem?_eq_some_iff.1 hu).1
   simpa [ji.cells] using this
  have hc:=c3 j hj
  have e:((Addr.mk b off none).add (i * 13)).add j=⟨b,off+i * 13+j,none⟩:=by rw[Addr.add_lit,Addr.add_lit]
  rw[←e,hc,Array.getElem?_toList]
  exact hu
end
open Go.RowKit Go.ChangeShapes
def laid7 : List (String × DataW Unit) := [("math/bits.deBruijn32tab", Rows.laid_math_bits_deBruijn32tab), ("math/bits.deBruijn64tab", Rows.laid_math_bits_deBruijn64tab), ("internal/strconv.uint64pow10", Rows.laid_internal_strconv_uint64pow10), ("unicode/utf8.acceptRanges", Rows.laid_unicode_utf8_acceptRanges), ("strconv.ErrRange", Rows.laid_strconv_ErrRange), ("strconv.ErrSyntax", Rows.laid_strconv_ErrSyntax), ("unicode/utf8.first", Rows.laid_unicode_utf8_first)]
theorem Mc:(Tryz.prog.globals[Bj]?).map (·.type)=some 287:=by kernel_rfl
theorem DL{W:World}(h:laidMetH Tryz.prog laid7 W):Tab W:=by
 have h1 : laidMetH Tryz.prog [("internal/strconv.uint64pow10", Lib.tabData .u64 Lib.pow10Tab)] W := h.filter (fun x => x.1 == "internal/strconv.uint64pow10")
 rw[MakeChecks.laidMetH_plain _ _ _ (by kernel_rfl)]at h1
 exact Lib.tabIs_of_head PR Mc Tryz.underlying287 Tryz.underlying253 (by kernel_rfl) (by kernel_rfl) h1
theorem Le(os:Os)(args:Array Value):laidMetH Tryz.prog laid7 ((World.laidAll Tryz.prog os laid7).forCall (fun _ _=>0) ⟨#[],args,[]⟩).memory:=by
 rw[MakeChecks.laidMetH_plain _ _ _ (by kernel_rfl)]
 exact laidMet_laidAll _ (by kernel_rfl) (by kernel_rfl)
theorem CJ(os:Os)(args:Array Value):((World.laidAll Tryz.prog os laid7).forCall (fun _ _=>0) ⟨#[],args,[]⟩).Shaped Tryz.prog :=
 World.shaped_of_ZipB (by kernel_rfl) (by kernel_rfl)
theorem EI{H:Type}{enc:TypeId × Value→H}{C:Checked}{os:Os}{f:FuncId}{fn:Func}{s:OpenSpec}{k:(H:Type)→List (DataW H)→Bool}(hk:s.cond=some k){F:Stop.Interp}{conds:List PathCond}{apart fresh handsOn again:Bool}{l:List (String × DataW Unit)}
 (own:ownKnob C.prog.godebug=none) (started:os.Started) (noInit:C.prog.inits.idxOf? f=none) (hfn:C.prog.funcs[f]?=some fn)
 (w0:World) (args:Array Value) (fuel:Nat) (hos:w0.os=os) (hsh:(w0.forCall (fun _ _=>0) ⟨#[],args,[]⟩).Shaped C.prog)
 (hok:Input.okWideB C.prog (w0.forCall (fun _ _=>0) ⟨#[],args,[]⟩) f ⟨#[],args,[]⟩=true)
 {x:List (DataW H) × List (DataW H) × List MemPlace} (hx:DataW.whole enc C.prog (w0.forCall (fun _ _=>0) ⟨#[],args,[]⟩).memory fn.params.toList s.vars apart args.toList fuel=some x)
 (hconds:conds.all (PathCond.test C.prog ⟨fn.params.toList,x.1,s.bare.plain.varTypes C.prog,x.2.1⟩)=true) (hkk:k H (x.1++x.2.1)=true)
 (hsz:s.bare.sizedB enc C.prog fn apart (w0.forCall (fun _ _=>0) ⟨#[],args,[]⟩).memory args fuel=true)
 (hl:laidMetH C.prog l (w0.forCall (fun _ _=>0) ⟨#[],args,[]⟩).memory)
 (contract:∀(W:World) (base:Nat) (args:Array Value) (ds gs:List (DataW H)) (before:List MemPlace),(∀(j:Nat) t v,fn.params[j]?=some t→args[j]?=some v→Value.okWide C.prog W .any base t v) →
   DataW.Whole enc C.prog fn.params.toList s.vars apart W args.toList ds gs before→k H (ds++gs)=true→laidMetH C.prog l W →
   Calls C.prog f args W fun e W'=>∃v,e=.returned v∧(s.at F).post enc C.prog fn apart fresh handsOn again W args v W') :
 ReturnsInHanded {} C os f .any (fun w args=>(s.pre enc C.prog fn conds apart w args∧laidMetH C.prog l w)∧sizedMet enc C.prog fn s apart w args) ((s.at F).post enc C.prog fn apart fresh handsOn again):=by
 refine returnsInHanded_of_calls own started noInit ⟨w0,fun _ _=>0,⟨#[],args,[]⟩,hos,hsh,(Input.okWide_of_okWideB (base:=0) hok).1,(Input.okWide_of_okWideB hok).2,⟨⟨(OpenSpec.pre_some hk conds apart _ _).2 ⟨x.1,x.2.1,x.2.2,DataW.Whole_of_whole hx,hconds,hkk⟩,hl⟩,sizedMet_of_sizedB hsz⟩,by
  simp only[Assume.holds]
  exact⟨by simp,by simp,fun _=>Modest.zero,by simp,by simp⟩⟩ ?_
 intro w tape i _ _ _ hok2 hpre hholds
 obtain⟨_,_,_,fn',hfn',_,_,_,_,hval⟩:=hok2
 have e:fn'=fn:=Option.some.inj (hfn'.symm.trans hfn)
 subst e
 obtain⟨⟨hp,hL⟩,hz⟩:=hpre
 obtain⟨ds,gs,before,hw,hc,hk2⟩:=(OpenSpec.pre_some hk conds apart _ _).1 hp
 have hw':=DataW.Whole.of_heap (w':=w.forCall tape i) (by rfl) hw
 refine (contract (w.forCall tape i) w.heap.size i.args ds gs before hval hw' hk2 (hL.of_heap (by rfl))).mono fun e W' ⟨v,he,hp2⟩=>?_
 subst he
 exact ChangeSpec.post_blind hp2
end Go.Proofs.YtigaphnafnpfnaaGreatDoor
