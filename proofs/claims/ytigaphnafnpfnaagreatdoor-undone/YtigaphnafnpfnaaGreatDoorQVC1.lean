import Derived.Test.YtigaphnafnpfnaaGreatDoorQVB6
import Derived.Test.YtigaphnafnpfnaaGreatDoorQVJ5
import Derived.ProofKit
import Derived.LaidMore
import Derived.LaidSub
import Derived.OpenShut
import Derived.Stop.Joined
import Derived.Lib.LaidTab
set_option linter.unusedVariables false
set_option linter.unusedSimpArgs false
set_option maxHeartbeats 8000000
set_option maxRecDepth 100000
namespace Go.Proofs.YtigaphnafnpfnaaGreatDoor
open Go.RowKit Go.Maps
def je(v:Value):Option (DataW Unit × List MemPlace) :=
 match v with
 | .pointer none=>some (.nil,[])
 | .pointer (some ⟨b,0,none⟩)=>some (.lit (.int .i64 b),[])
 | _=>none
def GM:Option Nat->DataW Unit
 | none=>.nil
 | some b=>.lit (.int .i64 b)
theorem JV(x:Option Nat):je (iR x)=some (GM x,[]):=by cases x <;> rfl
theorem yc{v:Value}{x:Option Nat}{ps:List MemPlace}(h:je v=some (GM x,ps)):v=iR x:=by
 unfold je at h
 split at h
 ·cases x
  ·rfl
  ·simp[GM]at h
 ·cases x
  ·simp[GM]at h
  ·simp[GM]at h
   obtain⟨h,_⟩:=h
   simp[iR,h]
 ·simp at h
def jF(w:World)(k:TypeId)(b:Nat)(f:Lit->Option Nat)(n:Nat):Prop :=
 ∃D:DataW Unit,w.ownsMap Tryz.prog k je b n D/\Maps.size D=n/\(∀kl,D.atKey kl .nil=GM (f kl))/\(∀kl,Maps.has D kl=(f kl).isSome)
theorem jF.aC{w w':World}{k:TypeId}{b:Nat}{f:Lit->Option Nat}{n:Nat}(h:jF w k b f n){S:Nat->Prop}(c:au S w w')(hS:¬S b):jF w' k b f n:=by
 obtain⟨D,⟨es,clock,hb,r⟩,h2⟩:=h
 refine⟨D,⟨es,clock,?_,r⟩,h2⟩
 rw[c.block b (Array.getElem?_eq_some_iff.1 hb).1 hS]
 exact hb
theorem jF.lt{w:World}{k:TypeId}{b:Nat}{f:Lit->Option Nat}{n:Nat}(h:jF w k b f n):b<w.heap.size:=by
 obtain⟨D,h1,_⟩:=h
 exact h1.lt
theorem jF.ne{w:World}{k:TypeId}{b:Nat}{f:Lit->Option Nat}{n:Nat}(h:jF w k b f n){b':Nat}{c:Array Value}{t:TypeId}(hb:az w b' c t):b≠b':=by
 rintro rfl
 obtain⟨D,⟨es,clock,h1,_⟩,_⟩:=h
 unfold az at hb
 rw[h1]at hb
 simp at hb
theorem oW(w:World):(zeroValue 111).run Tryz.prog w=.ok (.pointer none) w:=by kernel_rfl
theorem uU(w:World):(zeroValue 114).run Tryz.prog w=.ok (.pointer none) w:=by kernel_rfl
theorem yw:Keyed Tryz.prog 9:=string_keyed Tryz.underlying9
theorem yu:Keyed Tryz.prog 3:=int_keyed Tryz.underlying3
theorem jF.look{w:World}{k t e:TypeId}{b:Nat}{f:Lit->Option Nat}{n:Nat}(h:jF w k b f n)(K:Keyed Tryz.prog k)(ht:Tryz.prog.underlying t=some (.map k e))(hz:(zeroValue e).run Tryz.prog w=.ok (.pointer none) w){key:Value}{kl:Lit}(hkey:keyOf Tryz.prog k key=some kl) :
 (Instr.lookup t (.map (some b)) key false).run Tryz.prog w=.ok (iR (f kl)) w:=by
 obtain⟨D,h1,_,h3,_⟩:=h
 obtain⟨v,ps,hrun,hv⟩:=h1.lookup K ht hz (zd:=.nil) (zp:=[]) rfl hkey
 rw[h3 kl]at hv
 rw[hrun,yc hv]
theorem jF.len{w:World}{k t e:TypeId}{b:Nat}{f:Lit->Option Nat}{n:Nat}(h:jF w k b f n)(ht:Tryz.prog.underlying t=some (.map k e))(ty:TypeId) :
 (Builtin.len_ #[t] ty #[.map (some b)]).run Tryz.prog w=.ok (.int .i64 n) w:=by
 obtain⟨D,h1,h2,_⟩:=h
 rw[h1.len ht ty,h2]
def BR(f:Lit->Option Nat)(kl:Lit)(x:Nat):Lit->Option Nat:=fun k=>if k.sameKey kl then some x else f k
theorem jF.put{w:World}{k t e:TypeId}{b:Nat}{f:Lit->Option Nat}{n x:Nat}(h:jF w k b f n)(K:Keyed Tryz.prog k)(ht:Tryz.prog.underlying t=some (.map k e))(hn:n<maxLen){key:Value}{kl:Lit}(hkey:keyOf Tryz.prog k key=some kl)(hk:WideAt.IsKeyLit kl)(hf:f kl=none) :
 ∃w',(Instr.mapUpdate t (.map (some b)) key (.pointer (some ⟨x,0,none⟩))).run Tryz.prog w=.ok () w'/\jF w' k b (BR f kl x) (n+1)/\au (fun i=>i=b) w w':=by
 obtain⟨D,h1,h2,h3,h4⟩:=h
 obtain⟨w',hrun,h5,h6⟩:=h1.update K ht hn hkey (JV (some x))
 refine⟨w',hrun,⟨_,h5,?_,?_,?_⟩,?_⟩
 ·rw[size_put (h1.tidy K),h4 kl,hf]
  simp[h2]
 ·intro k'
  unfold BR
  by_cases e:k'=kl
  ·subst e
   rw[atKey_put_same h1.isMap hk,if_pos (WideAt.sameKey_self hk)]
  ·rw[atKey_put_other e,if_neg (fun h=>e ((WideAt.sameKey_iff hk).1 h)),h3]
 ·intro k'
  unfold BR
  by_cases e:k'=kl
  ·subst e
   rw[has_put_same h1.isMap hk,if_pos (WideAt.sameKey_self hk)];rfl
  ·rw[has_put_other e,if_neg (fun h=>e ((WideAt.sameKey_iff hk).1 h)),h4]
 ·exact⟨h6.os,h6.tape,h6.output,h6.size,fun i hi hs=>h6.block i hi (fun h=>hs (by simpa using h))⟩
theorem jF.made(w:World)(k:TypeId):jF (w.alloc (.map #[] 0)) k w.heap.size (fun _=>none) 0 :=
 ⟨.map [],World.ownsMap_made w Tryz.prog k je,rfl,fun _=>rfl,fun _=>rfl⟩
def fH(n:Int):Bool:=decide (1<=n) && decide (n<=1000000)
def nI(n:Int):Bool:=decide (0<=n) && decide (n<=9)
def lQ(n:Int):Bool:=(n == 0) || (n == 1)
def nV(n:Int):Bool:=decide (0<=n) && decide (n<=5)
def iQ(kind p:Int):Bool:=if kind=5 then p == 0 else fH p
theorem bZ(n:Int)(w:World):Calls Tryz.prog 68 #[.int .i64 n] w fun e w'=>e=.returned (.bool (fH n))/\w'=w:=by
 by_cases h1:1<=n
 ·have HR:Hid (fH n=decide (n<=1000000)):=by show _=_;simp[fH,h1]
  go_enter Tryz.func68,Tryz.ntmps68
  go_wp2
  go_ret
  exact⟨by rw[HR.out];rfl,rfl⟩
 ·have HR:Hid (fH n=false):=by show _=_;simp[fH,h1]
  go_enter Tryz.func68,Tryz.ntmps68
  go_wp2
  go_ret
  exact⟨by rw[HR.out];rfl,rfl⟩
theorem dY(n:Int)(w:World):Calls Tryz.prog 144 #[.int .i64 n] w fun e w'=>e=.returned (.bool (nI n))/\w'=w:=by
 by_cases h1:0<=n
 ·have HR:Hid (nI n=decide (n<=9)):=by show _=_;simp[nI,h1]
  go_enter Tryz.func144,Tryz.ntmps144
  go_wp2
  go_ret
  exact⟨by rw[HR.out];rfl,rfl⟩
 ·have HR:Hid (nI n=false):=by show _=_;simp[nI,h1]
  go_enter Tryz.func144,Tryz.ntmps144
  go_wp2
  go_ret
  exact⟨by rw[HR.out];rfl,rfl⟩
theorem eP(n:Int)(w:World):Calls Tryz.prog 47 #[.int .i64 n] w fun e w'=>e=.returned (.bool (lQ n))/\w'=w:=by
 cases h1:(n == 0)
 ·have HR:Hid (lQ n=(n == 1)):=by show _=_;simp[lQ,h1]
  go_enter Tryz.func47,Tryz.ntmps47
  go_wp2
  go_ret
  exact⟨by rw[HR.out];rfl,rfl⟩
 ·have HR:Hid (lQ n=true):=by show _=_;simp[lQ,h1]
  go_enter Tryz.func47,Tryz.ntmps47
  go_wp2
  go_ret
  exact⟨by rw[HR.out];rfl,rfl⟩
theorem fJ(n:Int)(w:World):Calls Tryz.prog 145 #[.int .i64 n] w fun e w'=>e=.returned (.bool (nV n))/\w'=w:=by
 by_cases h1:0<=n
 ·have HR:Hid (nV n=decide (n<=5)):=by show _=_;simp[nV,h1]
  go_enter Tryz.func145,Tryz.ntmps145
  go_wp2
  go_ret
  exact⟨by rw[HR.out];rfl,rfl⟩
 ·have HR:Hid (nV n=false):=by show _=_;simp[nV,h1]
  go_enter Tryz.func145,Tryz.ntmps145
  go_wp2
  go_ret
  exact⟨by rw[HR.out];rfl,rfl⟩
theorem dJ(k n:Int)(w:World):Calls Tryz.prog 146 #[.int .i64 k,.int .i64 n] w fun e w'=>e=.returned (.bool (iQ k n))/\w'=w:=by
 by_cases h1:k=5
 ·have e1:(k == 5)=true:=by simp[h1]
  have HR:Hid (iQ k n=(n == 0)):=by show _=_;simp[iQ,h1]
  clear h1
  go_enter Tryz.func146,Tryz.ntmps146
  go_wp2
  go_ret
  exact⟨by rw[HR.out];rfl,rfl⟩
 ·have e1:(k == 5)=false:=by simp[h1]
  have HR:Hid (iQ k n=fH n):=by show _=_;simp[iQ,h1]
  clear h1
  go_enter Tryz.func146,Tryz.ntmps146
  go_wp2_with (go_at_call 68;refine (bZ _ _).mono ?_;rintro e w' ⟨rfl,rfl⟩)
  go_ret
  exact⟨by rw[HR.out];rfl,rfl⟩
theorem Df{f:Lit->Option Nat}{kl:Lit}{x:Nat}(hk:WideAt.IsKeyLit kl):BR f kl x kl=some x:=by unfold BR;rw[if_pos (WideAt.sameKey_self hk)]
theorem Af{f:Lit->Option Nat}{kl k:Lit}{x:Nat}(hk:WideAt.IsKeyLit kl)(h:k≠kl):BR f kl x k=f k:=by unfold BR;rw[if_neg (fun e=>h ((WideAt.sameKey_iff hk).1 e))]
def aJ(o:iL):Ord:=⟨o.id,o.aA,o.sym,o.side,o.kind,o.af,o.aI,o.aI,o.aI,0,0,0,0⟩
theorem Es(o:iL)(w:World):Calls Tryz.prog 112 #[o.val] w fun e w'=>∃b,e=.returned (.pointer (some ⟨b,0,none⟩))/\w.heap.size<=b/\df w' b (aJ o) 0/\au aP w w':=by
 obtain⟨id,aA,sym,side,kind,af,aI⟩:=o
 simp only[iL.val]
 go_enter Tryz.func112,Tryz.ntmps112
 go_wp2
 go_ret
 refine⟨_,rfl,?_,?_,?_⟩
 ·simp
 ·exact az.xy _ _ _ _
 ·exact ((au.refl aP w).alloc _).alloc _
attribute [local go_sem ↓] Go.wp_at_zero Go.wp_at_succ
structure aQ where
 nb:Nat
 bk:Nat->Nat
 B:Nat->Bk
 om:Nat->Ord
 aU:Int->Option Nat
 no:Nat
 lg:Lg
 lm:Lm
def aQ.tr(V:aQ):Int:=V.lg.tr.length
def sl(s:ByteArray):Lit:=.string s.data.toList
structure dN(w:World)(bv bm bo:Nat)(V:aQ):Prop where
 aO:bu w bv bm bo V.lg V.lm
 ik:∃fB,jF w 9 bm fB V.nb/\(∀i,i<V.nb->fB (sl (V.B i).sym)=some (V.bk i))/\(∀s b,fB (sl s)=some b->∃i,i<V.nb/\b=V.bk i/\(V.B i).sym=s)
 fD:∃fO,jF w 3 bo fO V.no/\(∀id,fO (.int .i64 id)=V.aU id)
 E5:bm≠bo
 aW:∀i,i<V.nb->bU w (V.bk i) (V.B i) V.om
 bg:∀id b,V.aU id=some b->(V.om b).id=id/\∃ix,df w b (V.om b) ix
 mem:∀i,i<V.nb->∀s,s<2->∀k,k<(V.B i).n s->∃id,V.aU id=some ((V.B i).h s k)
 qL:∀i j,i<V.nb->j<V.nb->i≠j->V.bk i≠V.bk j
 lZ:∀i j,i<V.nb->j<V.nb->i≠j->∀s t,s<2->t<2->∀b,dC (V.B i) s b->¬dC (V.B j) t b
 gp:V.no<=200
theorem dN.dA{w:World}{bv bm bo:Nat}{V:aQ}(R:dN w bv bm bo V):az w bv (qM bm bo V.lm V.lg.day) 100:=R.aO.dA
theorem JX(bv bm bo i:Nat)(V:aQ)(o:iL)(w:World)(R:dN w bv bm bo V)(hi:i<V.nb)(dM:(V.B i).sym=o.sym)(hlen:o.sym.size<=maxLen)
 (h1:fH o.id=true) (h2:V.aU o.id=none) (h3:nI o.aA=true) (h4:lQ o.side=true) (h5:nV o.kind=true) (h6:fH o.aI=true) (h7:iQ o.kind o.af=true) (h8:V.no<200) (h9:o.kind≠3) (h10:o.kind≠4) :
 Calls Tryz.prog 111 #[.pointer (some ⟨bv,0,none⟩),o.val] w fun e w'=>e=.returned (.int .i64 0)/\au aP w w':=by
 obtain⟨fB,mB,oK,sF⟩:=R.ik
 obtain⟨fO,mO,tZ⟩:=R.fD
 obtain⟨id,aA,sym,side,kind,af,aI⟩:=o
 simp only at dM hlen h1 h2 h3 h4 h5 h6 h7 h9 h10
 simp only[iL.val]
 have hid:(Lit.int .i64 id).wf=true:=by
  simp[fH]at h1
  exact WalkArith.wf_i64 (by omega)
 have hlb:fB (sl sym)=some (V.bk i):=by rw[<-dM];exact oK i hi
 have hlo:fO (.int .i64 id)=none:=by rw[tZ,h2]
 obtain⟨w1,hw1⟩:∃w1,w1=w.alloc (.cells #[.int .i64 id,.int .i64 aA,.string sym,.int .i64 side,.int .i64 kind,.int .i64 af,.int .i64 aI] 52):=⟨_,rfl⟩
 have k1:au aP w w1:=by rw[hw1];exact (au.refl aP w).alloc _
 have hbx:az w1 w.heap.size #[.int .i64 id,.int .i64 aA,.string sym,.int .i64 side,.int .i64 kind,.int .i64 af,.int .i64 aI] 52:=by rw[hw1];exact az.new w _ _
 have L1:∀q,(Instr.lookup 94 (.map (some bm)) (.string sym) false).run Tryz.prog (w1.drewN q)=.ok (.pointer (some ⟨V.bk i,0,none⟩)) (w1.drewN q):=fun q=>by
  rw[(mB.aC (k1.drewN q) (fun x=>x)).look yw Tryz.underlying94 (oW _) (WideMaps.keyOf_string_mk Tryz.underlying9 hlen)]
  show _=Result.ok (iR (some (V.bk i))) _
  rw[<-hlb];rfl
 have L2:∀q,(Instr.lookup 95 (.map (some bo)) (.int .i64 id) false).run Tryz.prog (w1.drewN q)=.ok (.pointer none) (w1.drewN q):=fun q=>by
  rw[(mO.aC (k1.drewN q) (fun x=>x)).look yu Tryz.underlying95 (uU _) (keyOf_int_mk Tryz.underlying3 hid)]
  show _=Result.ok (iR none) _
  rw[<-hlo]
 have L3:∀q,(Builtin.len_ #[95] 3 #[.map (some bo)]).run Tryz.prog (w1.drewN q)=.ok (.int .i64 V.no) (w1.drewN q):=fun q=>(mO.aC (k1.drewN q) (fun x=>x)).len Tryz.underlying95 _
 have v0:w1.cell? ⟨bv,0,none⟩=some (.map (some bm)):=(k1.aB R.dA (fun x=>x)).cell 0
 have v1:w1.cell? ⟨bv,1,none⟩=some (.map (some bo)):=(k1.aB R.dA (fun x=>x)).cell 1
 have x0:w1.cell? ⟨w.heap.size,0,none⟩=some (.int .i64 id):=hbx.cell 0
 have x1:w1.cell? ⟨w.heap.size,1,none⟩=some (.int .i64 aA):=hbx.cell 1
 have x2:w1.cell? ⟨w.heap.size,2,none⟩=some (.string sym):=hbx.cell 2
 have x3:w1.cell? ⟨w.heap.size,3,none⟩=some (.int .i64 side):=hbx.cell 3
 have x4:w1.cell? ⟨w.heap.size,4,none⟩=some (.int .i64 kind):=hbx.cell 4
 have x5:w1.cell? ⟨w.heap.size,5,none⟩=some (.int .i64 af):=hbx.cell 5
 have x6:w1.cell? ⟨w.heap.size,6,none⟩=some (.int .i64 aI):=hbx.cell 6
 have e3:(kind == 3)=false:=by simp[h9]
 have e4:(kind == 4)=false:=by simp[h10]
 have e8:decide ((200:Int)<=(V.no:Int))=false:=by simp;omega
 have HW:=ai hw1
 have HK:=ai k1
 clear hw1 k1 hbx h9 h10 hlb hlo oK sF tZ mB mO hid
 go_enter Tryz.func111,Tryz.ntmps111
 go_wp2
 rw[<-ae HW]
 go_quiet (fail)
 go_wp2_with (first|(go_at_call 68;refine (bZ _ _).mono ?_;rintro e w' ⟨rfl,rfl⟩)|(go_at_call 144;refine (dY _ _).mono ?_;rintro e w' ⟨rfl,rfl⟩)|(go_at_call 47;refine (eP _ _).mono ?_;rintro e w' ⟨rfl,rfl⟩)|(go_at_call 145;refine (fJ _ _).mono ?_;rintro e w' ⟨rfl,rfl⟩)|(go_at_call 146;refine (dJ _ _ _).mono ?_;rintro e w' ⟨rfl,rfl⟩))
 go_quiet (fail)
 go_wp2_with (first|(go_at_call 68;refine (bZ _ _).mono ?_;rintro e w' ⟨rfl,rfl⟩)|(go_at_call 144;refine (dY _ _).mono ?_;rintro e w' ⟨rfl,rfl⟩)|(go_at_call 47;refine (eP _ _).mono ?_;rintro e w' ⟨rfl,rfl⟩)|(go_at_call 145;refine (fJ _ _).mono ?_;rintro e w' ⟨rfl,rfl⟩)|(go_at_call 146;refine (dJ _ _ _).mono ?_;rintro e w' ⟨rfl,rfl⟩))
 go_quiet (fail)
 go_wp2
 go_ret
 exact⟨rfl,((ae HK).drewN _).drewN _⟩
theorem Qx{oc s:Nat}{st:MS}:(∀x,((bz oc s st).om x).id=(st.om x).id/\((bz oc s st).om x).side=(st.om x).side/\((bz oc s st).om x).sym=(st.om x).sym/\((bz oc s st).om x).af=(st.om x).af/\((bz oc s st).om x).place=(st.om x).place/\((bz oc s st).om x).aA=(st.om x).aA/\((bz oc s st).om x).kind=(st.om x).kind/\((bz oc s st).om x).aI=(st.om x).aI)/\(∀x,x≠oc->x≠st.B.h s 0->(bz oc s st).om x=st.om x):=by
 unfold bz
 split
 ·refine⟨fun x=>?_,fun x _ h=>ah _ _ h⟩
  simp only
  by_cases e:x=st.B.h s 0
  ·rw[e,aj];exact⟨rfl,rfl,rfl,rfl,rfl,rfl,rfl,rfl⟩
  ·rw[ah _ _ e];exact⟨rfl,rfl,rfl,rfl,rfl,rfl,rfl,rfl⟩
 ·refine⟨fun x=>?_,fun x h1 h2=>?_⟩
  ·simp only[aT]
   by_cases e:x=st.B.h s 0
   ·rw[e,aj];exact⟨rfl,rfl,rfl,rfl,rfl,rfl,rfl,rfl⟩
   ·rw[ah _ _ e]
    by_cases e2:x=oc
    ·rw[e2,aj];exact⟨rfl,rfl,rfl,rfl,rfl,rfl,rfl,rfl⟩
    ·rw[ah _ _ e2];exact⟨rfl,rfl,rfl,rfl,rfl,rfl,rfl,rfl⟩
  ·simp only[aT]
   rw[ah _ _ h2,ah _ _ h1]
theorem lS{oc s:Nat}{st:MS}(h:¬stops oc s st=true):0<st.B.n s/\0<(st.om oc).aK:=by
 simp only[stops,Bool.or_eq_true,Bool.not_eq_true',decide_eq_false_iff_not,not_or,Decidable.not_not]at h
 obtain⟨h1,h2⟩:=h
 cases hf:dF st.B st.om (cZ (st.om oc)) s
 ·rw[hf]at h2;simp at h2
 ·exact⟨(ry hf).1,h1⟩
theorem xw{oc s:Nat}:∀(f:Nat) (st:MS),qN oc s st ->
 (∀x,((aZ oc s f st).om x).id=(st.om x).id/\((aZ oc s f st).om x).side=(st.om x).side/\((aZ oc s f st).om x).sym=(st.om x).sym/\((aZ oc s f st).om x).af=(st.om x).af/\((aZ oc s f st).om x).place=(st.om x).place/\((aZ oc s f st).om x).aA=(st.om x).aA/\((aZ oc s f st).om x).kind=(st.om x).kind/\((aZ oc s f st).om x).aI=(st.om x).aI) /\
 (∀x,x≠oc->¬dC st.B s x->(aZ oc s f st).om x=st.om x)/\(∀b,dC (aZ oc s f st).B s b->dC st.B s b)/\qN oc s (aZ oc s f st):=by
 intro f
 induction f with
 | zero=>exact fun st iv=>⟨fun _=>⟨rfl,rfl,rfl,rfl,rfl,rfl,rfl,rfl⟩,fun _ _ _=>rfl,fun _ h=>h,iv⟩
 | succ f ih =>
   intro st iv
   rw[aZ]
   split
   ·exact⟨fun _=>⟨rfl,rfl,rfl,rfl,rfl,rfl,rfl,rfl⟩,fun _ _ _=>rfl,fun _ h=>h,iv⟩
   ·rename_i hst
    obtain⟨hn,hp⟩:=lS hst
    obtain⟨KU,_,sub⟩:=nH iv hn hp
    obtain⟨a1,a2,a3,a4⟩:=ih (bz oc s st) KU
    obtain⟨b1,b2⟩:=Qx (oc:=oc) (s:=s) (st:=st)
    refine⟨fun x=>?_,fun x h1 h2=>?_,fun b hb=>sub b (a3 b hb),a4⟩
    ·obtain⟨c1,c2,c3,c4,c5,c6,c7,c8⟩:=a1 x
     obtain⟨d1,d2,d3,d4,d5,d6,d7,d8⟩:=b1 x
     exact⟨c1.trans d1,c2.trans d2,c3.trans d3,c4.trans d4,c5.trans d5,c6.trans d6,c7.trans d7,c8.trans d8⟩
    ·rw[a2 x h1 (fun h=>h2 (sub x h)),b2 x h1 (fun e=>h2 (.inr ⟨0,hn,e⟩))]
def Lg.aX(G:Lg)(id:Int):Lg:=G.begun.aV [.entered id]
def aQ.enter(V:aQ)(i b s t g cap':Nat)(o:iL)(bH:Lm):aQ :=
 { V with B:=aN V.B i (dV b t g cap' (mF b s ⟨V.B i,aN V.om b (aJ o),V.lg.aX o.id⟩)),om:=aF b (mF b s ⟨V.B i,aN V.om b (aJ o),V.lg.aX o.id⟩),aU:=fun id=>if id=o.id then some b else V.aU id,no:=V.no+1,lg:=gJ b (mF b s ⟨V.B i,aN V.om b (aJ o),V.lg.aX o.id⟩),lm:=bH }
theorem wY(oc:Nat)(st:MS)(x:Nat):(aF oc st x).id=(st.om x).id:=by
 unfold aF
 split
 ·by_cases e:x=oc
  ·rw[e,aj]
  ·rw[ah _ _ e]
 ·by_cases e:x=oc
  ·rw[e,aj];rfl
  ·rw[ah _ _ e]
theorem qh(oc:Nat)(st:MS){x:Nat}(h:x≠oc):aF oc st x=st.om x:=by
 unfold aF
 split <;> rw[ah _ _ h]
theorem zo{oc t g cap':Nat}{st:MS}{x b:Nat}(h:dC (dV oc t g cap' st) x b):dC st.B x b\/b=oc\/b=g:=by
 unfold dV at h
 split at h
 ·by_cases e:x=t
  ·subst e
   rcases h with h|⟨k,hk,h⟩
   ·simp only[Bk.rest,aj,gG,Option.some.injEq]at h
    exact .inr (.inr h.symm)
   ·simp only[Bk.rest,aj]at hk h
    rcases (iP (lt:=fG (aF oc st)) (st.B.h x) oc _).1 ⟨k,hk,rfl⟩ with h'|h'
    ·obtain⟨k',hk',e'⟩:=h'
     exact .inl (.inr ⟨k',hk',by rw[h,e']⟩)
    ·exact .inr (.inl (by rw[h,h']))
  ·left
   unfold dC at h ⊢
   simp only[Bk.rest,ah _ _ e]at h
   exact h
 ·exact .inl h
theorem mV{oc t g cap':Nat}{st:MS}:(dV oc t g cap' st).sym=st.B.sym:=by
 unfold dV;split <;> rfl
theorem dN.enter{w w5 w':World}{bv bm bo:Nat}{V:aQ}(R:dN w bv bm bo V){i b s t g cap':Nat}{o:iL}{L:Nat->Prop}(hi:i<V.nb)(hs:s<2)(ht:t=1-s)(hno:V.no<200)(hfree:V.aU o.id=none)
 (hb:w.heap.size<=b) (Zu:df w5 b (aJ o) 0) {tJ:Lm} (hv5:bu w5 bv bm bo (V.lg.aX o.id) tJ) (MP:∀x,tJ.F x->V.lm.F x\/w.heap.size<=x) (k5:au (fun x=>x=bo\/x=bv\/V.lm.F x) w w5) (m5:∃fO,jF w5 3 bo fO (V.no+1)/\(∀id,fO (.int .i64 id)=if id=o.id then some b else V.aU id)) (iv:qN b s ⟨V.B i,aN V.om b (aJ o),V.lg.aX o.id⟩) (hL:L=fun x=>x=b\/∃id,V.aU id=some x)
 (m:Mk w' (V.bk i) (dV b t g cap' (mF b s ⟨V.B i,aN V.om b (aJ o),V.lg.aX o.id⟩)) (aF b (mF b s ⟨V.B i,aN V.om b (aJ o),V.lg.aX o.id⟩)) L) {bH:Lm} (hv:bu w' bv bm bo (gJ b (mF b s ⟨V.B i,aN V.om b (aJ o),V.lg.aX o.id⟩)) bH)
 (k:au (fun x=>x=bv\/tJ.F x\/x=V.bk i\/x=b\/dC (V.B i) s x\/dC (V.B i) t x) w5 w') (hg:gG ((V.B i).sl t)=some g\/w5.heap.size<=g):dN w' bv bm bo (V.enter i b s t g cap' o bH):=by
 obtain⟨a1,a2,a3,a4⟩:=xw (mu b s ⟨V.B i,aN V.om b (aJ o),V.lg.aX o.id⟩) ⟨V.B i,aN V.om b (aJ o),V.lg.aX o.id⟩ iv
 obtain⟨f1,f2,f3,f4,f5⟩:=jd b s (mu b s ⟨V.B i,aN V.om b (aJ o),V.lg.aX o.id⟩) ⟨V.B i,aN V.om b (aJ o),V.lg.aX o.id⟩
 change ∀x,((mF b s ⟨V.B i,aN V.om b (aJ o),V.lg.aX o.id⟩).om x).id=_/\_ at a1
 change ∀x,x≠b->¬dC (V.B i) s x->(mF b s ⟨V.B i,aN V.om b (aJ o),V.lg.aX o.id⟩).om x=aN V.om b (aJ o) x at a2
 change ∀x,dC (mF b s ⟨V.B i,aN V.om b (aJ o),V.lg.aX o.id⟩).B s x->dC (V.B i) s x at a3
 change ∀t,t≠s->(mF b s ⟨V.B i,aN V.om b (aJ o),V.lg.aX o.id⟩).B.n t=(V.B i).n t/\(mF b s ⟨V.B i,aN V.om b (aJ o),V.lg.aX o.id⟩).B.h t=(V.B i).h t at f1
 change (mF b s ⟨V.B i,aN V.om b (aJ o),V.lg.aX o.id⟩).B.sl=(V.B i).sl at f2
 change (mF b s ⟨V.B i,aN V.om b (aJ o),V.lg.aX o.id⟩).B.sym=(V.B i).sym at f4
 simp only at a1
 unfold aQ.enter
 generalize mF b s ⟨V.B i,aN V.om b (aJ o),V.lg.aX o.id⟩=st1 at *
 have t2:t<2:=by omega
 have uw:∀x,x<2->x=s\/x=t:=by omega
 have G8:∀j,j<V.nb->∀x,x<2->∀y,dC (V.B j) x y->y<w.heap.size:=fun j hj x hx y h=>by
  rcases h with h|⟨l,hl,rfl⟩
  ·exact ((R.aW j hj).side x hx).lt h
  ·exact (((R.aW j hj).side x hx).bg hl).lt
 have aav:∀x,x<2->∀y,dC st1.B x y->dC (V.B i) x y:=fun x hx y h=>by
  rcases uw x hx with rfl|rfl
  ·exact a3 y h
  ·by_cases e:x=s
   ·rw[e]at h ⊢;exact a3 y h
   ·unfold dC at h ⊢
    rw[f2,(f1 x e).1,(f1 x e).2]at h
    exact h
 have zY:∀x,x≠b->¬dC (V.B i) s x->aF b st1 x=V.om x:=fun x h1 h2=>by rw[qh _ _ h1,a2 x h1 h2,ah _ _ h1]
 have aa1:∀j,j<V.nb->j≠i->bU w' (V.bk j) (V.B j) (aF b st1):=fun j hj hne=>by
  have hbk:=R.aW j hj
  have h5:bU w5 (V.bk j) (V.B j) V.om:=hbk.aC k5 (by
   obtain⟨fO,mO,_⟩:=R.fD
   have key:∀{x c t},az w x c t->(t=158\/t=114\/t=116)->¬(x=bo\/x=bv\/V.lm.F x):=by
    rintro x c t hx ht (e|e|e)
    ·exact mO.ne hx e.symm
    ·exact az.ne hx R.dA (by rcases ht with rfl|rfl|rfl <;> decide) e
    ·exact R.aO.aO.ne hx (by rcases ht with rfl|rfl|rfl <;> decide) (by rcases ht with rfl|rfl|rfl <;> decide) (by rcases ht with rfl|rfl|rfl <;> decide) (by rcases ht with rfl|rfl|rfl <;> decide) (by rcases ht with rfl|rfl|rfl <;> decide) e
   rintro x (rfl|⟨y,hy,h⟩)
   ·exact key hbk.aB (.inl rfl)
   ·rcases h with h|⟨l,hl,rfl⟩
    ·rcases (hbk.side y hy) with⟨h0,_⟩|⟨ab,hab,hsd⟩
     ·rw[h0]at h;simp[gG]at h
     ·obtain⟨cs,hcs,_⟩:=hsd.oH
      rw[hab]at h
      simp[gG]at h
      rw[h]at hcs
      exact key hcs (.inr (.inl rfl))
    ·exact key ((hbk.side y hy).bg hl) (.inr (.inr rfl)))
  have nS:∀x,(x=V.bk j\/∃y,y<2/\dC (V.B j) y x)->¬(x=bv\/tJ.F x\/x=V.bk i\/x=b\/dC (V.B i) s x\/dC (V.B i) t x):=by
   have hbi:=(R.aW i hi).aB
   rintro x (rfl|⟨y,hy,h⟩) (e|e|e|e|e|e)
   ·exact az.ne hbk.aB R.dA (by decide) e
   ·rcases MP _ e with e|e
    ·exact R.aO.aO.ne hbk.aB (by decide) (by decide) (by decide) (by decide) (by decide) e
    ·have:=hbk.aB.lt;omega
   ·exact R.qL j i hj hi hne e
   ·have:=hbk.aB.lt;omega
   ·rcases e with e|⟨l,hl,e⟩
    ·exact ((R.aW i hi).side s hs).ne hbk.aB (by decide) e
    ·exact az.ne hbk.aB (((R.aW i hi).side s hs).bg hl) (by decide) e
   ·rcases e with e|⟨l,hl,e⟩
    ·exact ((R.aW i hi).side t t2).ne hbk.aB (by decide) e
    ·exact az.ne hbk.aB (((R.aW i hi).side t t2).bg hl) (by decide) e
   ·rw[e]at h
    rcases h with h|⟨l,hl,h⟩
    ·exact (hbk.side y hy).ne R.dA (by decide) h
    ·exact az.ne R.dA ((hbk.side y hy).bg hl) (by decide) h
   ·have hxl:=G8 j hj y hy x h
    have e:V.lm.F x:=(MP x e).elim id (fun h=>by omega)
    obtain⟨c,t',hc,ht'⟩:=R.aO.aO.fZ e
    rcases h with h|⟨l,hl,h⟩
    ·exact (hbk.side y hy).ne hc (by rcases ht' with rfl|rfl|rfl|rfl|rfl|rfl <;> decide) h
    ·subst h
     exact az.ne hc ((hbk.side y hy).bg hl) (by rcases ht' with rfl|rfl|rfl|rfl|rfl|rfl <;> decide) rfl
   ·rw[e]at h
    rcases h with h|⟨l,hl,h⟩
    ·exact (hbk.side y hy).ne hbi (by decide) h
    ·exact az.ne hbi ((hbk.side y hy).bg hl) (by decide) h
   ·have:=G8 j hj y hy x h;omega
   ·exact R.lZ j i hj hi hne y s hy hs x h e
   ·exact R.lZ j i hj hi hne y t hy t2 x h e
  have h6:bU w' (V.bk j) (V.B j) V.om:=h5.aC k (fun x h=>nS x (by
   rcases h with h|⟨y,hy,h⟩
   ·exact .inl h
   ·exact .inr ⟨y,hy,h⟩))
  refine⟨h6.aB,fun y hy=>(h6.side y hy).om (fun l hl=>?_),h6.apart,h6.uF⟩
  have hsd:dC (V.B j) y ((V.B j).h y l):=.inr ⟨l,hl,rfl⟩
  refine zY _ ?_ (R.lZ j i hj hi hne y s hy hs _ hsd)
  have:=G8 j hj y hy _ hsd
  omega
 have hgl:∀x,x<w.heap.size->(gG ((V.B i).sl t)=some x\/x≠g):=fun x hx=>by
  rcases hg with h|h
  ·by_cases e:x=g
   ·exact .inl (by rw[e];exact h)
   ·exact .inr e
  ·right
   have:=k5.size
   omega
 obtain⟨fB,mB,oK,sF⟩:=R.ik
 obtain⟨fO5,mO5,aa6⟩:=m5
 have ZH:jF w5 9 bm fB V.nb:=mB.aC k5 (by
  rintro (e|e|e)
  ·exact R.E5 e
  ·exact mB.ne R.dA e
  ·obtain⟨c,t',hc,_⟩:=R.aO.aO.fZ e
   exact mB.ne hc rfl)
 have notS:∀z,(∀b' c t',az w5 b' c t'->z≠b')->¬(z=bv\/tJ.F z\/z=V.bk i\/z=b\/dC (V.B i) s z\/dC (V.B i) t z):=by
  intro z hz
  have bov:∀{b' c t'},az w b' c t'->b'≠bo->(t'=158\/t'=114\/t'=116)->az w5 b' c t':=fun h hne ht=>k5.aB h (by
   rintro (e|e|e)
   ·exact hne e
   ·exact az.ne h R.dA (by rcases ht with rfl|rfl|rfl <;> decide) e
   ·exact R.aO.aO.ne h (by rcases ht with rfl|rfl|rfl <;> decide) (by rcases ht with rfl|rfl|rfl <;> decide) (by rcases ht with rfl|rfl|rfl <;> decide) (by rcases ht with rfl|rfl|rfl <;> decide) (by rcases ht with rfl|rfl|rfl <;> decide) e)
  obtain⟨fO,mO,_⟩:=R.fD
  have aau:∀x,x<2->¬dC (V.B i) x z:=by
   rintro x hx (e|⟨l,hl,e⟩)
   ·rcases ((R.aW i hi).side x hx) with⟨h0,_⟩|⟨ab,hab,hsd⟩
    ·rw[h0]at e;simp[gG]at e
    ·obtain⟨cs,hcs,_⟩:=hsd.oH
     rw[hab]at e
     simp[gG]at e
     exact hz ab _ _ (bov hcs (Ne.symm (mO.ne hcs)) (by simp)) e.symm
   ·have h:=((R.aW i hi).side x hx).bg hl
    exact hz _ _ _ (bov h (Ne.symm (mO.ne h)) (by simp)) e
  rintro (e|e|e|e|e|e)
  ·exact hz bv _ _ hv5.dA e
  ·obtain⟨c,t',hc,_⟩:=hv5.aO.fZ e
   exact hz z _ _ hc rfl
  ·exact hz _ _ _ (bov (R.aW i hi).aB (Ne.symm (mO.ne (R.aW i hi).aB)) (by simp)) e
  ·exact hz b _ _ Zu e
  ·exact aau s hs e
  ·exact aau t t2 e
 refine⟨hv,⟨fB,ZH.aC k (notS bm (fun b' c t' h=>ZH.ne h)),?_,?_⟩,⟨fO5,mO5.aC k (notS bo (fun b' c t' h=>mO5.ne h)),aa6⟩,R.E5,?_,?_,?_,R.qL,?_,by show V.no+1<=200;omega⟩
 ·intro j hj
  by_cases e:j=i
  ·subst e;simp only[aj,mV,f4];exact oK j hj
  ·simp only[ah _ _ e];exact oK j hj
 ·intro s' b' h
  obtain⟨j,hj,e1,e2⟩:=sF s' b' h
  refine⟨j,hj,e1,?_⟩
  by_cases e:j=i
  ·subst e;simp only[aj,mV,f4];exact e2
  ·simp only[ah _ _ e];exact e2
 ·intro j hj
  by_cases e:j=i
  ·subst e;simp only[aj];exact m.aW
  ·simp only[ah _ _ e];exact aa1 j hj e
 ·intro id x hx
  simp only at hx ⊢
  rw[wY,(a1 x).1]
  by_cases e:id=o.id
  ·rw[if_pos e]at hx
   simp only[Option.some.injEq]at hx
   rw[<-hx,aj]
   exact⟨e.symm,m.bg b (by rw[hL];exact .inl rfl)⟩
  ·rw[if_neg e]at hx
   obtain⟨h1,ix,h2⟩:=R.bg id x hx
   have:=h2.lt
   rw[ah _ _ (by omega)]
   exact⟨h1,m.bg x (by rw[hL];exact .inr ⟨id,hx⟩)⟩
 ·intro j hj x hx l hl
  simp only at hj hl ⊢
  by_cases e:j=i
  ·subst e
   simp only[aj]at hl ⊢
   have:=m.mem x hx l hl
   rw[hL]at this
   rcases this with h|⟨id,h⟩
   ·exact⟨o.id,by rw[if_pos rfl,h]⟩
   ·by_cases e:id=o.id
    ·rw[e,hfree]at h;simp at h
    ·exact⟨id,by rw[if_neg e];exact h⟩
  ·simp only[ah _ _ e]at hl ⊢
   obtain⟨id,h⟩:=R.mem j hj x hx l hl
   by_cases e:id=o.id
   ·rw[e,hfree]at h;simp at h
   ·exact⟨id,by rw[if_neg e];exact h⟩
 ·intro p q hp hq hne x y hx hy z h1 h2
  have half:∀p q,p<V.nb->q<V.nb->p≠q->p=i->∀x y,x<2->y<2->∀z,dC (dV b t g cap' st1) x z->dC (V.B q) y z->False:=by
   intro p q hp hq hne e x y hx hy z h1 h2
   have hz:=G8 q hq y hy z h2
   rcases zo h1 with h|h|h
   ·exact R.lZ i q hi hq (by omega) x y hx hy z (aav x hx z h) h2
   ·omega
   ·rcases hgl z hz with h'|h'
    ·exact R.lZ i q hi hq (by omega) t y t2 hy z (.inl h') h2
    ·exact h' h
  by_cases e:p=i
  ·simp only[e,aj]at h1
   simp only[ah _ _ (show q≠i by omega)]at h2
   exact half p q hp hq hne e x y hx hy z h1 h2
  ·simp only[ah _ _ e]at h1
   by_cases e2:q=i
   ·simp only[e2,aj]at h2
    exact half q p hq hp (fun h=>hne h.symm) e2 y x hy hx z h2 h1
   ·simp only[ah _ _ e2]at h2
    exact R.lZ p q hp hq hne x y hx hy z h1 h2
open Go.RowKit
def rG(l:List Ord)(o:iL):Nat->Int
 | 0=>0
 | i+1=>rG l o i+(if ku o (ax l i)=true/\(ax l i).aA≠o.aA then (ax l i).aK else 0)
def zZ(l:List Ord)(id:Int):Int:=match jX l id with
 | none=>6
 | some k=>if (ax l k).aK=0 then 10 else 0
theorem vS{l:List Ord}{id:Int}{k:Nat}(h:jX l id=some k):k<l.length/\(ax l k).id=id:=by
 unfold jX at h
 obtain⟨hk,h1,_⟩:=List.findIdx?_eq_some_iff_getElem.1 h
 refine⟨hk,?_⟩
 rw[Le (List.getElem?_eq_getElem hk)]
 simpa using h1
def Gn : List (String × DataW Unit) := [("math/bits.deBruijn32tab", Rows.laid_math_bits_deBruijn32tab), ("math/bits.deBruijn64tab", Rows.laid_math_bits_deBruijn64tab), ("internal/strconv.uint64pow10", Rows.laid_internal_strconv_uint64pow10)]
theorem Ru:(Tryz.prog.globals[qJ]?).map (·.type)=some 287:=by kernel_rfl
theorem Iq{W:World}(h:laidMetH Tryz.prog Gn W):oC W:=by
 have h1 : laidMetH Tryz.prog [("internal/strconv.uint64pow10", Lib.tabData .u64 Lib.pow10Tab)] W := h.filter (fun x => x.1 == "internal/strconv.uint64pow10")
 rw[MakeChecks.laidMetH_plain _ _ _ (by kernel_rfl)]at h1
 exact Lib.tabIs_of_head J9 Ru Tryz.underlying287 Tryz.underlying253 (by kernel_rfl) (by kernel_rfl) h1
theorem Pj(os:Os)(args:Array Value):laidMetH Tryz.prog Gn ((World.doorLaid Tryz.prog 400 os).forCall (fun _ _=>0) ⟨#[],args,[]⟩).memory :=
 laidMetH_of_parts3 (fuel:=8) (laidMet_of_run' 8 (by kernel_rfl) (by kernel_rfl)) (by kernel_rfl) (by kernel_rfl)
end Go.Proofs.YtigaphnafnpfnaaGreatDoor
