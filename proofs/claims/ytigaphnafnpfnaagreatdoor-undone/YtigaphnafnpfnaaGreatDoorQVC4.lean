import Derived.Test.YtigaphnafnpfnaaGreatDoorQVC1
import Derived.Laws.ResultCell
import Derived.Lib.BufferWrite
import Derived.Lib.UnsafeStr
import Derived.Deep.OwnRows
import Derived.Laws.IdiomStrings
set_option linter.unusedVariables false
set_option linter.unusedSimpArgs false
set_option maxHeartbeats 8000000
set_option maxRecDepth 100000
namespace Go.Proofs.YtigaphnafnpfnaaGreatDoor
open Go.RowKit Go.Maps
attribute [local go_sem ↓] Go.wp_at_zero Go.wp_at_succ
def BH(o:iL):Array Value:=#[.int .i64 o.id,.int .i64 o.aA,.string o.sym,.int .i64 o.side,.int .i64 o.kind,.int .i64 o.af,.int .i64 o.aI]
theorem dN.aH{w w':World}{bv bm bo:Nat}{V:aQ}(R:dN w bv bm bo V)(k:au aP w w'):dN w' bv bm bo V:=by
 obtain⟨fB,mB,h1,h2⟩:=R.ik
 obtain⟨fO,mO,h3⟩:=R.fD
 exact⟨R.aO.aH k,⟨fB,mB.aC k (fun x=>x),h1,h2⟩,⟨fO,mO.aC k (fun x=>x),h3⟩,R.E5,fun i hi=>(R.aW i hi).aC k (fun _ _ x=>x),fun id b h=>⟨(R.bg id b h).1,(R.bg id b h).2.elim fun ix ho=>⟨ix,k.aB ho (fun x=>x)⟩⟩,R.mem,R.qL,R.lZ,R.gp⟩
def dI(bv bm bo:Nat)(V:aQ)(x:Nat):Prop:=x=bv\/x=bm\/x=bo\/(∃i,i<V.nb/\(x=V.bk i\/∃s,s<2/\dC (V.B i) s x))\/(∃id,V.aU id=some x)\/V.lm.F x
theorem dN.mD{w:World}{bv bm bo:Nat}{V:aQ}(R:dN w bv bm bo V){x:Nat}{c:Array Value}{t:TypeId}(hb:az w x c t)(h1:t≠100)(h2:t≠158)(h3:t≠114)(h4:t≠116)(h5:t≠103)(h6:t≠62)(h7:t≠105)(h8:t≠109:=by decide)(h9:t≠1/\t≠5:=by decide):¬dI bv bm bo V x:=by
 obtain⟨fB,mB,_⟩:=R.ik
 obtain⟨fO,mO,_⟩:=R.fD
 rintro (e|e|e|⟨i,hi,e|⟨s,hs,e|⟨k,hk,e⟩⟩⟩|⟨id,e⟩|e)
 ·exact az.ne hb R.dA h1 e
 ·exact mB.ne hb e.symm
 ·exact mO.ne hb e.symm
 ·exact az.ne hb (R.aW i hi).aB h2 e
 ·exact ((R.aW i hi).side s hs).ne hb h3 e
 ·exact az.ne hb (((R.aW i hi).side s hs).bg hk) h4 e
 ·obtain⟨_,ix,ho⟩:=R.bg id x e
  exact az.ne hb ho h4 rfl
 ·exact R.aO.aO.ne hb h5 h6 h7 h8 h9 e
theorem dN.TK{w:World}{bv bm bo:Nat}{V:aQ}(R:dN w bv bm bo V){x:Nat}(h:dI bv bm bo V x):x<w.heap.size:=by
 obtain⟨fB,mB,_⟩:=R.ik
 obtain⟨fO,mO,_⟩:=R.fD
 rcases h with rfl|rfl|rfl|⟨i,hi,rfl|⟨s,hs,e|⟨k,hk,rfl⟩⟩⟩|⟨id,e⟩|e
 ·exact R.dA.lt
 ·exact mB.lt
 ·exact mO.lt
 ·exact (R.aW i hi).aB.lt
 ·exact ((R.aW i hi).side s hs).lt e
 ·exact (((R.aW i hi).side s hs).bg hk).lt
 ·obtain⟨_,ix,ho⟩:=R.bg id x e
  exact ho.lt
 ·exact R.aO.aO.lt e
theorem G7(o o':Ord)(tr tr':Int):∃f r c a n,jE o o' tr tr'=.agg #[.int .i64 f,.int .i64 r,.int .i64 c,.int .i64 a,.int .i64 n]:=by
 unfold jE
 split <;> exact⟨_,_,_,_,_,rfl⟩
theorem abL(tmps:Array Value)(H:Nat)(w:World)(a b c d e:Int)(ht:tmps.getD 4 undef=.pointer (some ⟨H,0,none⟩))(hu:tmps.getD 5 undef=.int .i64 0)(hb:az w H #[.int .i64 a,.int .i64 b,.int .i64 c,.int .i64 d,.int .i64 e] 87) :
 (results Tryz.f64 tmps).run Tryz.prog w=.ok (.tuple #[.agg #[.int .i64 a,.int .i64 b,.int .i64 c,.int .i64 d,.int .i64 e],.int .i64 0]) w:=by
 have c0:w.cell? ⟨H,0,none⟩=some (.int .i64 a):=hb.cell 0
 have c1:w.cell? ⟨H,1,none⟩=some (.int .i64 b):=hb.cell 1
 have c2:w.cell? ⟨H,2,none⟩=some (.int .i64 c):=hb.cell 2
 have c3:w.cell? ⟨H,3,none⟩=some (.int .i64 d):=hb.cell 3
 have c4:w.cell? ⟨H,4,none⟩=some (.int .i64 e):=hb.cell 4
 simp only[Array.getD_eq_getD_getElem?]at ht hu
 simp[results,Tryz.results64,go_sem,ht,hu,c0,c1,c2,c3,c4]
theorem bU.jg{w w':World}{bb:Nat}{B:Bk}{om:Nat->Ord}(hb:bU w bb B om){S:Nat->Prop}(k:au S w w')(hS:∀x c t,az w x c t->(t=158\/t=114\/t=116)->¬S x):bU w' bb B om:=by
 refine hb.aC k ?_
 rintro x (rfl|⟨y,hy,h⟩)
 ·exact hS _ _ _ hb.aB (.inl rfl)
 ·rcases h with h|⟨l,hl,rfl⟩
  ·rcases (hb.side y hy) with⟨h0,_⟩|⟨ab,hab,hsd⟩
   ·rw[h0]at h;simp[gG]at h
   ·obtain⟨cs,hcs,_⟩:=hsd.oH
    rw[hab]at h
    simp[gG]at h
    rw[h]at hcs
    exact hS _ _ _ hcs (.inr (.inl rfl))
  ·exact hS _ _ _ ((hb.side y hy).bg hl) (.inr (.inr rfl))
theorem dN.jH{w w':World}{bv bm bo:Nat}{V:aQ}(R:dN w bv bm bo V){G':Lg}{bH:Lm}(hl:bu w' bv bm bo G' bH)(k:au (fun x=>x=bv\/V.lm.F x) w w'):dN w' bv bm bo { V with lg:=G',lm:=bH }:=by
 obtain⟨fB,mB,g1,g2⟩:=R.ik
 obtain⟨fO,mO,g3⟩:=R.fD
 have key:∀{x c t},az w x c t->(t=158\/t=114\/t=116)->¬(x=bv\/V.lm.F x):=by
  rintro x c t hx ht (e|e)
  ·exact az.ne hx R.dA (by rcases ht with rfl|rfl|rfl <;> decide) e
  ·exact R.aO.aO.ne hx (by rcases ht with rfl|rfl|rfl <;> decide) (by rcases ht with rfl|rfl|rfl <;> decide) (by rcases ht with rfl|rfl|rfl <;> decide) (by rcases ht with rfl|rfl|rfl <;> decide) (by rcases ht with rfl|rfl|rfl <;> decide) e
 have aah:∀z,(∀b c t,az w b c t->z≠b)->¬(z=bv\/V.lm.F z):=by
  rintro z hz (e|e)
  ·exact hz _ _ _ R.dA e
  ·obtain⟨c,t,hc,_⟩:=R.aO.aO.fZ e
   exact hz _ _ _ hc rfl
 refine⟨hl,⟨fB,mB.aC k (aah bm (fun b c t hb=>mB.ne hb)),g1,g2⟩,⟨fO,mO.aC k (aah bo (fun b c t hb=>mO.ne hb)),g3⟩,R.E5,fun j hj=>(R.aW j hj).aC k ?_,fun id x h=>⟨(R.bg id x h).1,(R.bg id x h).2.elim fun ix ho=>⟨ix,k.aB ho (key ho (.inr (.inr rfl)))⟩⟩,R.mem,R.qL,R.lZ,R.gp⟩
 rintro x (rfl|⟨y,hy,h⟩)
 ·exact key (R.aW j hj).aB (.inl rfl)
 ·rcases h with h|⟨l,hl,rfl⟩
  ·rcases ((R.aW j hj).side y hy) with⟨h0,_⟩|⟨ab,hab,hsd⟩
   ·rw[h0]at h;simp[gG]at h
   ·obtain⟨cs,hcs,_⟩:=hsd.oH
    rw[hab]at h
    simp[gG]at h
    rw[h]at hcs
    exact key hcs (.inr (.inl rfl))
  ·exact key (((R.aW j hj).side y hy).bg hl) (.inr (.inr rfl))
open Go.RowKit Go.Maps Go.Lib
theorem Z9:(Tryz.prog.info? 5).map (fun i=>(i.zero,i.size,i.bytes))=some (some (.int .u8 0),1,1):=by kernel_rfl
theorem WT:Tryz.prog.cellsOf 5=1:=by kernel_rfl
theorem az.setRow{w:World}{b:Nat}{c:Array Value}{t:TypeId}(h:az w b c t)(cs:Array Value):az (w.setRow b cs) b cs t:=by
 unfold az at h ⊢;simp[World.setRow,Array.getElem?_modify,h]
theorem az.shape{w:World}{b:Nat}{c:Array Value}{t:TypeId}(h:az w b c t):w.shape? b=some (t,c.size):=by
 unfold az at h
 unfold World.shape?
 rw[h]
theorem FY(w:World)(a:Addr)(n k:Nat)(h:k≠a.block):(w.freeze a n).heap[k]?=w.heap[k]?:=by
 unfold World.freeze
 split
 ·rfl
 ·simp only[Array.getElem?_modify]
  rw[if_neg (by omega)]
theorem au.setRow{S:Nat->Prop}{a w:World}(h:au S a w){b:Nat}(hb:S b\/a.heap.size<=b)(cs:Array Value):au S a (w.setRow b cs) :=
 ⟨h.os,h.tape,h.output,by have:=h.size;simpa [World.setRow] using this,fun k hk hs=>by
  have hne:k≠b:=by rintro rfl;rcases hb with hb|hb;exact hs hb;omega
  have:(w.setRow b cs).heap[k]?=w.heap[k]?:=by simp only[World.setRow,Array.getElem?_modify];rw[if_neg (by omega)]
  rw[this];exact h.block k hk hs⟩
theorem au.freeze{S:Nat->Prop}{a w:World}(h:au S a w){p:Addr}(hp:S p.block\/a.heap.size<=p.block)(n:Nat):au S a (w.freeze p n):=by
 refine⟨?_,?_,?_,?_,fun k hk hs=>?_⟩
 ·unfold World.freeze;split <;> exact h.os
 ·unfold World.freeze;split <;> exact h.tape
 ·unfold World.freeze;split <;> exact h.output
 ·unfold World.freeze;split
  ·exact h.size
  ·have:=h.size;simpa using this
 ·rw[FY _ _ _ _ (by rintro rfl;rcases hp with hp|hp;exact hs hp;omega)]
  exact h.block k hk hs
theorem BK(s:ByteArray)(w:World)(hs:s.size<=100000):Calls Tryz.prog 84 #[.string s] w fun e w'=>e=.returned (.string s)/\au aP w w':=by
 by_cases h0:s.size=0
 ·have e0:((s.size:Int) == 0)=true:=by rw[h0];rfl
  have hse:Hid (s=ByteArray.empty):=by
   show s=_
   exact ByteArray.ext (Array.eq_empty_of_size_eq_zero h0)
  clear h0
  go_enter Tryz.func84,Tryz.ntmps84
  go_wp2
  go_ret
  exact⟨by rw[ae hse];rfl,au.refl _ _⟩
 ·have e0:((s.size:Int) == 0)=false:=beq_eq_false_iff_ne.2 (by omega)
  have p0:0<s.size:=by omega
  have hmk:=run_make_row' (P:=Tryz.prog) 98 5 (.int .u8 0) 1 Tryz.underlying98 Z9 rfl .i64 .i64 s.size (by omega) (by omega)
  have WZ:az (w.alloc (.cells (madeCells #[.int .u8 0] s.size) 5)) w.heap.size (madeCells #[.int .u8 0] s.size) 5:=az.new w _ _
  have hcp:=fun ty=>run_copy_row_string (P:=Tryz.prog) (w.alloc (.cells (madeCells #[.int .u8 0] s.size) 5)) 98 9 ty 5 w.heap.size 0 s.size s.size s (madeCells #[.int .u8 0] s.size) 5 Tryz.underlying98 (by kernel_rfl) WZ (Nat.le_refl _) (by rw[size_madeCells];omega)
  have hl:s.data.toList.length=s.size:=by rw[Array.length_toList];rfl
  obtain⟨X,hX⟩:∃X,X=(byteCells s.data.toList++List.drop s.size (madeCells #[.int .u8 0] s.size).toList).toArray:=⟨_,rfl⟩
  have hbB:=WZ.setRow X
  have hXs:X.size=s.size:=by rw[hX];simp[byteCells_length,size_madeCells,hl]
  have hus:=fun ty=>run_unsafeString_row (P:=Tryz.prog) (w:=(w.alloc (.cells (madeCells #[.int .u8 0] s.size) 5)).setRow w.heap.size X) 191 3 ty 5 Tryz.underlying191 WT w.heap.size X.size (hbB.shape) s.data.toList (by intro e;rw[e]at hl;simp at hl;omega) (by rw[hl,hXs];omega) (by rw[hl];omega) (by
   intro j x hj
   refine World.news_of_block hbB j _ ?_
   have hj':j<s.data.toList.length:=(List.getElem?_eq_some_iff.1 hj).1
   rw[hX]
   simp only[List.toList_toArray]
   rw[List.getElem?_append_left (by rw[byteCells_length];exact hj')]
   simp only[byteCells,List.getElem?_map,hj,Option.map_some])
  have hfin:(⟨s.data.toList.toArray⟩:ByteArray)=s:=by simp
  rw[hl,hfin,hX]at hus
  clear hbB WZ hXs hX h0 hl hfin
  go_enter Tryz.func84,Tryz.ntmps84
  go_wp2
  go_ret
  exact⟨rfl,(((au.refl aP w).alloc _).setRow (.inr (Nat.le_refl _)) _).freeze (.inr (Nat.le_refl _)) _⟩
theorem wW(s:ByteArray)(w:World)(hs:s.size<=100000):Calls Tryz.prog 49 #[.string s] w fun e w'=>e=.returned (.string s)/\au aP w w':=by
 go_enter Tryz.func49,Tryz.ntmps49
 go_wp2_with fail
 refine (BK s w hs).mono ?_
 rintro e w' ⟨rfl,k⟩
 go_wp2
 go_ret
 exact⟨rfl,k⟩
def jD:Array Value:=#[.int .i64 0,.int .i64 0,.string ⟨#[]⟩,.int .i64 0,.int .i64 0,.int .i64 0,.int .i64 0,.int .i64 0,.int .i64 0,.int .i64 0,.int .i64 0,.int .i64 0]
theorem VQ(tmps:Array Value)(H:Nat)(w:World)(x:Int)(c0 c1 c3 c4 c5 c6 c7 c8 c9 c10 c11:Int)(c2:ByteArray)(ht:tmps.getD 4 undef=.pointer (some ⟨H,0,none⟩))(hu:tmps.getD 5 undef=.int .i64 x)
 (hb:az w H #[.int .i64 c0,.int .i64 c1,.string c2,.int .i64 c3,.int .i64 c4,.int .i64 c5,.int .i64 c6,.int .i64 c7,.int .i64 c8,.int .i64 c9,.int .i64 c10,.int .i64 c11] 54) :
 (results Tryz.f26 tmps).run Tryz.prog w=.ok (.tuple #[.agg #[.int .i64 c0,.int .i64 c1,.string c2,.int .i64 c3,.int .i64 c4,.int .i64 c5,.int .i64 c6,.int .i64 c7,.int .i64 c8,.int .i64 c9,.int .i64 c10,.int .i64 c11],.int .i64 x]) w:=by
 have k0:w.cell? ⟨H,0,none⟩=some (.int .i64 c0):=hb.cell 0
 have k1:w.cell? ⟨H,1,none⟩=some (.int .i64 c1):=hb.cell 1
 have k2:w.cell? ⟨H,2,none⟩=some (.string c2):=hb.cell 2
 have k3:w.cell? ⟨H,3,none⟩=some (.int .i64 c3):=hb.cell 3
 have k4:w.cell? ⟨H,4,none⟩=some (.int .i64 c4):=hb.cell 4
 have k5:w.cell? ⟨H,5,none⟩=some (.int .i64 c5):=hb.cell 5
 have k6:w.cell? ⟨H,6,none⟩=some (.int .i64 c6):=hb.cell 6
 have k7:w.cell? ⟨H,7,none⟩=some (.int .i64 c7):=hb.cell 7
 have k8:w.cell? ⟨H,8,none⟩=some (.int .i64 c8):=hb.cell 8
 have k9:w.cell? ⟨H,9,none⟩=some (.int .i64 c9):=hb.cell 9
 have k10:w.cell? ⟨H,10,none⟩=some (.int .i64 c10):=hb.cell 10
 have k11:w.cell? ⟨H,11,none⟩=some (.int .i64 c11):=hb.cell 11
 simp only[Array.getD_eq_getD_getElem?]at ht hu
 simp[results,Tryz.results26,go_sem,ht,hu,k0,k1,k2,k3,k4,k5,k6,k7,k8,k9,k10,k11]
theorem aax{w:World}{H:Nat}(hr:az w H jD 54)(v0 v1 v2 v3 v4 v5 v6 v7 v8 v9 v10 v11:Value):az ((((((((((((w.setCell ⟨H,0,none⟩ v0).setCell ⟨H,1,none⟩ v1).setCell ⟨H,2,none⟩ v2).setCell ⟨H,3,none⟩ v3).setCell ⟨H,4,none⟩ v4).setCell ⟨H,5,none⟩ v5).setCell ⟨H,6,none⟩ v6).setCell ⟨H,7,none⟩ v7).setCell ⟨H,8,none⟩ v8).setCell ⟨H,9,none⟩ v9).setCell ⟨H,10,none⟩ v10).setCell ⟨H,11,none⟩ v11) H #[v0,v1,v2,v3,v4,v5,v6,v7,v8,v9,v10,v11] 54:=by
 have h:=((((((((((((hr.set 0 v0).set 1 v1).set 2 v2).set 3 v3).set 4 v4).set 5 v5).set 6 v6).set 7 v7).set 8 v8).set 9 v9).set 10 v10).set 11 v11)
 have e:((((((((((((jD.setIfInBounds 0 v0).setIfInBounds 1 v1).setIfInBounds 2 v2).setIfInBounds 3 v3).setIfInBounds 4 v4).setIfInBounds 5 v5).setIfInBounds 6 v6).setIfInBounds 7 v7).setIfInBounds 8 v8).setIfInBounds 9 v9).setIfInBounds 10 v10).setIfInBounds 11 v11)=#[v0,v1,v2,v3,v4,v5,v6,v7,v8,v9,v10,v11]:=by simp[jD]
 rw[e]at h
 exact h
theorem Ij(bv bm bo:Nat)(V:aQ)(id:Int)(w:World)(R:dN w bv bm bo V)(hwf:(Lit.int .i64 id).wf=true)(hid:V.aU id=none) :
 Calls Tryz.prog 26 #[.pointer (some ⟨bv,0,none⟩),.int .i64 id] w fun e w'=>e=.returned (.tuple #[.agg jD,.int .i64 6])/\au aP w w':=by
 obtain⟨fO,mO,tZ⟩:=R.fD
 have k1:au aP w (w.alloc (.cells jD 54)):=(au.refl aP w).alloc _
 have L2:(Instr.lookup 95 (.map (some bo)) (.int .i64 id) false).run Tryz.prog (w.alloc (.cells jD 54))=.ok (.pointer none) (w.alloc (.cells jD 54)):=by
  rw[(mO.aC k1 (fun x=>x)).look yu Tryz.underlying95 (uU _) (keyOf_int_mk Tryz.underlying3 hwf),tZ,hid];rfl
 simp only[jD]at L2
 have v1:w.cell? ⟨bv,1,none⟩=some (.map (some bo)):=R.dA.cell 1
 have lv:=R.dA.lt
 clear mO tZ R
 go_enter Tryz.func26,Tryz.ntmps26
 go_wp2
 refine bodyPost_ret (VQ _ w.heap.size _ 6 0 0 0 0 0 0 0 0 0 0 0 ⟨#[]⟩ rfl rfl ?_) rfl ⟨rfl,?_⟩
 ·exact az.new w _ _
 ·exact (au.refl aP w).alloc _
theorem Ik(bv bm bo b:Nat)(V:aQ)(id:Int)(w:World)(R:dN w bv bm bo V)(hwf:(Lit.int .i64 id).wf=true)(hid:V.aU id=some b)(hsz:(V.om b).sym.size<=100000) :
 Calls Tryz.prog 26 #[.pointer (some ⟨bv,0,none⟩),.int .i64 id] w fun e w'=>e=.returned (.tuple #[.agg (kC (V.om b)),.int .i64 0])/\au aP w w':=by
 obtain⟨fO,mO,tZ⟩:=R.fD
 have k1:au aP w (w.alloc (.cells jD 54)):=(au.refl aP w).alloc _
 have L2:(Instr.lookup 95 (.map (some bo)) (.int .i64 id) false).run Tryz.prog (w.alloc (.cells jD 54))=.ok (.pointer (some ⟨b,0,none⟩)) (w.alloc (.cells jD 54)):=by
  rw[(mO.aC k1 (fun x=>x)).look yu Tryz.underlying95 (uU _) (keyOf_int_mk Tryz.underlying3 hwf),tZ,hid];rfl
 simp only[jD]at L2
 have v1:w.cell? ⟨bv,1,none⟩=some (.map (some bo)):=R.dA.cell 1
 have lv:=R.dA.lt
 obtain⟨-,ix,ho⟩:=R.bg id b hid
 have lo:=ho.lt
 generalize V.om b=o at *
 have c0:w.cell? ⟨b,0,none⟩=some (.int .i64 o.id):=ho.cell 0
 have c1:w.cell? ⟨b,1,none⟩=some (.int .i64 o.aA):=ho.cell 1
 have c2:w.cell? ⟨b,2,none⟩=some (.string o.sym):=ho.cell 2
 have c3:w.cell? ⟨b,3,none⟩=some (.int .i64 o.side):=ho.cell 3
 have c4:w.cell? ⟨b,4,none⟩=some (.int .i64 o.kind):=ho.cell 4
 have c5:w.cell? ⟨b,5,none⟩=some (.int .i64 o.af):=ho.cell 5
 have c6:w.cell? ⟨b,6,none⟩=some (.int .i64 o.aI):=ho.cell 6
 have c7:w.cell? ⟨b,7,none⟩=some (.int .i64 o.entered):=ho.cell 7
 have c8:w.cell? ⟨b,8,none⟩=some (.int .i64 o.aK):=ho.cell 8
 have c9:w.cell? ⟨b,9,none⟩=some (.int .i64 o.filled):=ho.cell 9
 have c10:w.cell? ⟨b,10,none⟩=some (.int .i64 o.bQ):=ho.cell 10
 have c11:w.cell? ⟨b,11,none⟩=some (.int .i64 o.exp):=ho.cell 11
 obtain⟨w1,hw1⟩:∃w1,w1=(w.alloc (.cells #[.int .i64 0,.int .i64 0,.string ⟨#[]⟩,.int .i64 0,.int .i64 0,.int .i64 0,.int .i64 0,.int .i64 0,.int .i64 0,.int .i64 0,.int .i64 0,.int .i64 0] 54)).alloc (.cells #[.int .i64 o.id,.int .i64 o.aA,.string o.sym,.int .i64 o.side,.int .i64 o.kind,.int .i64 o.af,.int .i64 o.aI,.int .i64 o.entered,.int .i64 o.aK,.int .i64 o.filled,.int .i64 o.bQ,.int .i64 o.exp] 54):=⟨_,rfl⟩
 have kw1:au aP w w1:=by rw[hw1];exact ((au.refl aP w).alloc _).alloc _
 have hr1:az w1 w.heap.size jD 54:=by rw[hw1];exact (az.new w _ _).alloc _
 have hs1:az w1 (w.heap.size+1) (kC o) 54:=by rw[hw1];exact az.xy w _ _ _
 have HW1:=ai hw1
 clear mO tZ R hw1 hid
 go_enter Tryz.func26,Tryz.ntmps26
 go_wp2_with fail
 rw[<-ae HW1]
 refine (wW o.sym w1 hsz).mono ?_
 rintro e w2 ⟨rfl,k2⟩
 clear c0 c1 c2 c3 c4 c5 c6 c7 c8 c9 c10 c11 L2 v1
 have hr2:=k2.aB hr1 (fun x=>x)
 have hs2:=k2.aB hs1 (fun x=>x)
 have hne:w.heap.size+1≠w.heap.size:=by omega
 have s0:w2.cell? ⟨w.heap.size+1,0,none⟩=some (.int .i64 o.id):=hs2.cell 0
 have s1:w2.cell? ⟨w.heap.size+1,1,none⟩=some (.int .i64 o.aA):=hs2.cell 1
 have s2:w2.cell? ⟨w.heap.size+1,2,none⟩=some (.string o.sym):=hs2.cell 2
 have s3:w2.cell? ⟨w.heap.size+1,3,none⟩=some (.int .i64 o.side):=hs2.cell 3
 have s4:w2.cell? ⟨w.heap.size+1,4,none⟩=some (.int .i64 o.kind):=hs2.cell 4
 have s5:w2.cell? ⟨w.heap.size+1,5,none⟩=some (.int .i64 o.af):=hs2.cell 5
 have s6:w2.cell? ⟨w.heap.size+1,6,none⟩=some (.int .i64 o.aI):=hs2.cell 6
 have s7:w2.cell? ⟨w.heap.size+1,7,none⟩=some (.int .i64 o.entered):=hs2.cell 7
 have s8:w2.cell? ⟨w.heap.size+1,8,none⟩=some (.int .i64 o.aK):=hs2.cell 8
 have s9:w2.cell? ⟨w.heap.size+1,9,none⟩=some (.int .i64 o.filled):=hs2.cell 9
 have s10:w2.cell? ⟨w.heap.size+1,10,none⟩=some (.int .i64 o.bQ):=hs2.cell 10
 have s11:w2.cell? ⟨w.heap.size+1,11,none⟩=some (.int .i64 o.exp):=hs2.cell 11
 have t2:=hs2.frozen 2
 have r0:w2.cell? ⟨w.heap.size,0,none⟩=some (.int .i64 0):=hr2.cell 0
 have r1:w2.cell? ⟨w.heap.size,1,none⟩=some (.int .i64 0):=hr2.cell 1
 have r2:w2.cell? ⟨w.heap.size,2,none⟩=some (.string ⟨#[]⟩):=hr2.cell 2
 have r3:w2.cell? ⟨w.heap.size,3,none⟩=some (.int .i64 0):=hr2.cell 3
 have r4:w2.cell? ⟨w.heap.size,4,none⟩=some (.int .i64 0):=hr2.cell 4
 have r5:w2.cell? ⟨w.heap.size,5,none⟩=some (.int .i64 0):=hr2.cell 5
 have r6:w2.cell? ⟨w.heap.size,6,none⟩=some (.int .i64 0):=hr2.cell 6
 have r7:w2.cell? ⟨w.heap.size,7,none⟩=some (.int .i64 0):=hr2.cell 7
 have r8:w2.cell? ⟨w.heap.size,8,none⟩=some (.int .i64 0):=hr2.cell 8
 have r9:w2.cell? ⟨w.heap.size,9,none⟩=some (.int .i64 0):=hr2.cell 9
 have r10:w2.cell? ⟨w.heap.size,10,none⟩=some (.int .i64 0):=hr2.cell 10
 have r11:w2.cell? ⟨w.heap.size,11,none⟩=some (.int .i64 0):=hr2.cell 11
 have q0:=hr2.frozen 0
 have q1:=hr2.frozen 1
 have q2:=hr2.frozen 2
 have q3:=hr2.frozen 3
 have q4:=hr2.frozen 4
 have q5:=hr2.frozen 5
 have q6:=hr2.frozen 6
 have q7:=hr2.frozen 7
 have q8:=hr2.frozen 8
 have q9:=hr2.frozen 9
 have q10:=hr2.frozen 10
 have q11:=hr2.frozen 11
 go_wp2
 refine bodyPost_ret (VQ _ w.heap.size _ 0 o.id o.aA o.side o.kind o.af o.aI o.entered o.aK o.filled o.bQ o.exp o.sym rfl rfl ?_) rfl ⟨rfl,?_⟩
 ·exact aax (hr2.other (a:=⟨w.heap.size+1,2,none⟩) (fun e=>hne e.symm) _) _ _ _ _ _ _ _ _ _ _ _ _
 ·have kk:au aP w w2:=kw1.trans k2
  exact ((((((((((((((kk).setCell (p:=⟨w.heap.size+1,2,none⟩) (.inr (Nat.le_succ _)) _).setCell (p:=⟨w.heap.size,0,none⟩) (.inr (Nat.le_refl _)) _).setCell (p:=⟨w.heap.size,1,none⟩) (.inr (Nat.le_refl _)) _).setCell (p:=⟨w.heap.size,2,none⟩) (.inr (Nat.le_refl _)) _).setCell (p:=⟨w.heap.size,3,none⟩) (.inr (Nat.le_refl _)) _).setCell (p:=⟨w.heap.size,4,none⟩) (.inr (Nat.le_refl _)) _).setCell (p:=⟨w.heap.size,5,none⟩) (.inr (Nat.le_refl _)) _).setCell (p:=⟨w.heap.size,6,none⟩) (.inr (Nat.le_refl _)) _).setCell (p:=⟨w.heap.size,7,none⟩) (.inr (Nat.le_refl _)) _).setCell (p:=⟨w.heap.size,8,none⟩) (.inr (Nat.le_refl _)) _).setCell (p:=⟨w.heap.size,9,none⟩) (.inr (Nat.le_refl _)) _).setCell (p:=⟨w.heap.size,10,none⟩) (.inr (Nat.le_refl _)) _).setCell (p:=⟨w.heap.size,11,none⟩) (.inr (Nat.le_refl _)) _)
theorem dN.vN{w:World}{bv bm bo:Nat}{V:aQ}(R:dN w bv bm bo V){id:Int}(hid:(Lit.int .i64 id).wf=true) :
 (Instr.lookup 95 (.map (some bo)) (.int .i64 id) false).run Tryz.prog w=.ok (iR (V.aU id)) w:=by
 obtain⟨fO,mO,tZ⟩:=R.fD
 rw[mO.look yu Tryz.underlying95 (uU _) (keyOf_int_mk Tryz.underlying3 hid),tZ]
theorem dN.zM{w:World}{bv bm bo:Nat}{V:aQ}(R:dN w bv bm bo V){i:Nat}(hi:i<V.nb)(hlen:(V.B i).sym.size<=maxLen) :
 (Instr.lookup 94 (.map (some bm)) (.string (V.B i).sym) false).run Tryz.prog w=.ok (.pointer (some ⟨V.bk i,0,none⟩)) w:=by
 obtain⟨fB,mB,oK,_⟩:=R.ik
 rw[mB.look yw Tryz.underlying94 (oW _) (WideMaps.keyOf_string_mk Tryz.underlying9 hlen)]
 show _=Result.ok (iR (some (V.bk i))) _
 rw[<-oK i hi];rfl
theorem dN.qQ{w:World}{bv bm bo:Nat}{V:aQ}(R:dN w bv bm bo V){i:Nat}(hi:i<V.nb):Mk w (V.bk i) (V.B i) V.om (fun x=>∃id,V.aU id=some x) :=
 ⟨R.aW i hi,fun b ⟨id,h⟩=>(R.bg id b h).2,fun s hs k hk=>R.mem i hi s hs k hk⟩
def eY(o:Ord)(q:Int):Ord:={ o with filled:=wrap64 (o.filled-q),bQ:=wrap64 (o.bQ+q) }
def fF(o:Ord)(q:Int):Ord:={ o with filled:=wrap64 (o.filled-q),aK:=wrap64 (o.aK+q) }
def gm(o:Ord):Ord:={ o with aK:=0,exp:=wrap64 (o.exp+o.aK) }
theorem wV(b:Nat)(o:Ord)(ix q:Int)(w:World)(ho:df w b o ix) :
 Calls Tryz.prog 124 #[.pointer (some ⟨b,0,none⟩),.int .i64 q] w fun e w'=>e=.returned (.func (.func 151) #[] #[.pointer (some ⟨w.heap.size+1,0,none⟩),.pointer (some ⟨w.heap.size,0,none⟩)])/\wQ w' w.heap.size b o/\df w' b (eY o q) ix/\au (fun x=>x=b) w w':=by
 have HA:=ai (mQ b o ix w ho)
 have lo:=ho.lt
 go_enter Tryz.func124,Tryz.ntmps124
 go_wp2_with fail
 refine (ae HA).mono ?_
 rintro e w1 ⟨rfl,n1,k1⟩
 have ho1:=k1.aB ho (fun x=>x)
 have h1:w1.cell? ⟨b,9,none⟩=some (.int .i64 o.filled):=az.cell ho1 9
 have h2:w1.cell? ⟨b,10,none⟩=some (.int .i64 o.bQ):=az.cell ho1 10
 have f1:=az.frozen ho1 9
 have f2:=az.frozen ho1 10
 go_wp2
 go_ret
 have k2:=((au.refl (fun x=>x=b) w1).setCell (p:=⟨b,9,none⟩) (.inl rfl) (.int .i64 (eY o q).filled)).setCell (p:=⟨b,10,none⟩) (.inl rfl) (.int .i64 (eY o q).bQ)
 exact⟨rfl,n1.aC k2 (by omega) (by omega),(ho1.set 9 _).set 10 _,k1.bI.trans k2⟩
theorem yl(bb b:Nat)(B:Bk)(om:Nat->Ord)(L:Nat->Prop)(q:Int)(w:World)(m:Mk w bb B om L)(hb:L b) :
 Calls Tryz.prog 124 #[.pointer (some ⟨b,0,none⟩),.int .i64 q] w fun e w'=>∃fn cp,e=.returned (.func fn #[] cp)/\jr w' b (om b) w.heap.size fn cp/\Mk w' bb B (aN om b (eY (om b) q)) L/\au (fun x=>x=b) w w':=by
 obtain⟨ix,ho⟩:=m.bg b hb
 refine (wV b (om b) ix q w ho).mono ?_
 rintro e w' ⟨rfl,h0,h1,h2⟩
 exact⟨_,_,rfl,⟨rfl,_,Nat.le_refl _,rfl,h0⟩,m.aN ho h2 h1,h2⟩
theorem Aa(b:Nat)(o:Ord)(ix q:Int)(w:World)(ho:df w b o ix) :
 Calls Tryz.prog 125 #[.pointer (some ⟨b,0,none⟩),.int .i64 q] w fun e w'=>e=.returned (.func (.func 151) #[] #[.pointer (some ⟨w.heap.size+1,0,none⟩),.pointer (some ⟨w.heap.size,0,none⟩)])/\wQ w' w.heap.size b o/\df w' b (fF o q) ix/\au (fun x=>x=b) w w':=by
 have HA:=ai (mQ b o ix w ho)
 have lo:=ho.lt
 go_enter Tryz.func125,Tryz.ntmps125
 go_wp2_with fail
 refine (ae HA).mono ?_
 rintro e w1 ⟨rfl,n1,k1⟩
 have ho1:=k1.aB ho (fun x=>x)
 have h1:w1.cell? ⟨b,9,none⟩=some (.int .i64 o.filled):=az.cell ho1 9
 have h2:w1.cell? ⟨b,8,none⟩=some (.int .i64 o.aK):=az.cell ho1 8
 have f1:=az.frozen ho1 9
 have f2:=az.frozen ho1 8
 go_wp2
 go_ret
 have k2:=((au.refl (fun x=>x=b) w1).setCell (p:=⟨b,9,none⟩) (.inl rfl) (.int .i64 (fF o q).filled)).setCell (p:=⟨b,8,none⟩) (.inl rfl) (.int .i64 (fF o q).aK)
 exact⟨rfl,n1.aC k2 (by omega) (by omega),(ho1.set 9 _).set 8 _,k1.bI.trans k2⟩
theorem uq(bb b:Nat)(B:Bk)(om:Nat->Ord)(L:Nat->Prop)(q:Int)(w:World)(m:Mk w bb B om L)(hb:L b) :
 Calls Tryz.prog 125 #[.pointer (some ⟨b,0,none⟩),.int .i64 q] w fun e w'=>∃fn cp,e=.returned (.func fn #[] cp)/\jr w' b (om b) w.heap.size fn cp/\Mk w' bb B (aN om b (fF (om b) q)) L/\au (fun x=>x=b) w w':=by
 obtain⟨ix,ho⟩:=m.bg b hb
 refine (Aa b (om b) ix q w ho).mono ?_
 rintro e w' ⟨rfl,h0,h1,h2⟩
 exact⟨_,_,rfl,⟨rfl,_,Nat.le_refl _,rfl,h0⟩,m.aN ho h2 h1,h2⟩
def aQ.turn(V:aQ)(i:Nat)(B':Bk)(dG:Nat->Ord):aQ:={ V with B:=aN V.B i B',om:=dG }
def nM(V:aQ)(i x:Nat):Prop:=∀j,j<V.nb->j≠i->∀t,t<2->¬dC (V.B j) t x
theorem dN.aaF{w w':World}{bv bm bo i:Nat}{V:aQ}(R:dN w bv bm bo V)(hi:i<V.nb){B':Bk}{dG:Nat->Ord}{S:Nat->Prop}
 (hm:Mk w' (V.bk i) B' dG (fun x=>∃id,V.aU id=some x)) {G':Lg} {bH:Lm} (hl:bu w' bv bm bo G' bH) (k:au (fun x=>S x\/V.lm.F x) w w') (hS:∀x,S x->x=V.bk i\/(∃s,s<2/\dC (V.B i) s x)\/((∃id,V.aU id=some x)/\nM V i x))
 (jk:∀j,j<V.nb->j≠i->∀s,s<2->∀l,l<(V.B j).n s->dG ((V.B j).h s l)=V.om ((V.B j).h s l)) (hid:∀x,(dG x).id=(V.om x).id) (dM:B'.sym=(V.B i).sym)
 (hsd:∀s,s<2->∀x,dC B' s x->nM V i x\/w.heap.size<=x):dN w' bv bm bo { V.turn i B' dG with lg:=G',lm:=bH }:=by
 have fZ:∀x,S x->∃c t,az w x c t/\(t=158\/t=116\/t=114):=fun x hx=>by
  refine (R.qQ hi).fZ ?_
  rcases hS x hx with h|h|⟨h,_⟩
  ·exact .inl h
  ·exact .inr (.inr h)
  ·exact .inr (.inl h)
 obtain⟨fB,mB,oK,sF⟩:=R.ik
 obtain⟨fO,mO,tZ⟩:=R.fD
 have nB:¬(S bm\/V.lm.F bm):=by
  rintro (h|h)
  ·obtain⟨c,t,hc,_⟩:=fZ bm h;exact mB.ne hc rfl
  ·obtain⟨c,t,hc,_⟩:=R.aO.aO.fZ h;exact mB.ne hc rfl
 have nO:¬(S bo\/V.lm.F bo):=by
  rintro (h|h)
  ·obtain⟨c,t,hc,_⟩:=fZ bo h;exact mO.ne hc rfl
  ·obtain⟨c,t,hc,_⟩:=R.aO.aO.fZ h;exact mO.ne hc rfl
 have G8:∀j,j<V.nb->∀x,x<2->∀y,dC (V.B j) x y->y<w.heap.size:=fun j hj x hx y h=>by
  rcases h with h|⟨l,hl,rfl⟩
  ·exact ((R.aW j hj).side x hx).lt h
  ·exact (((R.aW j hj).side x hx).bg hl).lt
 have wR:∀s,s<2->∀x,dC (V.B i) s x->nM V i x:=fun s hs x hx j hj hne t ht h=>R.lZ i j hi hj (fun e=>hne e.symm) s t hs ht x hx h
 have kQ:∀j,j<V.nb->j≠i->bU w' (V.bk j) (V.B j) dG:=fun j hj hne=>by
  have h6:bU w' (V.bk j) (V.B j) V.om:=(R.aW j hj).aC k (by
   intro x hxx hSF
   have hx:S x:=hSF.resolve_right (fun hF=>by
    obtain⟨c,t',hc,ht'⟩:=R.aO.aO.fZ hF
    rcases hxx with rfl|⟨y,hy,h⟩
    ·exact az.ne (R.aW j hj).aB hc (by rcases ht' with rfl|rfl|rfl|rfl|rfl|rfl <;> decide) rfl
    ·rcases h with h|⟨l,hl,h⟩
     ·exact ((R.aW j hj).side y hy).ne hc (by rcases ht' with rfl|rfl|rfl|rfl|rfl|rfl <;> decide) h
     ·subst h;exact az.ne hc (((R.aW j hj).side y hy).bg hl) (by rcases ht' with rfl|rfl|rfl|rfl|rfl|rfl <;> decide) rfl)
   clear hSF
   rcases hxx with rfl|⟨y,hy,h⟩
   ·rcases hS _ hx with h|⟨s,hs,h⟩|⟨⟨id,h⟩,_⟩
    ·exact R.qL j i hj hi hne h
    ·rcases h with h|⟨l,hl,h⟩
     ·exact ((R.aW i hi).side s hs).ne (R.aW j hj).aB (by decide) h
     ·exact az.ne (R.aW j hj).aB (((R.aW i hi).side s hs).bg hl) (by decide) h
    ·obtain⟨_,ix,ho⟩:=R.bg id _ h
     exact az.ne (R.aW j hj).aB ho (by decide) rfl
   ·rcases hS _ hx with e|⟨s,hs,e⟩|⟨_,e⟩
    ·rw[e]at h
     rcases h with h|⟨l,hl,h⟩
     ·exact ((R.aW j hj).side y hy).ne (R.aW i hi).aB (by decide) h
     ·exact az.ne (R.aW i hi).aB (((R.aW j hj).side y hy).bg hl) (by decide) h
    ·exact wR s hs x e j hj hne y hy h
    ·exact e j hj hne y hy h)
  exact⟨h6.aB,fun y hy=>(h6.side y hy).om (fun l hl=>jk j hj hne y hy l hl),h6.apart,h6.uF⟩
 refine⟨hl,⟨fB,mB.aC k nB,?_,?_⟩,⟨fO,mO.aC k nO,tZ⟩,R.E5,?_,?_,?_,R.qL,?_,R.gp⟩
 ·intro j hj
  by_cases e:j=i
  ·subst e;simp only[aQ.turn,aj,dM];exact oK j hj
  ·simp only[aQ.turn,ah _ _ e];exact oK j hj
 ·intro s' b' h
  obtain⟨j,hj,e1,e2⟩:=sF s' b' h
  refine⟨j,hj,e1,?_⟩
  by_cases e:j=i
  ·subst e;simp only[aQ.turn,aj,dM];exact e2
  ·simp only[aQ.turn,ah _ _ e];exact e2
 ·intro j hj
  by_cases e:j=i
  ·subst e;simp only[aQ.turn,aj];exact hm.aW
  ·simp only[aQ.turn,ah _ _ e];exact kQ j hj e
 ·intro id x hx
  simp only[aQ.turn]at hx ⊢
  rw[hid]
  exact⟨(R.bg id x hx).1,hm.bg x ⟨id,hx⟩⟩
 ·intro j hj x hx l hl
  simp only[aQ.turn]at hj hl ⊢
  by_cases e:j=i
  ·subst e
   simp only[aj]at hl ⊢
   exact hm.mem x hx l hl
  ·simp only[ah _ _ e]at hl ⊢
   exact R.mem j hj x hx l hl
 ·intro p q hp hq hne x y hx hy z h1 h2
  have half:∀q,q<V.nb->q≠i->∀x y,x<2->y<2->∀z,dC B' x z->dC (V.B q) y z->False:=by
   intro q hq hne x y hx hy z h1 h2
   rcases hsd x hx z h1 with h|h
   ·exact h q hq hne y hy h2
   ·have:=G8 q hq y hy z h2;omega
  simp only[aQ.turn]at h1 h2
  by_cases e:p=i
  ·rw[e,aj]at h1
   rw[ah _ _ (show q≠i by omega)]at h2
   exact half q hq (by omega) x y hx hy z h1 h2
  ·rw[ah _ _ e]at h1
   by_cases e2:q=i
   ·rw[e2,aj]at h2
    exact half p hp e y x hy hx z h2 h1
   ·rw[ah _ _ e2]at h2
    exact R.lZ p q hp hq hne x y hx hy z h1 h2
theorem oZ.at{w:World}{G:Lg}{m:Lm}(h:YX w G m){k:Nat}{x:Tg}(hx:G.tr[k]?=some x) :
 ∃g cap b,m.tv=.slice (some ⟨g,0,none⟩) G.tr.length cap/\w.cell? ⟨g,k,none⟩=some (.pointer (some ⟨b,0,none⟩))/\m.tb[k]?=some b/\az w b x.cells 105:=by
 have hk:k<G.tr.length:=(List.getElem?_eq_some_iff.1 hx).1
 have hb:k<m.tb.length:=by rw[h.len];exact hk
 rcases h.jq.2 with⟨_,h0⟩|⟨g,cap,cs,hv,_,hg,h1,h2,h3,h4⟩
 ·omega
 ·refine⟨g,cap,m.tb[k],hv,?_,List.getElem?_eq_getElem hb,h.aB k _ x (List.getElem?_eq_getElem hb) hx⟩
  have hc:az w g cs 103:=hg
  rw[hc.cell]
  have e:cs.toList[k]?=(m.tb.map dn)[k]?:=by rw[<-h4,List.getElem?_take,if_pos (by omega)]
  rw[<-Array.getElem?_toList,e,List.getElem?_map,List.getElem?_eq_getElem hb]
  rfl
theorem Bi(bv bm bo:Nat)(G:Lg)(lm:Lm)(N:Int)(w:World)(hL:bu w bv bm bo G lm)(h:N<1\/(G.tr.length:Int)<N) :
 Calls Tryz.prog 71 #[.pointer (some ⟨bv,0,none⟩),.int .i64 N] w fun e w'=>e=.returned (.tuple #[.pointer none,.int .i64 6])/\au aP w w':=by
 obtain⟨n,hn⟩:∃n,G.tr.length=n:=⟨_,rfl⟩
 rw[hn]at h
 obtain⟨pa,pc,xY⟩:=hL.aO.xJ hn
 have v2:w.cell? ⟨bv,2,none⟩=some (.slice pa n pc):=by rw[<-xY];exact hL.dA.cell 2
 clear hL xY hn
 by_cases h1:N<1
 ·have e1:decide (N<1)=true:=by simp[h1]
  clear h h1
  go_enter Tryz.func71,Tryz.ntmps71
  go_wp2
  go_ret2
  exact⟨rfl,by repeat (first|exact au.refl _ _|refine au.drewN ?_ _|refine au.drew ?_)⟩
 ·have e1:decide (N<1)=false:=by simp[h1]
  have e2:decide ((n:Int)<N)=true:=by simp;omega
  clear h h1
  go_enter Tryz.func71,Tryz.ntmps71
  go_wp2
  go_ret2
  exact⟨rfl,by repeat (first|exact au.refl _ _|refine au.drewN ?_ _|refine au.drew ?_)⟩
def pO(x:Tg)(day:Int):Int:=if x.holds=false then 10 else if x.t.day≠day then 11 else 0
theorem wE(bv bm bo k b:Nat)(G:Lg)(lm:Lm)(N:Int)(x:Tg)(w:World)(hL:bu w bv bm bo G lm)(hN:N-1=(k:Int))(hx:G.tr[k]?=some x)(hb:lm.tb[k]?=some b)(hlen:G.tr.length<=1000000000) :
 Calls Tryz.prog 71 #[.pointer (some ⟨bv,0,none⟩),.int .i64 N] w fun e w'=>e=.returned (.tuple #[if pO x G.day=0 then .pointer (some ⟨b,0,none⟩) else .pointer none,.int .i64 (pO x G.day)])/\au aP w w':=by
 obtain⟨g,pc,b',xY,hc,hb',hblk⟩:=hL.aO.at hx
 obtain rfl:b'=b:=by rw[hb]at hb';exact (Option.some.inj hb').symm
 have hk:k<G.tr.length:=(List.getElem?_eq_some_iff.1 hx).1
 have v2:w.cell? ⟨bv,2,none⟩=some (.slice (some ⟨g,0,none⟩) G.tr.length pc):=by rw[<-xY];exact hL.dA.cell 2
 have v4:w.cell? ⟨bv,4,none⟩=some (.int .i64 G.day):=hL.dA.cell 4
 have t6:w.cell? ⟨b',6,none⟩=some (.int .i64 x.t.day):=hblk.cell 6
 have t7:w.cell? ⟨b',7,none⟩=some (.bool x.holds):=hblk.cell 7
 generalize G.tr.length=n at *
 have e1:decide (N<1)=false:=by simp;omega
 have e2:decide ((n:Int)<N)=false:=by simp;omega
 have hN0:0<=N-1:=by omega
 have hN1:N-1<(n:Int):=by omega
 have hw:wrap64 (N-1)=(k:Int):=by rw[hN];exact aS (by omega) (by omega)
 clear hL xY hblk hb hb' hx
 obtain⟨xt,xh⟩:=x
 simp only at t6 t7
 cases xh with
 | false =>
   have HP:Hid (pO ⟨xt,false⟩ G.day=10):=by show _=_;simp[pO]
   rw[ae HP]
   go_enter Tryz.func71,Tryz.ntmps71
   go_wp2
   go_ret2
   exact⟨rfl,by repeat (first|exact au.refl _ _|refine au.drewN ?_ _|refine au.drew ?_)⟩
 | true =>
   by_cases hd:xt.day=G.day
   ·have ed:(xt.day != G.day)=false:=by simp[hd]
    have HP:Hid (pO ⟨xt,true⟩ G.day=0):=by show _=_;simp[pO,hd]
    rw[ae HP]
    clear hd
    go_enter Tryz.func71,Tryz.ntmps71
    go_wp2
    go_quiet (fail)
    go_wp2
    go_ret2
    exact⟨rfl,by repeat (first|exact au.refl _ _|refine au.drewN ?_ _|refine au.drew ?_)⟩
   ·have ed:(xt.day != G.day)=true:=by simp[hd]
    have HP:Hid (pO ⟨xt,true⟩ G.day=11):=by show _=_;simp[pO,hd]
    rw[ae HP]
    clear hd
    go_enter Tryz.func71,Tryz.ntmps71
    go_wp2
    go_quiet (fail)
    go_wp2
    go_ret2
    exact⟨rfl,by repeat (first|exact au.refl _ _|refine au.drewN ?_ _|refine au.drew ?_)⟩
open Go.RowKit
end Go.Proofs.YtigaphnafnpfnaaGreatDoor
