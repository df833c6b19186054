import Derived.Test.YtigaphnafnpfnaaGreatDoorQVJ5
import Derived.Lib.BufferWrite
import Derived.Lib.UnsafeStr
import Derived.Deep.OwnRows
import Derived.Test.YtigaphnafnpfnaaGreatDoorQVX11
import Derived.Test.YtigaphnafnpfnaaGreatDoorQVC1
set_option linter.unusedVariables false
set_option linter.unusedSimpArgs false
set_option maxHeartbeats 8000000
set_option maxRecDepth 100000
namespace Go.Proofs.YtigaphnafnpfnaaGreatDoor
open Go.RowKit Go.Maps Go.Lib
attribute [local go_sem ↓] Go.wp_at_zero Go.wp_at_succ
theorem info5:(Tryz.prog.info? 5).map (fun i=>(i.zero,i.size,i.bytes))=some (some (.int .u8 0),1,1):=by kernel_rfl
theorem cells5:Tryz.prog.cellsOf 5=1:=by kernel_rfl
theorem ai.setRow{w:World}{b:Nat}{c:Array Value}{t:TypeId}(h:ai w b c t)(cs:Array Value):ai (w.setRow b cs) b cs t:=by
 unfold ai at h ⊢;simp[World.setRow,Array.getElem?_modify,h]
theorem ai.shape{w:World}{b:Nat}{c:Array Value}{t:TypeId}(h:ai w b c t):w.shape? b=some (t,c.size):=by
 unfold ai at h
 unfold World.shape?
 rw[h]
theorem EJ(w:World)(a:Addr)(n k:Nat)(h:k≠a.block):(w.freeze a n).heap[k]?=w.heap[k]?:=by
 unfold World.freeze
 split
 ·rfl
 ·simp only[Array.getElem?_modify]
  rw[if_neg (by omega)]
theorem ag.setRow{S:Nat→Prop}{a w:World}(h:ag S a w){b:Nat}(hb:S b∨a.heap.size≤b)(cs:Array Value):ag S a (w.setRow b cs) :=
 ⟨h.os,h.tape,h.output,by have:=h.size;simpa [World.setRow] using this,fun k hk hs=>by
  have hne:k≠b:=by rintro rfl;rcases hb with hb | hb;exact hs hb;omega
  have:(w.setRow b cs).heap[k]?=w.heap[k]?:=by simp only[World.setRow,Array.getElem?_modify];rw[if_neg (by omega)]
  rw[this];exact h.block k hk hs⟩
theorem ag.freeze{S:Nat→Prop}{a w:World}(h:ag S a w){p:Addr}(hp:S p.block∨a.heap.size≤p.block)(n:Nat):ag S a (w.freeze p n):=by
 refine⟨?_,?_,?_,?_,fun k hk hs=>?_⟩
 ·unfold World.freeze;split <;> exact h.os
 ·unfold World.freeze;split <;> exact h.tape
 ·unfold World.freeze;split <;> exact h.output
 ·unfold World.freeze;split
  ·exact h.size
  ·have:=h.size;simpa using this
 ·rw[EJ _ _ _ _ (by rintro rfl;rcases hp with hp | hp;exact hs hp;omega)]
  exact h.block k hk hs
theorem zo(s:ByteArray)(w:World)(hs:s.size≤100000):Calls Tryz.prog 84 #[.string s] w fun e w'=>e=.returned (.string s)∧ag ak w w':=by
 by_cases h0:s.size=0
 ·have e0:((s.size:Int) == 0)=true:=by rw[h0];rfl
  have hse:Hid (s=ByteArray.empty):=by
   show s=_
   exact ByteArray.ext (Array.eq_empty_of_size_eq_zero h0)
  clear h0
  go_enter Tryz.func84,Tryz.ntmps84
  go_wp2
  go_ret
  exact⟨by rw[ae hse];rfl,ag.refl _ _⟩
 ·have e0:((s.size:Int) == 0)=false:=beq_eq_false_iff_ne.2 (by omega)
  have p0:0<s.size:=by omega
  have hmk:=run_make_row' (P:=Tryz.prog) 98 5 (.int .u8 0) 1 Tryz.underlying98 info5 rfl .i64 .i64 s.size (by omega) (by omega)
  have Ue:ai (w.alloc (.cells (madeCells #[.int .u8 0] s.size) 5)) w.heap.size (madeCells #[.int .u8 0] s.size) 5:=ai.new w _ _
  have hcp:=fun ty=>run_copy_row_string (P:=Tryz.prog) (w.alloc (.cells (madeCells #[.int .u8 0] s.size) 5)) 98 9 ty 5 w.heap.size 0 s.size s.size s (madeCells #[.int .u8 0] s.size) 5 Tryz.underlying98 (by kernel_rfl) Ue (Nat.le_refl _) (by rw[size_madeCells];omega)
  have hl:s.data.toList.length=s.size:=by rw[Array.length_toList];rfl
  obtain⟨X,hX⟩:∃X,X=(byteCells s.data.toList++List.drop s.size (madeCells #[.int .u8 0] s.size).toList).toArray:=⟨_,rfl⟩
  have hbB:=Ue.setRow X
  have hXs:X.size=s.size:=by rw[hX];simp[byteCells_length,size_madeCells,hl]
  have hus:=fun ty=>run_unsafeString_row (P:=Tryz.prog) (w:=(w.alloc (.cells (madeCells #[.int .u8 0] s.size) 5)).setRow w.heap.size X) 191 3 ty 5 Tryz.underlying191 cells5 w.heap.size X.size (hbB.shape) s.data.toList (by intro e;rw[e]at hl;simp at hl;omega) (by rw[hl,hXs];omega) (by rw[hl];omega) (by
   intro j x hj
   refine World.news_of_block hbB j _ ?_
   have hj':j<s.data.toList.length:=(List.getElem?_eq_some_iff.1 hj).1
   rw[hX]
   simp only[List.toList_toArray]
   rw[List.getElem?_append_left (by rw[byteCells_length];exact hj')]
   simp only[byteCells,List.getElem?_map,hj,Option.map_some])
  have hfin:(⟨s.data.toList.toArray⟩:ByteArray)=s:=by simp
  rw[hl,hfin,hX]at hus
  clear hbB Ue hXs hX h0 hl hfin
  go_enter Tryz.func84,Tryz.ntmps84
  go_wp2
  go_ret
  exact⟨rfl,(((ag.refl ak w).alloc _).setRow (.inr (Nat.le_refl _)) _).freeze (.inr (Nat.le_refl _)) _⟩
theorem clone_any(s:ByteArray)(w:World)(hs:s.size≤100000):Calls Tryz.prog 49 #[.string s] w fun e w'=>e=.returned (.string s)∧ag ak w w':=by
 go_enter Tryz.func49,Tryz.ntmps49
 go_wp2_with fail
 refine (zo s w hs).mono ?_
 rintro e w' ⟨rfl,k⟩
 go_wp2
 go_ret
 exact⟨rfl,k⟩
def gy:Array Value:=#[.int .i64 0,.int .i64 0,.string ⟨#[]⟩,.int .i64 0,.int .i64 0,.int .i64 0,.int .i64 0,.int .i64 0,.int .i64 0,.int .i64 0,.int .i64 0,.int .i64 0]
theorem Tc(tmps:Array Value)(H:Nat)(w:World)(x:Int)(c0 c1 c3 c4 c5 c6 c7 c8 c9 c10 c11:Int)(c2:ByteArray)(ht:tmps.getD 4 undef=.pointer (some ⟨H,0,none⟩))(hu:tmps.getD 5 undef=.int .i64 x)
 (hb:ai w H #[.int .i64 c0,.int .i64 c1,.string c2,.int .i64 c3,.int .i64 c4,.int .i64 c5,.int .i64 c6,.int .i64 c7,.int .i64 c8,.int .i64 c9,.int .i64 c10,.int .i64 c11] 54) :
 (results Tryz.f26 tmps).run Tryz.prog w=.ok (.tuple #[.agg #[.int .i64 c0,.int .i64 c1,.string c2,.int .i64 c3,.int .i64 c4,.int .i64 c5,.int .i64 c6,.int .i64 c7,.int .i64 c8,.int .i64 c9,.int .i64 c10,.int .i64 c11],.int .i64 x]) w:=by
 have k0:w.cell? ⟨H,0,none⟩=some (.int .i64 c0):=hb.cell 0
 have k1:w.cell? ⟨H,1,none⟩=some (.int .i64 c1):=hb.cell 1
 have k2:w.cell? ⟨H,2,none⟩=some (.string c2):=hb.cell 2
 have k3:w.cell? ⟨H,3,none⟩=some (.int .i64 c3):=hb.cell 3
 have k4:w.cell? ⟨H,4,none⟩=some (.int .i64 c4):=hb.cell 4
 have k5:w.cell? ⟨H,5,none⟩=some (.int .i64 c5):=hb.cell 5
 have k6:w.cell? ⟨H,6,none⟩=some (.int .i64 c6):=hb.cell 6
 have k7:w.cell? ⟨H,7,none⟩=some (.int .i64 c7):=hb.cell 7
 have k8:w.cell? ⟨H,8,none⟩=some (.int .i64 c8):=hb.cell 8
 have k9:w.cell? ⟨H,9,none⟩=some (.int .i64 c9):=hb.cell 9
 have k10:w.cell? ⟨H,10,none⟩=some (.int .i64 c10):=hb.cell 10
 have k11:w.cell? ⟨H,11,none⟩=some (.int .i64 c11):=hb.cell 11
 simp only[Array.getD_eq_getD_getElem?]at ht hu
 simp[results,Tryz.results26,go_sem,ht,hu,k0,k1,k2,k3,k4,k5,k6,k7,k8,k9,k10,k11]
theorem PH{w:World}{H:Nat}(hr:ai w H gy 54)(v0 v1 v2 v3 v4 v5 v6 v7 v8 v9 v10 v11:Value):ai ((((((((((((w.setCell ⟨H,0,none⟩ v0).setCell ⟨H,1,none⟩ v1).setCell ⟨H,2,none⟩ v2).setCell ⟨H,3,none⟩ v3).setCell ⟨H,4,none⟩ v4).setCell ⟨H,5,none⟩ v5).setCell ⟨H,6,none⟩ v6).setCell ⟨H,7,none⟩ v7).setCell ⟨H,8,none⟩ v8).setCell ⟨H,9,none⟩ v9).setCell ⟨H,10,none⟩ v10).setCell ⟨H,11,none⟩ v11) H #[v0,v1,v2,v3,v4,v5,v6,v7,v8,v9,v10,v11] 54:=by
 have h:=((((((((((((hr.set 0 v0).set 1 v1).set 2 v2).set 3 v3).set 4 v4).set 5 v5).set 6 v6).set 7 v7).set 8 v8).set 9 v9).set 10 v10).set 11 v11)
 have e:((((((((((((gy.setIfInBounds 0 v0).setIfInBounds 1 v1).setIfInBounds 2 v2).setIfInBounds 3 v3).setIfInBounds 4 v4).setIfInBounds 5 v5).setIfInBounds 6 v6).setIfInBounds 7 v7).setIfInBounds 8 v8).setIfInBounds 9 v9).setIfInBounds 10 v10).setIfInBounds 11 v11)=#[v0,v1,v2,v3,v4,v5,v6,v7,v8,v9,v10,v11]:=by simp[gy]
 rw[e]at h
 exact h
theorem Gu(bv bm bo:Nat)(V:aW)(id:Int)(w:World)(R:Rep w bv bm bo V)(hwf:(Lit.int .i64 id).wf=true)(hid:V.aO id=none) :
 Calls Tryz.prog 26 #[.pointer (some ⟨bv,0,none⟩),.int .i64 id] w fun e w'=>e=.returned (.tuple #[.agg gy,.int .i64 6])∧ag ak w w':=by
 obtain⟨fO,mO,wB⟩:=R.orders
 have k1:ag ak w (w.alloc (.cells gy 54)):=(ag.refl ak w).alloc _
 have L2:(Instr.lookup 95 (.map (some bo)) (.int .i64 id) false).run Tryz.prog (w.alloc (.cells gy 54))=.ok (.pointer none) (w.alloc (.cells gy 54)):=by
  rw[(mO.kept k1 (fun x=>x)).look law3 Tryz.underlying95 (sH _) (keyOf_int_mk Tryz.underlying3 hwf),wB,hid];rfl
 simp only[gy]at L2
 have v1:w.cell? ⟨bv,1,none⟩=some (.map (some bo)):=R.cZ.cell 1
 have lv:=R.cZ.lt
 clear mO wB R
 go_enter Tryz.func26,Tryz.ntmps26
 go_wp2
 refine bodyPost_ret (Tc _ w.heap.size _ 6 0 0 0 0 0 0 0 0 0 0 0 ⟨#[]⟩ rfl rfl ?_) rfl ⟨rfl,?_⟩
 ·exact ai.new w _ _
 ·exact (ag.refl ak w).alloc _
theorem Gv(bv bm bo b:Nat)(V:aW)(id:Int)(w:World)(R:Rep w bv bm bo V)(hwf:(Lit.int .i64 id).wf=true)(hid:V.aO id=some b)(hsz:(V.om b).sym.size≤100000) :
 Calls Tryz.prog 26 #[.pointer (some ⟨bv,0,none⟩),.int .i64 id] w fun e w'=>e=.returned (.tuple #[.agg (nI (V.om b)),.int .i64 0])∧ag ak w w':=by
 obtain⟨fO,mO,wB⟩:=R.orders
 have k1:ag ak w (w.alloc (.cells gy 54)):=(ag.refl ak w).alloc _
 have L2:(Instr.lookup 95 (.map (some bo)) (.int .i64 id) false).run Tryz.prog (w.alloc (.cells gy 54))=.ok (.pointer (some ⟨b,0,none⟩)) (w.alloc (.cells gy 54)):=by
  rw[(mO.kept k1 (fun x=>x)).look law3 Tryz.underlying95 (sH _) (keyOf_int_mk Tryz.underlying3 hwf),wB,hid];rfl
 simp only[gy]at L2
 have v1:w.cell? ⟨bv,1,none⟩=some (.map (some bo)):=R.cZ.cell 1
 have lv:=R.cZ.lt
 obtain⟨-,ix,ho⟩:=R.aQ id b hid
 have lo:=ho.lt
 generalize V.om b=o at *
 have c0:w.cell? ⟨b,0,none⟩=some (.int .i64 o.id):=ho.cell 0
 have c1:w.cell? ⟨b,1,none⟩=some (.int .i64 o.owner):=ho.cell 1
 have c2:w.cell? ⟨b,2,none⟩=some (.string o.sym):=ho.cell 2
 have c3:w.cell? ⟨b,3,none⟩=some (.int .i64 o.side):=ho.cell 3
 have c4:w.cell? ⟨b,4,none⟩=some (.int .i64 o.kind):=ho.cell 4
 have c5:w.cell? ⟨b,5,none⟩=some (.int .i64 o.price):=ho.cell 5
 have c6:w.cell? ⟨b,6,none⟩=some (.int .i64 o.qty):=ho.cell 6
 have c7:w.cell? ⟨b,7,none⟩=some (.int .i64 o.entered):=ho.cell 7
 have c8:w.cell? ⟨b,8,none⟩=some (.int .i64 o.opn):=ho.cell 8
 have c9:w.cell? ⟨b,9,none⟩=some (.int .i64 o.filled):=ho.cell 9
 have c10:w.cell? ⟨b,10,none⟩=some (.int .i64 o.aG):=ho.cell 10
 have c11:w.cell? ⟨b,11,none⟩=some (.int .i64 o.exp):=ho.cell 11
 obtain⟨w1,hw1⟩:∃w1,w1=(w.alloc (.cells #[.int .i64 0,.int .i64 0,.string ⟨#[]⟩,.int .i64 0,.int .i64 0,.int .i64 0,.int .i64 0,.int .i64 0,.int .i64 0,.int .i64 0,.int .i64 0,.int .i64 0] 54)).alloc (.cells #[.int .i64 o.id,.int .i64 o.owner,.string o.sym,.int .i64 o.side,.int .i64 o.kind,.int .i64 o.price,.int .i64 o.qty,.int .i64 o.entered,.int .i64 o.opn,.int .i64 o.filled,.int .i64 o.aG,.int .i64 o.exp] 54):=⟨_,rfl⟩
 have kw1:ag ak w w1:=by rw[hw1];exact ((ag.refl ak w).alloc _).alloc _
 have hr1:ai w1 w.heap.size gy 54:=by rw[hw1];exact (ai.new w _ _).alloc _
 have hs1:ai w1 (w.heap.size+1) (nI o) 54:=by rw[hw1];exact ai.jR w _ _ _
 have HW1:=hide hw1
 clear mO wB R hw1 hid
 go_enter Tryz.func26,Tryz.ntmps26
 go_wp2_with fail
 rw[←ae HW1]
 refine (clone_any o.sym w1 hsz).mono ?_
 rintro e w2 ⟨rfl,k2⟩
 clear c0 c1 c2 c3 c4 c5 c6 c7 c8 c9 c10 c11 L2 v1
 have hr2:=k2.blk hr1 (fun x=>x)
 have hs2:=k2.blk hs1 (fun x=>x)
 have hne:w.heap.size+1≠w.heap.size:=by omega
 have s0:w2.cell? ⟨w.heap.size+1,0,none⟩=some (.int .i64 o.id):=hs2.cell 0
 have s1:w2.cell? ⟨w.heap.size+1,1,none⟩=some (.int .i64 o.owner):=hs2.cell 1
 have s2:w2.cell? ⟨w.heap.size+1,2,none⟩=some (.string o.sym):=hs2.cell 2
 have s3:w2.cell? ⟨w.heap.size+1,3,none⟩=some (.int .i64 o.side):=hs2.cell 3
 have s4:w2.cell? ⟨w.heap.size+1,4,none⟩=some (.int .i64 o.kind):=hs2.cell 4
 have s5:w2.cell? ⟨w.heap.size+1,5,none⟩=some (.int .i64 o.price):=hs2.cell 5
 have s6:w2.cell? ⟨w.heap.size+1,6,none⟩=some (.int .i64 o.qty):=hs2.cell 6
 have s7:w2.cell? ⟨w.heap.size+1,7,none⟩=some (.int .i64 o.entered):=hs2.cell 7
 have s8:w2.cell? ⟨w.heap.size+1,8,none⟩=some (.int .i64 o.opn):=hs2.cell 8
 have s9:w2.cell? ⟨w.heap.size+1,9,none⟩=some (.int .i64 o.filled):=hs2.cell 9
 have s10:w2.cell? ⟨w.heap.size+1,10,none⟩=some (.int .i64 o.aG):=hs2.cell 10
 have s11:w2.cell? ⟨w.heap.size+1,11,none⟩=some (.int .i64 o.exp):=hs2.cell 11
 have t2:=hs2.frozen 2
 have r0:w2.cell? ⟨w.heap.size,0,none⟩=some (.int .i64 0):=hr2.cell 0
 have r1:w2.cell? ⟨w.heap.size,1,none⟩=some (.int .i64 0):=hr2.cell 1
 have r2:w2.cell? ⟨w.heap.size,2,none⟩=some (.string ⟨#[]⟩):=hr2.cell 2
 have r3:w2.cell? ⟨w.heap.size,3,none⟩=some (.int .i64 0):=hr2.cell 3
 have r4:w2.cell? ⟨w.heap.size,4,none⟩=some (.int .i64 0):=hr2.cell 4
 have r5:w2.cell? ⟨w.heap.size,5,none⟩=some (.int .i64 0):=hr2.cell 5
 have r6:w2.cell? ⟨w.heap.size,6,none⟩=some (.int .i64 0):=hr2.cell 6
 have r7:w2.cell? ⟨w.heap.size,7,none⟩=some (.int .i64 0):=hr2.cell 7
 have r8:w2.cell? ⟨w.heap.size,8,none⟩=some (.int .i64 0):=hr2.cell 8
 have r9:w2.cell? ⟨w.heap.size,9,none⟩=some (.int .i64 0):=hr2.cell 9
 have r10:w2.cell? ⟨w.heap.size,10,none⟩=some (.int .i64 0):=hr2.cell 10
 have r11:w2.cell? ⟨w.heap.size,11,none⟩=some (.int .i64 0):=hr2.cell 11
 have q0:=hr2.frozen 0
 have q1:=hr2.frozen 1
 have q2:=hr2.frozen 2
 have q3:=hr2.frozen 3
 have q4:=hr2.frozen 4
 have q5:=hr2.frozen 5
 have q6:=hr2.frozen 6
 have q7:=hr2.frozen 7
 have q8:=hr2.frozen 8
 have q9:=hr2.frozen 9
 have q10:=hr2.frozen 10
 have q11:=hr2.frozen 11
 go_wp2
 refine bodyPost_ret (Tc _ w.heap.size _ 0 o.id o.owner o.side o.kind o.price o.qty o.entered o.opn o.filled o.aG o.exp o.sym rfl rfl ?_) rfl ⟨rfl,?_⟩
 ·exact PH (hr2.other (a:=⟨w.heap.size+1,2,none⟩) (fun e=>hne e.symm) _) _ _ _ _ _ _ _ _ _ _ _ _
 ·have kk:ag ak w w2:=kw1.trans k2
  exact ((((((((((((((kk).setCell (p:=⟨w.heap.size+1,2,none⟩) (.inr (Nat.le_succ _)) _).setCell (p:=⟨w.heap.size,0,none⟩) (.inr (Nat.le_refl _)) _).setCell (p:=⟨w.heap.size,1,none⟩) (.inr (Nat.le_refl _)) _).setCell (p:=⟨w.heap.size,2,none⟩) (.inr (Nat.le_refl _)) _).setCell (p:=⟨w.heap.size,3,none⟩) (.inr (Nat.le_refl _)) _).setCell (p:=⟨w.heap.size,4,none⟩) (.inr (Nat.le_refl _)) _).setCell (p:=⟨w.heap.size,5,none⟩) (.inr (Nat.le_refl _)) _).setCell (p:=⟨w.heap.size,6,none⟩) (.inr (Nat.le_refl _)) _).setCell (p:=⟨w.heap.size,7,none⟩) (.inr (Nat.le_refl _)) _).setCell (p:=⟨w.heap.size,8,none⟩) (.inr (Nat.le_refl _)) _).setCell (p:=⟨w.heap.size,9,none⟩) (.inr (Nat.le_refl _)) _).setCell (p:=⟨w.heap.size,10,none⟩) (.inr (Nat.le_refl _)) _).setCell (p:=⟨w.heap.size,11,none⟩) (.inr (Nat.le_refl _)) _)
open Go.RowKit
theorem zI(base rb:Nat)(A:List aP)(R:List Rc)(L:ByteArray)(av rv:Value)(S:RS)(sym:ByteArray)(s:Int)(w:World)(h:RV w base rb A R L av rv)(hh:Hist A S)(hn:A.length≤1000000000)(hsy:S.sy.length≤1000)(hth:iC S.sy sym=false) :
 Calls Tryz.prog 102 #[.pointer (some ⟨rb,0,none⟩),.string sym,.int .i64 s] w fun e w'=>e=.returned (.tuple #[.slice none 0 0,.int .i64 6])∧ag ak w w':=by
 have HST:=hide (gX base rb A R L av rv S w h hh hn)
 have wR:Hid (∀W m,bH W w.heap.size w.heap.size S m→Calls Tryz.prog 142 #[.pointer (some ⟨w.heap.size,0,none⟩),.string sym] W fun e w'=>e=.returned (.bool false)∧w'=W):=fun W m hW=>by
  have:=iM _ _ S m sym W hW hsy
  rw[hth]at this
  exact this
 clear h hh hn hsy hth
 go_enter Tryz.func102,Tryz.ntmps102
 go_wp2_with fail
 refine (ae HST).mono ?_
 rintro e w2 ⟨rfl,⟨m,st⟩,k2⟩
 have HC:=hide (ae wR w2 m st)
 have jC:=hide k2
 clear st k2 HST wR
 go_wp2_with fail
 refine (ae HC).mono ?_
 rintro e w3 ⟨rfl,hw3⟩
 rw[hw3]
 clear hw3 w3 HC
 go_wp2
 go_ret2
 exact⟨rfl,ae jC⟩
theorem FZ(base rb:Nat)(A:List aP)(R:List Rc)(L:ByteArray)(av rv:Value)(S:RS)(sym:ByteArray)(s:Int)(w:World)(h:RV w base rb A R L av rv)(hh:Hist A S)(hn:A.length≤1000000000)(hsy:S.sy.length≤1000)(hth:iC S.sy sym=true)(hs:gZ s=false) :
 Calls Tryz.prog 102 #[.pointer (some ⟨rb,0,none⟩),.string sym,.int .i64 s] w fun e w'=>e=.returned (.tuple #[.slice none 0 0,.int .i64 4])∧ag ak w w':=by
 have HST:=hide (gX base rb A R L av rv S w h hh hn)
 have wR:Hid (∀W m,bH W w.heap.size w.heap.size S m→Calls Tryz.prog 142 #[.pointer (some ⟨w.heap.size,0,none⟩),.string sym] W fun e w'=>e=.returned (.bool true)∧w'=W):=fun W m hW=>by
  have:=iM _ _ S m sym W hW hsy
  rw[hth]at this
  exact this
 unfold gZ at hs
 simp only[Bool.or_eq_false_iff]at hs
 obtain⟨e0,e1⟩:=hs
 have n0:(s != 0)=true:=by simp[bne,e0]
 have n1:(s != 1)=true:=by simp[bne,e1]
 clear e0 e1
 clear h hh hn hsy hth
 go_enter Tryz.func102,Tryz.ntmps102
 go_wp2_with fail
 refine (ae HST).mono ?_
 rintro e w2 ⟨rfl,⟨m,st⟩,k2⟩
 have HC:=hide (ae wR w2 m st)
 have jC:=hide k2
 clear st k2 HST wR
 go_wp2_with fail
 refine (ae HC).mono ?_
 rintro e w3 ⟨rfl,hw3⟩
 rw[hw3]
 clear hw3 w3 HC
 go_wp2
 go_ret2
 exact⟨rfl,ae jC⟩
theorem wI(s:ByteArray)(id owner:Int)(sym:ByteArray)(side ax price qty a b c:Int)(w:World)(JC:mG a)  :
 Calls Tryz.prog 139 #[.agg #[.int .u8 98,.string s,.int .i64 id,.int .i64 owner,.string sym,.int .i64 side,.int .i64 ax,.int .i64 price,.int .i64 qty,.int .i64 a,.int .i64 b,.int .i64 c,.bool true]] w fun e w'=>e=.returned (.string (((⟨#[98,117,115,116,32]⟩:ByteArray)++(iG a))++(⟨#[32,49]⟩:ByteArray)))∧ag ak w w':=by
 obtain⟨w1,hw1⟩:∃w1,w1=w.alloc (.cells #[.int .u8 98,.string s,.int .i64 id,.int .i64 owner,.string sym,.int .i64 side,.int .i64 ax,.int .i64 price,.int .i64 qty,.int .i64 a,.int .i64 b,.int .i64 c,.bool true] 169):=⟨_,rfl⟩
 have k0:ag ak w w1:=by rw[hw1];exact (ag.refl ak w).alloc _
 have b0:ai w1 w.heap.size #[.int .u8 98,.string s,.int .i64 id,.int .i64 owner,.string sym,.int .i64 side,.int .i64 ax,.int .i64 price,.int .i64 qty,.int .i64 a,.int .i64 b,.int .i64 c,.bool true] 169:=by rw[hw1];exact ai.new _ _ _
 have Zx:=bM a JC
 have HT:Hid (∀n,mG n→∀W,ag ak w1 W→Calls Tryz.prog 173 #[.int .i64 n] W fun e w'=>e=.returned (.string (iG n))∧ag ak w1 w'):=fun n h=>lU n h w1
 have c0:=dV (P:=Tryz.prog) (⟨#[98,117,115,116,32]⟩:ByteArray) (iG a) (by (repeat rw[ByteArray.size_append]);show 5+(iG a).size≤1000000;omega)
 have c1:=dV (P:=Tryz.prog) ((⟨#[98,117,115,116,32]⟩:ByteArray)++(iG a)) (⟨#[32,49]⟩:ByteArray) (by (repeat rw[ByteArray.size_append]);show (5+(iG a).size)+2≤1000000;omega)
 obtain⟨H,hH⟩:∃H,w.heap.size=H:=⟨_,rfl⟩
 rw[hH]at b0
 have x0:w1.cell? ⟨H,0,none⟩=some (.int .u8 98):=b0.cell 0
 have x9:w1.cell? ⟨H,9,none⟩=some (.int .i64 a):=b0.cell 9
 have x12:w1.cell? ⟨H,12,none⟩=some (.bool true):=b0.cell 12
 have lH:H<w1.heap.size:=b0.lt
 have uh:=hide k0
 have HW1:=hide hw1
 have hK:Hid (ag ak w1 w1):=ag.refl _ _
 clear k0 hw1 b0
 go_enter Tryz.func139,Tryz.ntmps139
 go_wp2_with (go_at_call 173;(try rw[←ae HW1]);refine (ae HT _ JC _ (ae hK)).mono ?_;rintro e w3 ⟨rfl,hk⟩;have lV:=hide hk;clear hk)
 go_ret
 exact⟨rfl,(ae uh).trans (ae lV)⟩
theorem uQ(s:ByteArray)(id owner:Int)(sym:ByteArray)(side ax price qty a b c:Int)(w:World)(JC:mG a)  :
 Calls Tryz.prog 139 #[.agg #[.int .u8 98,.string s,.int .i64 id,.int .i64 owner,.string sym,.int .i64 side,.int .i64 ax,.int .i64 price,.int .i64 qty,.int .i64 a,.int .i64 b,.int .i64 c,.bool false]] w fun e w'=>e=.returned (.string (((⟨#[98,117,115,116,32]⟩:ByteArray)++(iG a))++(⟨#[32,48]⟩:ByteArray)))∧ag ak w w':=by
 obtain⟨w1,hw1⟩:∃w1,w1=w.alloc (.cells #[.int .u8 98,.string s,.int .i64 id,.int .i64 owner,.string sym,.int .i64 side,.int .i64 ax,.int .i64 price,.int .i64 qty,.int .i64 a,.int .i64 b,.int .i64 c,.bool false] 169):=⟨_,rfl⟩
 have k0:ag ak w w1:=by rw[hw1];exact (ag.refl ak w).alloc _
 have b0:ai w1 w.heap.size #[.int .u8 98,.string s,.int .i64 id,.int .i64 owner,.string sym,.int .i64 side,.int .i64 ax,.int .i64 price,.int .i64 qty,.int .i64 a,.int .i64 b,.int .i64 c,.bool false] 169:=by rw[hw1];exact ai.new _ _ _
 have Zx:=bM a JC
 have HT:Hid (∀n,mG n→∀W,ag ak w1 W→Calls Tryz.prog 173 #[.int .i64 n] W fun e w'=>e=.returned (.string (iG n))∧ag ak w1 w'):=fun n h=>lU n h w1
 have c0:=dV (P:=Tryz.prog) (⟨#[98,117,115,116,32]⟩:ByteArray) (iG a) (by (repeat rw[ByteArray.size_append]);show 5+(iG a).size≤1000000;omega)
 have c1:=dV (P:=Tryz.prog) ((⟨#[98,117,115,116,32]⟩:ByteArray)++(iG a)) (⟨#[32,48]⟩:ByteArray) (by (repeat rw[ByteArray.size_append]);show (5+(iG a).size)+2≤1000000;omega)
 obtain⟨H,hH⟩:∃H,w.heap.size=H:=⟨_,rfl⟩
 rw[hH]at b0
 have x0:w1.cell? ⟨H,0,none⟩=some (.int .u8 98):=b0.cell 0
 have x9:w1.cell? ⟨H,9,none⟩=some (.int .i64 a):=b0.cell 9
 have x12:w1.cell? ⟨H,12,none⟩=some (.bool false):=b0.cell 12
 have lH:H<w1.heap.size:=b0.lt
 have uh:=hide k0
 have HW1:=hide hw1
 have hK:Hid (ag ak w1 w1):=ag.refl _ _
 clear k0 hw1 b0
 go_enter Tryz.func139,Tryz.ntmps139
 go_wp2_with (go_at_call 173;(try rw[←ae HW1]);refine (ae HT _ JC _ (ae hK)).mono ?_;rintro e w3 ⟨rfl,hk⟩;have lV:=hide hk;clear hk)
 go_ret
 exact⟨rfl,(ae uh).trans (ae lV)⟩
theorem zL(s:ByteArray)(id owner:Int)(sym:ByteArray)(side ax price qty a b c:Int)(again:Bool)(w:World)(JC:mG a)(Xd:mG b)  :
 Calls Tryz.prog 139 #[.agg #[.int .u8 107,.string s,.int .i64 id,.int .i64 owner,.string sym,.int .i64 side,.int .i64 ax,.int .i64 price,.int .i64 qty,.int .i64 a,.int .i64 b,.int .i64 c,.bool again]] w fun e w'=>e=.returned (.string ((((⟨#[99,111,114,114,101,99,116,32]⟩:ByteArray)++(iG a))++(⟨#[32]⟩:ByteArray))++(iG b)))∧ag ak w w':=by
 obtain⟨w1,hw1⟩:∃w1,w1=w.alloc (.cells #[.int .u8 107,.string s,.int .i64 id,.int .i64 owner,.string sym,.int .i64 side,.int .i64 ax,.int .i64 price,.int .i64 qty,.int .i64 a,.int .i64 b,.int .i64 c,.bool again] 169):=⟨_,rfl⟩
 have k0:ag ak w w1:=by rw[hw1];exact (ag.refl ak w).alloc _
 have b0:ai w1 w.heap.size #[.int .u8 107,.string s,.int .i64 id,.int .i64 owner,.string sym,.int .i64 side,.int .i64 ax,.int .i64 price,.int .i64 qty,.int .i64 a,.int .i64 b,.int .i64 c,.bool again] 169:=by rw[hw1];exact ai.new _ _ _
 have Zx:=bM a JC
 have z_b:=bM b Xd
 have HT:Hid (∀n,mG n→∀W,ag ak w1 W→Calls Tryz.prog 173 #[.int .i64 n] W fun e w'=>e=.returned (.string (iG n))∧ag ak w1 w'):=fun n h=>lU n h w1
 have c0:=dV (P:=Tryz.prog) (⟨#[99,111,114,114,101,99,116,32]⟩:ByteArray) (iG a) (by (repeat rw[ByteArray.size_append]);show 8+(iG a).size≤1000000;omega)
 have c1:=dV (P:=Tryz.prog) ((⟨#[99,111,114,114,101,99,116,32]⟩:ByteArray)++(iG a)) (⟨#[32]⟩:ByteArray) (by (repeat rw[ByteArray.size_append]);show (8+(iG a).size)+1≤1000000;omega)
 have c2:=dV (P:=Tryz.prog) (((⟨#[99,111,114,114,101,99,116,32]⟩:ByteArray)++(iG a))++(⟨#[32]⟩:ByteArray)) (iG b) (by (repeat rw[ByteArray.size_append]);show ((8+(iG a).size)+1)+(iG b).size≤1000000;omega)
 obtain⟨H,hH⟩:∃H,w.heap.size=H:=⟨_,rfl⟩
 rw[hH]at b0
 have x0:w1.cell? ⟨H,0,none⟩=some (.int .u8 107):=b0.cell 0
 have x9:w1.cell? ⟨H,9,none⟩=some (.int .i64 a):=b0.cell 9
 have x10:w1.cell? ⟨H,10,none⟩=some (.int .i64 b):=b0.cell 10
 have lH:H<w1.heap.size:=b0.lt
 have uh:=hide k0
 have HW1:=hide hw1
 have hK:Hid (ag ak w1 w1):=ag.refl _ _
 clear k0 hw1 b0
 go_enter Tryz.func139,Tryz.ntmps139
 go_wp2
 rw[←ae HW1]
 go_region_held3 (fun w'=>w'.cell? ⟨H,9,none⟩=some (.int .i64 a)∧w'.cell? ⟨H,10,none⟩=some (.int .i64 b)) (go_keep)
  (first
    | (go_at_call 173;refine (ae HT _ ?b _ ?cc).mono ?_;(case b=>first | exact JC | exact Xd);(case cc=>repeat (first | exact ae P6 | exact ag.refl _ _ | refine ag.drew ?_ | refine ag.alloc ?_ _));rintro e w3 ⟨rfl,hk⟩;have y9:=hk.cell (p:=⟨H,9,none⟩) x9 (fun x=>x);have VG:=hk.cell (p:=⟨H,10,none⟩) x10 (fun x=>x);have P6:=hide hk;clear hk))
 all_goals
  go_wp2
  go_ret
  exact⟨rfl,(ae uh).trans (by repeat (first | exact ae P6 | refine ag.drew ?_ | refine ag.drewN ?_ _))⟩
end Go.Proofs.YtigaphnafnpfnaaGreatDoor
