import Derived.Test.YtigaphnafnpfnaaGreatDoorQVE13
set_option linter.unusedVariables false
set_option linter.unusedSimpArgs false
set_option maxHeartbeats 8000000
set_option maxRecDepth 100000
namespace Go.Proofs.YtigaphnafnpfnaaGreatDoor
open Go.RowKit Go.Maps
attribute [local go_sem ↓] Go.wp_at_zero Go.wp_at_succ
theorem aas(tmps:Array Value)(H:Nat)(w:World)(a b c d e E:Int)(ht:tmps.getD 4 undef=.pointer (some ⟨H,0,none⟩))(hu:tmps.getD 5 undef=.int .i64 E)(hb:az w H #[.int .i64 a,.int .i64 b,.int .i64 c,.int .i64 d,.int .i64 e] 87) :
 (results Tryz.f64 tmps).run Tryz.prog w=.ok (.tuple #[.agg #[.int .i64 a,.int .i64 b,.int .i64 c,.int .i64 d,.int .i64 e],.int .i64 E]) w:=by
 have c0:w.cell? ⟨H,0,none⟩=some (.int .i64 a):=hb.cell 0
 have c1:w.cell? ⟨H,1,none⟩=some (.int .i64 b):=hb.cell 1
 have c2:w.cell? ⟨H,2,none⟩=some (.int .i64 c):=hb.cell 2
 have c3:w.cell? ⟨H,3,none⟩=some (.int .i64 d):=hb.cell 3
 have c4:w.cell? ⟨H,4,none⟩=some (.int .i64 e):=hb.cell 4
 simp only[Array.getD_eq_getD_getElem?]at ht hu
 simp[results,Tryz.results64,go_sem,ht,hu,c0,c1,c2,c3,c4]
theorem MK(bv:Nat)(o:iL)(E:Int)(w:World)(hE:E≠0)(hrf:∀W,au aP w W->Calls Tryz.prog 111 #[.pointer (some ⟨bv,0,none⟩),o.val] W fun e w'=>e=.returned (.int .i64 E)/\au aP W w') :
 Calls Tryz.prog 64 #[.pointer (some ⟨bv,0,none⟩),o.val] w fun e w'=>e=.returned (.tuple #[.agg #[.int .i64 0,.int .i64 0,.int .i64 0,.int .i64 0,.int .i64 0],.int .i64 E])/\au aP w w':=by
 have e0:(E != 0)=true:=by simp[hE]
 obtain⟨w1,hw1⟩:∃w1,w1=((w.alloc (.cells #[.pointer (some ⟨bv,0,none⟩)] 35)).alloc (.cells (BH o) 52)).alloc (.cells kP 87):=⟨_,rfl⟩
 have k1:au aP w w1:=by rw[hw1];exact (((au.refl aP w).alloc _).alloc _).alloc _
 have hr1:az w1 (w.heap.size+2) kP 87:=by rw[hw1];exact az.QC w _ _ _ _
 have HX:=ai (hrf w1 k1)
 have ls2:w.heap.size<w.heap.size+1+1:=by omega
 have HW1:Hid (w1=((w.alloc (.cells #[.pointer (some ⟨bv,0,none⟩)] 35)).alloc (.cells #[.int .i64 o.id,.int .i64 o.aA,.string o.sym,.int .i64 o.side,.int .i64 o.kind,.int .i64 o.af,.int .i64 o.aI] 52)).alloc (.cells #[.int .i64 0,.int .i64 0,.int .i64 0,.int .i64 0,.int .i64 0] 87)):=hw1
 clear hrf hw1 hE
 simp only[iL.val]
 go_enter Tryz.func64,Tryz.ntmps64
 go_wp2_with fail
 rw[<-ae HW1]
 refine (ae HX).mono ?_
 rintro e w2 ⟨rfl,k2⟩
 have hr2:=k2.aB hr1 (fun x=>x)
 have r0:w2.cell? ⟨w.heap.size+2,0,none⟩=some (.int .i64 0):=hr2.cell 0
 have r1:w2.cell? ⟨w.heap.size+2,1,none⟩=some (.int .i64 0):=hr2.cell 1
 have r2:w2.cell? ⟨w.heap.size+2,2,none⟩=some (.int .i64 0):=hr2.cell 2
 have r3:w2.cell? ⟨w.heap.size+2,3,none⟩=some (.int .i64 0):=hr2.cell 3
 have r4:w2.cell? ⟨w.heap.size+2,4,none⟩=some (.int .i64 0):=hr2.cell 4
 have q0:=hr2.frozen 0
 have q1:=hr2.frozen 1
 have q2:=hr2.frozen 2
 have q3:=hr2.frozen 3
 have q4:=hr2.frozen 4
 have sz:=k1.size
 go_wp2
 refine bodyPost_ret (aas _ (w.heap.size+2) _ 0 0 0 0 0 E rfl rfl ?_) rfl ⟨rfl,?_⟩
 ·exact ((((hr2.set 0 _).set 1 _).set 2 _).set 3 _).set 4 _
 ·exact (((((k1.trans k2).setCell (p:=⟨w.heap.size+2,0,none⟩) (.inr (by simp)) _).setCell (p:=⟨w.heap.size+2,1,none⟩) (.inr (by simp)) _).setCell (p:=⟨w.heap.size+2,2,none⟩) (.inr (by simp)) _).setCell (p:=⟨w.heap.size+2,3,none⟩) (.inr (by simp)) _).setCell (p:=⟨w.heap.size+2,4,none⟩) (.inr (by simp)) _
open Go.RowKit
end Go.Proofs.YtigaphnafnpfnaaGreatDoor
