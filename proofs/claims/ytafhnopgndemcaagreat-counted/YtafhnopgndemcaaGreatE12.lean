/- Cancel -/
import Derived.Test.YtafhnopgndemcaaGreatF1
import Derived.Test.YtafhnopgndemcaaGreatE11
set_option linter.unusedVariables false
set_option linter.unusedSimpArgs false
namespace Go.Proofs.YtafhnopgndemcaaGreat
open Go.RowKit Go.Maps
attribute [local go_sem ↓] Go.wp_at_zero Go.wp_at_succ

set_option maxRecDepth 100000 in
set_option maxHeartbeats 4000000 in
theorem cancel_unknown (bv bm bo : Nat) (V : Ven) (id : Int) (w : World) (R : Rep w bv bm bo V) (hid : (Lit.int .i64 id).wf = true) (hn : V.oid id = none) :
    Calls Tryz.prog 31 #[.pointer (some ⟨bv, 0, none⟩), .int .i64 id] w fun e w' => e = .returned (.int .i64 6) ∧ Chg Non w w' := by
  have L2 := R.lookO hid
  rw [hn] at L2
  simp only [ptrO] at L2
  have v1 : w.cell? ⟨bv, 1, none⟩ = some (.map (some bo)) := R.ven.cell 1
  clear R hn
  go_enter Tryz.func31, Tryz.ntmps31
  go_wp2
  go_ret
  exact ⟨rfl, by repeat (first | exact Chg.refl _ _ | refine Chg.drewN ?_ _ | refine Chg.drew ?_)⟩

set_option maxRecDepth 100000 in
set_option maxHeartbeats 4000000 in
theorem cancel_closed (bv bm bo b : Nat) (V : Ven) (id : Int) (w : World) (R : Rep w bv bm bo V) (hid : (Lit.int .i64 id).wf = true) (hn : V.oid id = some b) (h0 : (V.om b).opn = 0) :
    Calls Tryz.prog 31 #[.pointer (some ⟨bv, 0, none⟩), .int .i64 id] w fun e w' => e = .returned (.int .i64 10) ∧ Chg Non w w' := by
  have L2 := R.lookO hid
  rw [hn] at L2
  simp only [ptrO] at L2
  obtain ⟨_, ix, ho⟩ := R.ords id b hn
  have o8 : w.cell? ⟨b, 8, none⟩ = some (.int .i64 0) := by rw [← h0]; exact ho.cell 8
  have v1 : w.cell? ⟨bv, 1, none⟩ = some (.map (some bo)) := R.ven.cell 1
  clear R hn ho h0
  go_enter Tryz.func31, Tryz.ntmps31
  go_wp2
  go_ret
  exact ⟨rfl, by repeat (first | exact Chg.refl _ _ | refine Chg.drewN ?_ _ | refine Chg.drew ?_)⟩

#print axioms cancel_closed
end Go.Proofs.YtafhnopgndemcaaGreat
