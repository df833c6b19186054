/- Book -/
import Derived.Test.YtafhnopgndemcaaGreatE12
set_option linter.unusedVariables false
set_option linter.unusedSimpArgs false
namespace Go.Proofs.YtafhnopgndemcaaGreat
open Go.RowKit Go.Maps
attribute [local go_sem ↓] Go.wp_at_zero Go.wp_at_succ

theorem Rep.lookBq {w : World} {bv bm bo : Nat} {V : Ven} (R : Rep w bv bm bo V) {i : Nat} (hi : i < V.nb) (hlen : (V.B i).sym.size ≤ maxLen) (q : Nat) :
    (Instr.lookup 90 (.map (some bm)) (.string (V.B i).sym) false).run Tryz.prog (w.drewN q) = .ok (.pointer (some ⟨V.bk i, 0, none⟩)) (w.drewN q) :=
  (R.kept0 ((Chg.refl Non w).drewN q)).lookB hi hlen

set_option maxRecDepth 100000 in
set_option maxHeartbeats 4000000 in
theorem book_ok (bv bm bo i s : Nat) (V : Ven) (w : World) (R : Rep w bv bm bo V) (hi : i < V.nb) (hs : s < 2) (hlen : (V.B i).sym.size ≤ maxLen) (hside : ∀ j, j < (V.B i).n s → (V.om ((V.B i).h s j)).side = (s : Int)) :
    Calls Tryz.prog 22 #[.pointer (some ⟨bv, 0, none⟩), .string (V.B i).sym, .int .i64 s] w fun e w' => ∃ v, e = .returned (.tuple #[v, .int .i64 0]) ∧ LevelsPost V.om ((V.B i).n s) ((V.B i).h s) w v w' := by
  have L1 := R.lookB hi hlen
  have v0 : w.cell? ⟨bv, 0, none⟩ = some (.map (some bm)) := R.ven.cell 0
  have hsb : sideB (s : Int) = true := by
    have : s = 0 ∨ s = 1 := by omega
    rcases this with rfl | rfl <;> rfl
  have HL := hide (levels_any (V.bk i) s (V.B i) V.om w (R.book i hi) hs hside)
  clear R hside
  go_enter Tryz.func22, Tryz.ntmps22
  go_wp2_with (first | (go_at_call 40; refine (isSide_any _ _).mono ?_; rintro e w' ⟨rfl, rfl⟩) | (go_at_call 41; refine (unhide HL).mono ?_; rintro e w2 ⟨v, rfl, hp⟩))
  go_ret2
  exact ⟨v, rfl, hp⟩

#print axioms book_ok
end Go.Proofs.YtafhnopgndemcaaGreat
