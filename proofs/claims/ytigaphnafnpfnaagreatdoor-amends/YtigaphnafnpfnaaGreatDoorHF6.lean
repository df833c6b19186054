import Derived.Test.YtigaphnafnpfnaaGreatDoorHF1
import Derived.Deep.LoopGhost
/- Trades, where none holds -/
set_option linter.unusedVariables false
set_option linter.unusedSimpArgs false
namespace Go.Proofs.YtigaphnafnpfnaaGreatDoor
open Go.RowKit Go.Maps
attribute [local go_sem ↓] Go.wp_at_zero Go.wp_at_succ

set_option maxHeartbeats 2000000 in
set_option maxRecDepth 100000 in
theorem trades_none (bv bm bo : Nat) (G : Lg) (lm : Lm) (w : World) (hL : IsLog w bv bm bo G lm) (hno : ∀ (i : Nat) (x : Tg), G.tr[i]? = some x → x.holds = false) (hlen : G.tr.length ≤ 1000000) :
    Calls Tryz.prog 20 #[.pointer (some ⟨bv, 0, none⟩)] w fun e w' => e = .returned (.slice none 0 0) ∧ Chg Non w w' := by
  obtain ⟨n, hn⟩ : ∃ n, G.tr.length = n := ⟨_, rfl⟩
  obtain ⟨pa, pc, htv⟩ := hL.log.tvForm hn
  have v2 : w.cell? ⟨bv, 2, none⟩ = some (.slice pa n pc) := by rw [← htv]; exact hL.ven.cell 2
  have HX : Hid (∀ i, i < n → ∃ g b, pa = some ⟨g, 0, none⟩ ∧ w.cell? ⟨g, i, none⟩ = some (.pointer (some ⟨b, 0, none⟩)) ∧ w.cell? ⟨b, 7, none⟩ = some (.bool false)) := by
    intro i hi
    have hi' : i < G.tr.length := by omega
    obtain ⟨g, cap, b, h1, h2, _, h4⟩ := hL.log.at (List.getElem?_eq_getElem hi')
    rw [htv] at h1
    simp only [Value.slice.injEq] at h1
    refine ⟨g, b, h1.1, h2, ?_⟩
    have h5 := h4.cell 7
    have h6 := hno i _ (List.getElem?_eq_getElem hi')
    simp only [Tg.cells] at h5
    rw [h6] at h5
    exact h5
  rw [hn] at hlen
  clear hL htv hn hno
  go_enter Tryz.func20, Tryz.ntmps20
  go_wp2
  go_loopg [3, 5, 11] n (fun k al _ iv wr => ∃ i : Nat, al = .slice none 0 0 ∧ iv = .int .i64 (i : Int) ∧ i ≤ n ∧ k = n - i ∧ wr = w)
  case atStart => exact ⟨0, rfl, rfl, Nat.zero_le _, rfl, rfl⟩
  case round =>
    obtain ⟨i, rfl, rfl, hi, hgk, rfl⟩ := hrel
    by_cases hlt : i < n
    · obtain ⟨g, b, rfl, c1, c2⟩ := unhide HX i hlt
      go_wp2
      go_roundg (n - (i + 1))
      case measure => omega
      case rel => exact ⟨i + 1, rfl, by push_cast; rfl, by omega, rfl, rfl⟩
    · obtain rfl : i = n := by omega
      go_wp2
      go_ret
      exact ⟨rfl, Chg.refl _ _⟩

end Go.Proofs.YtigaphnafnpfnaaGreatDoor

