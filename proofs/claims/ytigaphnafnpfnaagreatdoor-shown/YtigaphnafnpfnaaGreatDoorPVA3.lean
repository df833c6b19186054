import Derived.Test.YtigaphnafnpfnaaGreatDoorPVW
set_option linter.unusedVariables false
set_option linter.unusedSimpArgs false
namespace Go.Proofs.YtigaphnafnpfnaaGreatDoor
open Go.RowKit
attribute [local go_sem ↓] Go.wp_at_zero Go.wp_at_succ

theorem upF_stop {lt : Nat → Nat → Bool} {h : Nat → Nat} {j : Nat} (hh : j = 0 ∨ lt (h j) (h ((j - 1) / 2)) = false) : upF lt h j = h := by
  rw [upF]
  rcases hh with hh | hh
  · rw [dif_pos hh]
  · split
    · rfl
    · rw [hh]; rfl
theorem upF_go {lt : Nat → Nat → Bool} {h : Nat → Nat} {j : Nat} (h0 : j ≠ 0) (hh : lt (h j) (h ((j - 1) / 2)) = true) : upF lt h j = upF lt (sw h ((j - 1) / 2) j) ((j - 1) / 2) := by
  rw [upF, dif_neg h0, hh, if_pos rfl]

set_option maxHeartbeats 1000000 in
set_option maxRecDepth 100000 in
theorem up_any (bb so ab cap n j : Nat) (bc : Array Value) (h : Nat → Nat) (om : Nat → Ord) (w : World) (hbk : Blk w bb bc 158) (hso : bc[so]? = some (.slice (some ⟨ab, 0, none⟩) n cap)) (hs : Side w ab cap n h om) (hj : j < n) :
    Calls Tryz.prog 176 #[.iface 216 (.pointer (some ⟨bb, so, none⟩)), .int .i64 j] w fun e w' => e = .returned (.tuple #[]) ∧ Side w' ab cap n (upF (ltB om) h j) om ∧ Chg (Sd ab n h) w w' := by
  go_enter Tryz.func176, Tryz.ntmps176
  go_wp2
  go_loopg [1, 4] j (fun k jv _ wr => ∃ hh : Nat → Nat, jv = .int .i64 (k : Int) ∧ k < n ∧ Side wr ab cap n hh om ∧ Chg (Sd ab n h) w wr ∧ Sd ab n hh = Sd ab n h ∧ upF (ltB om) hh k = upF (ltB om) h j)
  case atStart => exact ⟨h, rfl, hj, hs, Chg.refl _ _, rfl, rfl⟩
  case round =>
    obtain ⟨hh, rfl, hk, hs1, hc1, hS1, hu⟩ := hrel
    have AU : Hid (Sd ab n hh = Sd ab n h ∧ upF (ltB om) hh gk = upF (ltB om) h j) := ⟨hS1, hu⟩
    clear hS1 hu
    by_cases h0 : gk = 0
    · subst h0
      go_wp2
      go_end0
      refine ⟨rfl, ?_, hc1⟩
      rw [← AU.out.2, upF_stop (.inl rfl)]
      exact hs1
    · obtain ⟨m, rfl⟩ : ∃ m, gk = m + 1 := ⟨gk - 1, by omega⟩
      have hcl := hs1.small
      have hcap2 : m + 1 < 1000 := by omega
      have e1 : ((m : Int) / 2 == (m : Int) + 1) = false := by simp; omega
      have hbk1 := hc1.blk hbk (fun x => by
        rcases x with rfl | ⟨k, hk, rfl⟩
        · obtain ⟨cs, hb, _⟩ := hs.arr
          exact Blk.ne hbk hb (by decide) rfl
        · exact Blk.ne hbk (hs.ord k hk) (by decide) rfl)
      have cb1 := (hbk1.cell so).trans hso
      have hml := methLess _ _ _ _ _ cb1
      clear h0 hj hcl
      push_cast
      go_wp2_with fail
      rw [show (m : Int) / 2 = ((m / 2 : Nat) : Int) from by omega, show (m : Int) + 1 = ((m + 1 : Nat) : Int) from by omega]
      refine (less_side ab cap n (m + 1) (m / 2) hh om wr hs1 hk (by omega)).mono ?_
      rintro e w2 ⟨rfl, hc2⟩
      cases hl : ltB om (hh (m + 1)) (hh (m / 2))
      · have HL := hl
        clear hl
        go_wp2
        go_end0
        refine ⟨rfl, ?_, hc1.trans hc2.of_non⟩
        rw [← AU.out.2, upF_stop (.inr HL)]
        exact hs1.kept hc2 (fun _ _ x => x)
      · have hs2 := hs1.kept hc2 (fun _ _ x => x)
        have hbk2 := hc2.blk hbk1 (fun x => x)
        have cb2 := (hbk2.cell so).trans hso
        have hms := methSwap _ _ _ _ _ cb2
        clear hml
        go_wp2_with fail
        refine (swap_side ab cap n (m / 2) (m + 1) hh om w2 hs2 (by omega) hk (by omega)).mono ?_
        rintro e w3 ⟨rfl, hs3, hc3⟩
        clear hms
        go_wp2
        go_roundg (m / 2)
        case measure => omega
        case rel =>
          obtain ⟨a1, a2⟩ := AU.out
          refine ⟨sw hh (m / 2) (m + 1), by simp, by omega, hs3, ?_, ?_, ?_⟩
          · exact (hc1.trans hc2.of_non).trans (hc3.mono (fun b hb => by rw [← a1]; exact hb))
          · rw [Sd_sw (by omega) hk, a1]
          · rw [← a2, upF_go (j := m + 1) (by omega) hl]
            rfl

end Go.Proofs.YtigaphnafnpfnaaGreatDoor

