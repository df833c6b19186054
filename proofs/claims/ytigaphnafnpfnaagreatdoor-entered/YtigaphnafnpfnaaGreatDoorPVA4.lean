import Derived.Test.YtigaphnafnpfnaaGreatDoorPVA3
set_option linter.unusedVariables false
set_option linter.unusedSimpArgs false
namespace Go.Proofs.YtigaphnafnpfnaaGreatDoor
open Go.RowKit

/-- which child is looked at -/
def kid (lt : Nat → Nat → Bool) (n : Nat) (h : Nat → Nat) (i : Nat) : Nat := if 2 * i + 2 < n ∧ lt (h (2 * i + 2)) (h (2 * i + 1)) = true then 2 * i + 2 else 2 * i + 1

theorem kid_b (lt : Nat → Nat → Bool) (n : Nat) (h : Nat → Nat) (i : Nat) (h1 : 2 * i + 1 < n) : i < kid lt n h i ∧ kid lt n h i < n := by
  unfold kid; split <;> omega

def downF (lt : Nat → Nat → Bool) (n : Nat) (h : Nat → Nat) (i : Nat) : (Nat → Nat) × Nat :=
  if hn : 2 * i + 1 < n then
    have _ := kid_b lt n h i hn
    if lt (h (kid lt n h i)) (h i) then downF lt n (sw h i (kid lt n h i)) (kid lt n h i) else (h, i)
  else (h, i)

theorem downF_end {lt : Nat → Nat → Bool} {n : Nat} {h : Nat → Nat} {i : Nat} (hh : ¬ 2 * i + 1 < n) : downF lt n h i = (h, i) := by
  rw [downF, dif_neg hh]
theorem downF_stop {lt : Nat → Nat → Bool} {n : Nat} {h : Nat → Nat} {i : Nat} (hh : 2 * i + 1 < n) (hl : lt (h (kid lt n h i)) (h i) = false) : downF lt n h i = (h, i) := by
  rw [downF, dif_pos hh, hl]; rfl
theorem downF_go {lt : Nat → Nat → Bool} {n : Nat} {h : Nat → Nat} {i : Nat} (hh : 2 * i + 1 < n) (hl : lt (h (kid lt n h i)) (h i) = true) : downF lt n h i = downF lt n (sw h i (kid lt n h i)) (kid lt n h i) := by
  rw [downF, dif_pos hh, hl, if_pos rfl]

theorem less_sideI (ab cap n i j : Nat) (h : Nat → Nat) (om : Nat → Ord) (w : World) (x y : Int) (hs : Side w ab cap n h om) (hi : i < n) (hj : j < n) (hx : x = (i : Int)) (hy : y = (j : Int)) :
    Calls Tryz.prog 257 #[.slice (some ⟨ab, 0, none⟩) n cap, .int .i64 x, .int .i64 y] w fun e w' => e = .returned (.bool (ltB om (h i) (h j))) ∧ Chg Non w w' := by
  subst hx; subst hy; exact less_side ab cap n i j h om w hs hi hj

theorem swap_sideI (ab cap n i j : Nat) (h : Nat → Nat) (om : Nat → Ord) (w : World) (x y : Int) (hs : Side w ab cap n h om) (hi : i < n) (hj : j < n) (hij : i ≠ j) (hx : x = (i : Int)) (hy : y = (j : Int)) :
    Calls Tryz.prog 258 #[.slice (some ⟨ab, 0, none⟩) n cap, .int .i64 x, .int .i64 y] w fun e w' => e = .returned (.tuple #[]) ∧ Side w' ab cap n (sw h i j) om ∧ Chg (Sd ab n h) w w' := by
  subst hx; subst hy; exact swap_side ab cap n i j h om w hs hi hj hij

set_option maxHeartbeats 4000000 in
set_option maxRecDepth 100000 in
theorem down_any (bb so ab cap N n i0 : Nat) (bc : Array Value) (h : Nat → Nat) (om : Nat → Ord) (w : World) (hbk : Blk w bb bc 158) (hso : bc[so]? = some (.slice (some ⟨ab, 0, none⟩) N cap)) (hs : Side w ab cap N h om) (hn : n ≤ N) (hi : i0 ≤ n) :
    Calls Tryz.prog 175 #[.iface 216 (.pointer (some ⟨bb, so, none⟩)), .int .i64 i0, .int .i64 n] w fun e w' => e = .returned (.bool (decide (i0 < (downF (ltB om) n h i0).2))) ∧ Side w' ab cap N (downF (ltB om) n h i0).1 om ∧ Chg (Sd ab N h) w w' := by
  have hN := hs.small
  have hout : ¬ Sd ab N h bb := by
    rintro (rfl | ⟨k, hk, rfl⟩)
    · obtain ⟨cs, hb, _⟩ := hs.arr
      exact Blk.ne hbk hb (by decide) rfl
    · exact Blk.ne hbk (hs.ord k hk) (by decide) rfl
  go_enter Tryz.func175, Tryz.ntmps175
  go_wp2
  go_loopg [7, 8, 9, 10] (n - i0) (fun k iv _ _ _ wr => ∃ (hh : Nat → Nat) (i : Nat), iv = .int .i64 (i : Int) ∧ i ≤ n ∧ k = n - i ∧ Side wr ab cap N hh om ∧ Chg (Sd ab N h) w wr ∧ Sd ab N hh = Sd ab N h ∧ downF (ltB om) n hh i = downF (ltB om) n h i0)
  case atStart => exact ⟨h, i0, rfl, hi, rfl, hs, Chg.refl _ _, rfl, rfl⟩
  case round =>
    obtain ⟨hh, i, rfl, hk, hgk, hs1, hc1, hS1, hu⟩ := hrel
    have AU : Hid (gk = n - i ∧ Sd ab N hh = Sd ab N h ∧ downF (ltB om) n hh i = downF (ltB om) n h i0) := ⟨hgk, hS1, hu⟩
    clear hS1 hu hgk
    have hbk1 := hc1.blk hbk hout
    have cb1 := (hbk1.cell so).trans hso
    have hml := methLess _ _ _ _ _ cb1
    by_cases hlast : 2 * i + 1 < n
    · by_cases h2 : 2 * i + 2 < n
      · go_wp2_with fail
        refine (less_sideI ab cap N (2 * i + 2) (2 * i + 1) hh om wr _ _ hs1 (by omega) (by omega) (by push_cast; omega) (by push_cast; omega)).mono ?_
        rintro e w2 ⟨rfl, hc2⟩
        have hs2 := hs1.kept hc2 (fun _ _ x => x)
        have hbkN := hc2.blk hbk1 (fun x => x)
        have hcN := hc1.trans hc2.of_non
        have cb2 := (hbkN.cell so).trans hso
        have hm2 := methLess _ _ _ _ _ cb2
        cases hb : ltB om (hh (2 * i + 2)) (hh (2 * i + 1))
        · have hkid : kid (ltB om) n hh i = 2 * i + 1 := by unfold kid; rw [if_neg (by rw [hb]; simp)]
          have HK := hide hkid
          clear hkid hb hml
          go_wp2_with fail
          refine (less_sideI ab cap N (2 * i + 1) i hh om w2 _ _ hs2 (by omega) (by omega) (by push_cast; omega) rfl).mono ?_
          rintro e w3 ⟨rfl, hc3⟩
          have hs3 := hs2.kept hc3 (fun _ _ x => x)
          cases hl : ltB om (hh (2 * i + 1)) (hh i)
          · have HL := hide hl
            clear hl hm2
            go_wp2
            go_ret
            have hst : downF (ltB om) n hh i = (hh, i) := downF_stop hlast (by rw [unhide HK]; exact unhide HL)
            refine ⟨?_, ?_, hcN.trans hc3.of_non⟩
            · rw [← AU.out.2.2, hst]
              simp
            · rw [← AU.out.2.2, hst]
              exact hs3
          · have hbk3 := hc3.blk hbkN (fun x => x)
            have cb3 := (hbk3.cell so).trans hso
            have hms := methSwap _ _ _ _ _ cb3
            clear hm2
            go_wp2_with fail
            refine (swap_sideI ab cap N i (2 * i + 1) hh om w3 _ _ hs3 (by omega) (by omega) (by omega) rfl (by push_cast; omega)).mono ?_
            rintro e w4 ⟨rfl, hs4, hc4⟩
            clear hms
            go_wp2
            go_roundg (n - (2 * i + 1))
            case measure => have := AU.out.1; omega
            case rel =>
              obtain ⟨_, a1, a2⟩ := AU.out
              refine ⟨sw hh i (2 * i + 1), 2 * i + 1, by push_cast; rfl, by omega, rfl, hs4, ?_, ?_, ?_⟩
              · exact (hcN.trans hc3.of_non).trans (hc4.mono (fun b hb => by rw [← a1]; exact hb))
              · rw [Sd_sw (by omega) (by omega), a1]
              · rw [← a2, downF_go hlast (by rw [unhide HK]; exact hl), unhide HK]
        · have hkid : kid (ltB om) n hh i = 2 * i + 2 := by unfold kid; rw [if_pos ⟨h2, hb⟩]
          have HK := hide hkid
          clear hkid hb hml
          go_wp2_with fail
          refine (less_sideI ab cap N (2 * i + 2) i hh om w2 _ _ hs2 (by omega) (by omega) (by push_cast; omega) rfl).mono ?_
          rintro e w3 ⟨rfl, hc3⟩
          have hs3 := hs2.kept hc3 (fun _ _ x => x)
          cases hl : ltB om (hh (2 * i + 2)) (hh i)
          · have HL := hide hl
            clear hl hm2
            go_wp2
            go_ret
            have hst : downF (ltB om) n hh i = (hh, i) := downF_stop hlast (by rw [unhide HK]; exact unhide HL)
            refine ⟨?_, ?_, hcN.trans hc3.of_non⟩
            · rw [← AU.out.2.2, hst]
              simp
            · rw [← AU.out.2.2, hst]
              exact hs3
          · have hbk3 := hc3.blk hbkN (fun x => x)
            have cb3 := (hbk3.cell so).trans hso
            have hms := methSwap _ _ _ _ _ cb3
            clear hm2
            go_wp2_with fail
            refine (swap_sideI ab cap N i (2 * i + 2) hh om w3 _ _ hs3 (by omega) (by omega) (by omega) rfl (by push_cast; omega)).mono ?_
            rintro e w4 ⟨rfl, hs4, hc4⟩
            clear hms
            go_wp2
            go_roundg (n - (2 * i + 2))
            case measure => have := AU.out.1; omega
            case rel =>
              obtain ⟨_, a1, a2⟩ := AU.out
              refine ⟨sw hh i (2 * i + 2), 2 * i + 2, by push_cast; rfl, by omega, rfl, hs4, ?_, ?_, ?_⟩
              · exact (hcN.trans hc3.of_non).trans (hc4.mono (fun b hb => by rw [← a1]; exact hb))
              · rw [Sd_sw (by omega) (by omega), a1]
              · rw [← a2, downF_go hlast (by rw [unhide HK]; exact hl), unhide HK]
      · have hkid : kid (ltB om) n hh i = 2 * i + 1 := by unfold kid; rw [if_neg (by omega)]
        have HK := hide hkid
        have hbkN := hbk1
        have hcN := hc1
        clear hkid
        go_wp2_with fail
        refine (less_sideI ab cap N (2 * i + 1) i hh om wr _ _ hs1 (by omega) (by omega) (by push_cast; omega) rfl).mono ?_
        rintro e w3 ⟨rfl, hc3⟩
        have hs3 := hs1.kept hc3 (fun _ _ x => x)
        cases hl : ltB om (hh (2 * i + 1)) (hh i)
        · have HL := hide hl
          clear hl hml
          go_wp2
          go_ret
          have hst : downF (ltB om) n hh i = (hh, i) := downF_stop hlast (by rw [unhide HK]; exact unhide HL)
          refine ⟨?_, ?_, hcN.trans hc3.of_non⟩
          · rw [← AU.out.2.2, hst]
            simp
          · rw [← AU.out.2.2, hst]
            exact hs3
        · have hbk3 := hc3.blk hbkN (fun x => x)
          have cb3 := (hbk3.cell so).trans hso
          have hms := methSwap _ _ _ _ _ cb3
          clear hml
          go_wp2_with fail
          refine (swap_sideI ab cap N i (2 * i + 1) hh om w3 _ _ hs3 (by omega) (by omega) (by omega) rfl (by push_cast; omega)).mono ?_
          rintro e w4 ⟨rfl, hs4, hc4⟩
          clear hms
          go_wp2
          go_roundg (n - (2 * i + 1))
          case measure => have := AU.out.1; omega
          case rel =>
            obtain ⟨_, a1, a2⟩ := AU.out
            refine ⟨sw hh i (2 * i + 1), 2 * i + 1, by push_cast; rfl, by omega, rfl, hs4, ?_, ?_, ?_⟩
            · exact (hcN.trans hc3.of_non).trans (hc4.mono (fun b hb => by rw [← a1]; exact hb))
            · rw [Sd_sw (by omega) (by omega), a1]
            · rw [← a2, downF_go hlast (by rw [unhide HK]; exact hl), unhide HK]
    · clear hml
      have e1 : decide ((n : Int) ≤ 2 * (i : Int) + 1) = true := by simp; omega
      go_wp2
      go_ret
      refine ⟨?_, ?_, hc1⟩
      · rw [← AU.out.2.2, downF_end hlast]
        simp
      · rw [← AU.out.2.2, downF_end hlast]
        exact hs1

end Go.Proofs.YtigaphnafnpfnaaGreatDoor

