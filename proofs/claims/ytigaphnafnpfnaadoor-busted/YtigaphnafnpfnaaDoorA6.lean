import Derived.Test.YtigaphnafnpfnaaDoorA5
set_option linter.unusedVariables false
set_option linter.unusedSimpArgs false
namespace Go.Proofs.YtigaphnafnpfnaaDoor
open Go.RowKit

theorem adB_some {s : Option Addr} {ab : Nat} (h : s = some ⟨ab, 0, none⟩) : adB s = some ab := by subst h; rfl

set_option maxHeartbeats 1000000 in
set_option maxRecDepth 100000 in
theorem hpush_any (bb so ob n cap : Nat) (s : Option Addr) (bc : Array Value) (h : Nat → Nat) (om : Nat → Ord) (ix : Int) (w : World) (hbk : Blk w bb bc 67) (hso : bc[so]? = some (.slice s n cap)) (hsd : SideV w s n cap h om)
    (ho : IsOrd w ob (om ob) ix) (hnew : ∀ k, k < n → h k ≠ ob) (hn : n < 1000) :
    Calls Tryd.prog 64 #[.iface 112 (.pointer (some ⟨bb, so, none⟩)), .iface 68 (.pointer (some ⟨ob, 0, none⟩))] w fun e w' => e = .returned (.tuple #[]) ∧
      ∃ g cap', Blk w' bb (bc.setIfInBounds so (.slice (some ⟨g, 0, none⟩) (n + 1) cap')) 67 ∧ Side w' g cap' (n + 1) (upF (ltB om) (fun k => if k = n then ob else h k) n) om ∧
        Chg (fun b => b = bb ∨ b = ob ∨ adB s = some b ∨ ∃ k, k < n ∧ b = h k) w w' ∧ (adB s = some g ∨ w.heap.size ≤ g) := by
  have hm := methPush ⟨bb, so, none⟩ w
  have hlt : so < bc.size := (Array.getElem?_eq_some_iff.1 hso).1
  go_enter Tryd.func64, Tryd.ntmps64
  go_wp2_with fail
  refine (push_any bb so ob n cap s bc h om ix w hbk hso hsd ho hnew hn).mono ?_
  rintro e w1 ⟨rfl, g, cap1, hb1, hs1, hc1, hg1⟩
  have hso1 : (bc.setIfInBounds so (.slice (some ⟨g, 0, none⟩) (n + 1) cap1))[so]? = some (.slice (some ⟨g, 0, none⟩) (n + 1) cap1) := Array.getElem?_setIfInBounds_self_of_lt hlt
  have hm1 := methLen ⟨bb, so, none⟩ w1 (some ⟨g, 0, none⟩) (n + 1) cap1 ((hb1.cell so).trans hso1)
  clear hm
  go_wp2_with fail
  refine (len_any (some ⟨g, 0, none⟩) (n + 1) cap1 w1).mono ?_
  rintro e w2 ⟨rfl, rfl⟩
  clear hm1
  have e1 : (((n + 1 : Nat) : Int) - 1) = (n : Int) := by omega
  go_wp2_with fail
  refine (up_any bb so g cap1 (n + 1) n _ _ om _ hb1 hso1 hs1 (by omega)).mono ?_
  rintro e w3 ⟨rfl, hs3, hc3⟩
  go_wp2
  go_end0
  have hnb : ¬ Sd g (n + 1) (fun k => if k = n then ob else h k) bb := by
    rintro (rfl | ⟨k, hk, rfl⟩)
    · obtain ⟨cs, hb, _⟩ := hs1.arr
      exact Blk.ne hb1 hb (by decide) rfl
    · exact Blk.ne hb1 (hs1.ord k hk) (by decide) rfl
  refine ⟨rfl, g, cap1, hc3.blk hb1 hnb, hs3, ?_, hg1⟩
  refine Chg.from (hc1.mono (fun b hb => by rcases hb with h | h | h; exact .inl h; exact .inr (.inl h); exact .inr (.inr (.inl h)))) (hc3.mono ?_)
  rintro b (rfl | ⟨k, hk, rfl⟩)
  · rcases hg1 with h | h
    · exact .inl (.inr (.inr (.inl h)))
    · exact .inr h
  · left
    by_cases e : k = n
    · exact .inr (.inl (by simp [e]))
    · exact .inr (.inr (.inr ⟨k, by omega, by simp [e]⟩))

def removeF (lt : Nat → Nat → Bool) (h : Nat → Nat) (n i : Nat) : Nat → Nat :=
  if i = n then h else if i < (downF lt n (sw h i n) i).2 then (downF lt n (sw h i n) i).1 else upF lt (downF lt n (sw h i n) i).1 i

theorem sw_far {h : Nat → Nat} {i j k : Nat} (h1 : k ≠ i) (h2 : k ≠ j) : sw h i j k = h k := by unfold sw; rw [if_neg h1, if_neg h2]

theorem downF_far {lt : Nat → Nat → Bool} {n : Nat} {k : Nat} (hk : n ≤ k) (h : Nat → Nat) (i : Nat) : (downF lt n h i).1 k = h k := by
  fun_induction downF lt n h i with
  | case1 h i hn _ hl ih =>
    rw [ih]
    have := kid_b lt n h i hn
    exact sw_far (by omega) (by omega)
  | case2 => rfl
  | case3 => rfl

theorem upF_far {lt : Nat → Nat → Bool} {k : Nat} (h : Nat → Nat) (j : Nat) (hk : j < k) : (upF lt h j) k = h k := by
  fun_induction upF lt h j with
  | case1 => rfl
  | case2 h j hj hl ih =>
    rw [ih (by omega)]
    exact sw_far (by omega) (by omega)
  | case3 => rfl

theorem removeF_last {lt : Nat → Nat → Bool} {h : Nat → Nat} {n i : Nat} (hi : i ≤ n) : removeF lt h n i n = h i := by
  unfold removeF
  split
  · rename_i e; rw [e]
  · have h1 : (downF lt n (sw h i n) i).1 n = h i := by
      rw [downF_far (Nat.le_refl _)]
      unfold sw
      rw [if_neg (by omega), if_pos rfl]
    split
    · exact h1
    · rw [upF_far _ _ (by omega)]; exact h1

theorem Sd_down {lt : Nat → Nat → Bool} {ab N n : Nat} {h : Nat → Nat} {i : Nat} (hi : i ≤ n) (hn : n ≤ N) : Sd ab N (downF lt n h i).1 = Sd ab N h := by
  fun_induction downF lt n h i with
  | case1 h i hn' _ hl ih =>
    have := kid_b lt n h i hn'
    rw [ih (by omega), Sd_sw (by omega) (by omega)]
  | case2 => rfl
  | case3 => rfl

set_option maxHeartbeats 1000000 in
set_option maxRecDepth 100000 in
theorem remove_any (bb so ab n cap i : Nat) (bc : Array Value) (h : Nat → Nat) (om : Nat → Ord) (w : World) (hbk : Blk w bb bc 67) (hso : bc[so]? = some (.slice (some ⟨ab, 0, none⟩) (n + 1) cap)) (hsd : Side w ab cap (n + 1) h om) (hi : i ≤ n) :
    Calls Tryd.prog 65 #[.iface 112 (.pointer (some ⟨bb, so, none⟩)), .int .i64 i] w fun e w' => e = .returned (.iface 68 (.pointer (some ⟨h i, 0, none⟩))) ∧
      Blk w' bb (bc.setIfInBounds so (.slice (some ⟨ab, 0, none⟩) n cap)) 67 ∧ Side w' ab cap n (removeF (ltB om) h n i) om ∧ IsOrd w' (h i) (om (h i)) n ∧ Chg (fun b => b = bb ∨ Sd ab (n + 1) h b) w w' := by
  have hm := methLen ⟨bb, so, none⟩ w (some ⟨ab, 0, none⟩) (n + 1) cap ((hbk.cell so).trans hso)
  have hsm := hsd.small
  have hout : ¬ Sd ab (n + 1) h bb := by
    rintro (rfl | ⟨k, hk, rfl⟩)
    · obtain ⟨cs, hb, _⟩ := hsd.arr
      exact Blk.ne hbk hb (by decide) rfl
    · exact Blk.ne hbk (hsd.ord k hk) (by decide) rfl
  by_cases hin : i = n
  · subst hin
    go_enter Tryd.func65, Tryd.ntmps65
    go_wp2_with fail
    refine (len_any (some ⟨ab, 0, none⟩) (i + 1) cap w).mono ?_
    rintro e w2 ⟨rfl, rfl⟩
    have hp := methPop ⟨bb, so, none⟩ w2
    clear hm
    go_wp2_with fail
    refine (pop_any bb so ab i cap bc h om _ hbk hso hsd).mono ?_
    rintro e w3 ⟨rfl, hb3, hs3, ho3, hc3⟩
    clear hp
    go_wp2
    go_ret
    refine ⟨rfl, hb3, ?_, ho3, hc3.mono ?_⟩
    · unfold removeF
      rw [if_pos rfl]
      exact hs3
    · rintro b (rfl | rfl)
      · exact .inl rfl
      · exact .inr (.inl rfl)
  · have e1 : ((n : Int) != (i : Int)) = true := by simp; omega
    go_enter Tryd.func65, Tryd.ntmps65
    go_wp2_with fail
    refine (len_any (some ⟨ab, 0, none⟩) (n + 1) cap w).mono ?_
    rintro e w2 ⟨rfl, rfl⟩
    have hms := methSwap ⟨bb, so, none⟩ w2 (some ⟨ab, 0, none⟩) (n + 1) cap ((hbk.cell so).trans hso)
    clear hm
    go_wp2_with fail
    refine (swap_side ab cap (n + 1) i n h om _ hsd (by omega) (by omega) hin).mono ?_
    rintro e w3 ⟨rfl, hs3, hc3⟩
    have hb3 := hc3.blk hbk hout
    clear hms
    go_wp2_with fail
    refine (down_any bb so ab cap (n + 1) n i bc _ om _ hb3 hso hs3 (by omega) hi).mono ?_
    rintro e w4 ⟨rfl, hs4, hc4⟩
    rw [Sd_sw (by omega) (by omega)] at hc4
    have hb4 := hc4.blk hb3 hout
    by_cases hd : i < (downF (ltB om) n (sw h i n) i).2
    · have hdt : decide (i < (downF (ltB om) n (sw h i n) i).2) = true := by simp [hd]
      rw [hdt]
      have hp := methPop ⟨bb, so, none⟩ w4
      have hN : (downF (ltB om) n (sw h i n) i).1 = removeF (ltB om) h n i := by unfold removeF; rw [if_neg hin, if_pos hd]
      rw [hN] at hs4
      have hl := removeF_last (lt := ltB om) (h := h) hi
      have HL := hide hl
      clear hN hd hdt hl
      go_wp2_with fail
      refine (pop_any bb so ab n cap bc _ om _ hb4 hso hs4).mono ?_
      rintro e w5 ⟨rfl, hb5, hs5, ho5, hc5⟩
      clear hp
      rw [unhide HL]
      rw [unhide HL] at ho5
      go_wp2
      go_ret
      refine ⟨rfl, hb5, hs5, ho5, ((hc3.trans hc4).mono (fun b hb => .inr hb)).trans (hc5.mono ?_)⟩
      rintro b (rfl | rfl)
      · exact .inl rfl
      · exact .inr (.inl rfl)
    · have hdt : decide (i < (downF (ltB om) n (sw h i n) i).2) = false := by simp [hd]
      rw [hdt]
      have hN : upF (ltB om) (downF (ltB om) n (sw h i n) i).1 i = removeF (ltB om) h n i := by unfold removeF; rw [if_neg hin, if_neg hd]
      have HS : Hid (Sd ab (n + 1) (downF (ltB om) n (sw h i n) i).1 = Sd ab (n + 1) h) := by
        show _ = _
        rw [Sd_down hi (by omega), Sd_sw (by omega) (by omega)]
      have HN := hide hN
      clear hN hd hdt
      go_wp2_with fail
      refine (up_any bb so ab cap (n + 1) i bc _ om _ hb4 hso hs4 (by omega)).mono ?_
      rintro e w5 ⟨rfl, hs5, hc5⟩
      rw [unhide HS] at hc5
      have hb5 := hc5.blk hb4 hout
      have hp := methPop ⟨bb, so, none⟩ w5
      rw [unhide HN] at hs5
      have HL := hide (removeF_last (lt := ltB om) (h := h) hi)
      go_wp2_with fail
      refine (pop_any bb so ab n cap bc _ om _ hb5 hso hs5).mono ?_
      rintro e w6 ⟨rfl, hb6, hs6, ho6, hc6⟩
      clear hp
      rw [unhide HL]
      rw [unhide HL] at ho6
      go_wp2
      go_ret
      refine ⟨rfl, hb6, hs6, ho6, (((hc3.trans hc4).trans hc5).mono (fun b hb => .inr hb)).trans (hc6.mono ?_)⟩
      rintro b (rfl | rfl)
      · exact .inl rfl
      · exact .inr (.inl rfl)

end Go.Proofs.YtigaphnafnpfnaaDoor
