import Derived.Test.YtigaphnafnpfnaaGreatDoorPVY3
set_option linter.unusedVariables false
set_option linter.unusedSimpArgs false
namespace Go.Proofs.YtigaphnafnpfnaaGreatDoor
open Go.RowKit
attribute [local go_sem ↓] Go.wp_at_zero Go.wp_at_succ

theorem byt_at (s : ByteArray) (i : Nat) (h : i < s.size) : byt s i = (s[i]'h).toNat := by
  show (s.data[i]!).toNat = (s.data[i]'h).toNat
  rw [getElem!_pos s.data i h]

set_option maxRecDepth 100000 in
theorem rnext_any (s : ByteArray) (i : Nat) (w : World) (hi : i < s.size) (hs : s.size ≤ 1000000000) :
    Calls Tryz.prog 197 #[.string s, .int .i64 (i : Int)] w fun e w' => e = .returned (.tuple #[.int .i64 ((nxt s i).1 : Int), .int .i64 ((nxt s i).2 : Int)]) ∧ w' = w := by
  have HB := hide (byt_at s i hi)
  have h0 : (s[i].toNat : Int) < 256 := by have := s[i].toNat_lt; omega
  by_cases h1 : s[i].toNat < 128
  · have HR : Hid (nxt s i = (s[i].toNat, 1)) := by show _ = _; unfold nxt; rw [unhide HB, if_pos h1]
    go_enter Tryz.func197, Tryz.ntmps197
    go_wp2
    go_ret2
    exact ⟨by rw [unhide HR]; rfl, rfl⟩
  · by_cases h2 : i + 1 < s.size
    · have HB1 := hide (byt_at s (i + 1) h2)
      have h01 : (s[i + 1].toNat : Int) < 256 := by have := s[i + 1].toNat_lt; omega
      by_cases h3 : s[i].toNat = 206
      · have e3 : ((s[i].toNat : Int) == 206) = true := by simp [h3]
        by_cases h4 : 145 ≤ s[i + 1].toNat
        · by_cases h5 : s[i + 1].toNat ≤ 169
          · have HR : Hid (nxt s i = (768 + s[i + 1].toNat, 2)) := by show _ = _; unfold nxt; rw [unhide HB, if_neg h1, unhide HB1, if_pos ⟨h2, h3, h4, h5⟩]
            have HH := hide h3
            clear h3
            go_enter Tryz.func197, Tryz.ntmps197
            go_wp2
            go_ret2
            refine ⟨?_, rfl⟩
            rw [unhide HR]
            have e : ∀ x y : Int, x = y → Ending.returned (.tuple #[.int .i64 x, .int .i64 2]) = .returned (.tuple #[.int .i64 y, .int .i64 2]) := by rintro _ _ rfl; rfl
            refine e _ _ ?_
            have := unhide HH
            simp only [this]
            push_cast
            omega
          · have HR : Hid (nxt s i = (0, 1)) := by show _ = _; unfold nxt; rw [unhide HB, if_neg h1, unhide HB1, if_neg (fun h => h5 h.2.2.2)]
            clear h3
            go_enter Tryz.func197, Tryz.ntmps197
            go_wp2
            go_ret2
            exact ⟨by rw [unhide HR]; rfl, rfl⟩
        · have HR : Hid (nxt s i = (0, 1)) := by show _ = _; unfold nxt; rw [unhide HB, if_neg h1, unhide HB1, if_neg (fun h => h4 h.2.2.1)]
          clear h3
          go_enter Tryz.func197, Tryz.ntmps197
          go_wp2
          go_ret2
          exact ⟨by rw [unhide HR]; rfl, rfl⟩
      · have e3 : ((s[i].toNat : Int) == 206) = false := by simp; omega
        have HR : Hid (nxt s i = (0, 1)) := by show _ = _; unfold nxt; rw [unhide HB, if_neg h1, if_neg (fun h => h3 h.2.1)]
        clear h3
        go_enter Tryz.func197, Tryz.ntmps197
        go_wp2
        go_ret2
        exact ⟨by rw [unhide HR]; rfl, rfl⟩
    · have HR : Hid (nxt s i = (0, 1)) := by show _ = _; unfold nxt; rw [unhide HB, if_neg h1, if_neg (fun h => h2 h.1)]
      go_enter Tryz.func197, Tryz.ntmps197
      go_wp2
      go_ret2
      exact ⟨by rw [unhide HR]; rfl, rfl⟩

set_option maxHeartbeats 1000000 in
theorem rname_any (s : ByteArray) (w : World) (hs : s.size ≤ 1000000000) : Calls Tryz.prog 166 #[.string s] w fun e w' => e = .returned (.bool (nameB s)) ∧ w' = w := by
  have HX : Hid (∀ i, i < s.size → ∀ W, Calls Tryz.prog 197 #[.string s, .int .i64 (i : Int)] W fun e w' => e = .returned (.tuple #[.int .i64 ((nxt s i).1 : Int), .int .i64 ((nxt s i).2 : Int)]) ∧ w' = W) := fun i hi W => rnext_any s i W hi hs
  go_enter Tryz.func166, Tryz.ntmps166
  go_wp2
  go_loopg [3, 4] (s.size + 1) (fun q nv iv wr => ∃ i n : Nat, nv = .int .i64 (n : Int) ∧ iv = .int .i64 (i : Int) ∧ wr = w ∧ nameF s q i n = nameB s ∧ s.size < i + q ∧ n ≤ i ∧ i ≤ s.size)
  case atStart => exact ⟨0, 0, rfl, rfl, rfl, rfl, by omega, by omega, by omega⟩
  case round =>
    obtain ⟨i, n, rfl, rfl, rfl, hF, hq, hni, his⟩ := hrel
    obtain ⟨q, rfl⟩ : ∃ q, gk = q + 1 := by
      cases gk with
      | zero => exfalso; omega
      | succ q => exact ⟨q, rfl⟩
    by_cases hp : i < s.size
    · have hF2 : nameF s (q + 1) i n = (if upB (nxt s i).1 then nameF s q (i + (nxt s i).2) (n + 1) else false) := by
        conv => lhs; unfold nameF
        rw [if_pos hp]
      obtain ⟨b1, b2, b3, b4⟩ := nxt_pos s i
      have b3' := b3 hp
      have HC := hide (unhide HX i hp wr)
      obtain ⟨⟨c, k⟩, hd⟩ : ∃ x, nxt s i = x := ⟨_, rfl⟩
      rw [hd] at hF2 HC b1 b2 b3' b4
      simp only at hF2 HC b1 b2 b3' b4
      have hcs : (65 ≤ c ∧ c ≤ 90 ∧ upB c = true) ∨ (48 ≤ c ∧ c ≤ 57 ∧ upB c = true) ∨ (913 ≤ c ∧ c ≤ 937 ∧ ¬ c = 930 ∧ upB c = true) ∨ (c = 930 ∧ upB c = false) ∨ (c < 48 ∧ upB c = false) ∨ (57 < c ∧ c < 65 ∧ upB c = false) ∨ (90 < c ∧ c < 913 ∧ upB c = false) := by
        by_cases h1 : 65 ≤ c ∧ c ≤ 90
        · left; exact ⟨h1.1, h1.2, by simp [upB, h1]⟩
        · right
          by_cases h2 : 48 ≤ c ∧ c ≤ 57
          · left; exact ⟨h2.1, h2.2, by simp [upB, h2]⟩
          · right
            by_cases h3 : c = 930
            · right; left; exact ⟨h3, by subst h3; decide⟩
            · by_cases h4 : 913 ≤ c ∧ c ≤ 937
              · left; exact ⟨h4.1, h4.2, h3, by simp [upB, h4, h3]⟩
              · right; right
                have hu : upB c = false := by
                  simp only [upB, Bool.or_eq_false_iff, Bool.and_eq_false_iff, decide_eq_false_iff_not, Bool.not_eq_false', beq_iff_eq]
                  omega
                have : c < 48 ∨ (57 < c ∧ c < 65) ∨ (90 < c ∧ c < 913) := by omega
                rcases this with h | h | h
                · left; exact ⟨h, hu⟩
                · right; left; exact ⟨h.1, h.2, hu⟩
                · right; right; exact ⟨h.1, h.2, hu⟩
      rw [hF2] at hF
      have HFF := hide hF
      clear hF hF2 hd b3
      rcases hcs with ⟨a1, a2, hu⟩ | ⟨a1, a2, hu⟩ | ⟨a1, a2, a3, hu⟩ | ⟨a1, hu⟩ | ⟨a1, hu⟩ | ⟨a1, a2, hu⟩ | ⟨a1, a2, hu⟩
      all_goals
        have HF3 := unhide HFF
        rw [hu] at HF3
        have HR := hide HF3
        clear HF3 HFF hu
        try (have e3 : ((c : Int) == 930) = false := by simp; omega)
        try (have e4 : ((c : Int) != 930) = true := by simp; omega)
        try (have e4 : ((c : Int) != 930) = false := by simp; omega)
        try (have f90 : decide ((c : Int) ≤ 90) = false := by simp; omega)
        try (have f57 : decide ((c : Int) ≤ 57) = false := by simp; omega)
        go_wp2_with fail
        refine (unhide HC).mono ?_
        rintro e w2 ⟨rfl, rfl⟩
        go_wp2
        first
          | (go_ret
             exact ⟨by rw [← unhide HR]; rfl, rfl⟩)
          | (go_roundg q
             case measure => omega
             case rel => exact ⟨i + k, n + 1, by push_cast; rfl, by push_cast; rfl, rfl, unhide HR, by omega, by omega, by omega⟩)
    · have hR : nameB s = (decide (1 ≤ n) && decide (n ≤ 6)) := by
        rw [← hF]
        unfold nameF
        rw [if_neg hp]
      have HR := hide hR
      clear hF hR
      by_cases h1 : 1 ≤ n
      · go_wp2
        go_ret
        refine ⟨?_, rfl⟩
        rw [unhide HR, decide_eq_true h1, Bool.true_and]
        first | (simp; done) | (simp; omega)
      · go_wp2
        go_ret
        refine ⟨?_, rfl⟩
        rw [unhide HR, decide_eq_false h1, Bool.false_and]
        rfl

end Go.Proofs.YtigaphnafnpfnaaGreatDoor

