import Derived.Test.YtigaphnafnpfnaaGreatDoorPVC1
set_option linter.unusedVariables false
set_option linter.unusedSimpArgs false
namespace Go.Proofs.YtigaphnafnpfnaaGreatDoor
open Go.RowKit
attribute [local go_sem ↓] Go.wp_at_zero Go.wp_at_succ

/-- why an order may not come -/
def enterE (o : Ask) (taken there full cross whole : Bool) : Int :=
  if numB o.id = false then 1 else if taken = true then 2 else if ownB' o.owner = false ∨ sideB o.side = false then 4 else if kindB o.kind = false then 5
  else if numB o.qty = false ∨ priceB o.kind o.price = false then 4 else if there = false then 6 else if full = true then 7 else if o.kind = 4 ∧ cross = true then 8 else if o.kind = 3 ∧ whole = true then 9 else 0

theorem enter_cases (o : Ask) (taken there full cross whole : Bool) :
    (numB o.id = false ∧ enterE o taken there full cross whole = 1) ∨ (numB o.id = true ∧ (
    (taken = true ∧ enterE o taken there full cross whole = 2) ∨ (taken = false ∧ (
    ((o.owner < 0 ∨ (¬ o.owner < 0 ∧ 9 < o.owner) ∨ (¬ o.owner < 0 ∧ ¬ 9 < o.owner ∧ o.side < 0) ∨ (¬ o.owner < 0 ∧ ¬ 9 < o.owner ∧ ¬ o.side < 0 ∧ 1 < o.side)) ∧ enterE o taken there full cross whole = 4) ∨ ((0 ≤ o.owner ∧ o.owner ≤ 9 ∧ 0 ≤ o.side ∧ o.side ≤ 1) ∧ (
    ((o.kind < 0 ∨ (¬ o.kind < 0 ∧ 5 < o.kind)) ∧ enterE o taken there full cross whole = 5) ∨ ((0 ≤ o.kind ∧ o.kind ≤ 5) ∧ (
    ((numB o.qty = false ∨ (numB o.qty = true ∧ priceB o.kind o.price = false)) ∧ enterE o taken there full cross whole = 4) ∨ (numB o.qty = true ∧ priceB o.kind o.price = true ∧ (
    (there = false ∧ enterE o taken there full cross whole = 6) ∨ (there = true ∧ (
    (full = true ∧ enterE o taken there full cross whole = 7) ∨ (full = false ∧ (
    (o.kind = 4 ∧ cross = true ∧ enterE o taken there full cross whole = 8) ∨ (o.kind = 4 ∧ cross = false ∧ enterE o taken there full cross whole = 0) ∨
    (o.kind = 3 ∧ whole = true ∧ enterE o taken there full cross whole = 9) ∨ (o.kind = 3 ∧ whole = false ∧ enterE o taken there full cross whole = 0) ∨ (o.kind ≠ 4 ∧ o.kind ≠ 3 ∧ enterE o taken there full cross whole = 0))))))))))))))) := by
  cases h1 : numB o.id
  · left; simp [enterE, h1]
  · right; refine ⟨rfl, ?_⟩
    cases h2 : taken
    · right; refine ⟨rfl, ?_⟩
      by_cases h3 : 0 ≤ o.owner ∧ o.owner ≤ 9 ∧ 0 ≤ o.side ∧ o.side ≤ 1
      · right; refine ⟨h3, ?_⟩
        have e3 : ¬ (ownB' o.owner = false ∨ sideB o.side = false) := by
          have : o.side = 0 ∨ o.side = 1 := by omega
          rintro (h | h)
          · simp [ownB'] at h; omega
          · rcases this with e | e <;> rw [e] at h <;> simp [sideB] at h
        by_cases h4 : 0 ≤ o.kind ∧ o.kind ≤ 5
        · right; refine ⟨h4, ?_⟩
          have e4 : ¬ (kindB o.kind = false) := by simp [kindB]; omega
          cases h5 : numB o.qty
          · left; exact ⟨.inl rfl, by simp [enterE, h1, e3, e4, h5]⟩
          · cases h6 : priceB o.kind o.price
            · left; exact ⟨.inr ⟨rfl, rfl⟩, by simp [enterE, h1, e3, e4, h5, h6]⟩
            · right; refine ⟨rfl, rfl, ?_⟩
              cases there
              · left; simp [enterE, h1, e3, e4, h5, h6]
              · right; refine ⟨rfl, ?_⟩
                cases full
                · right; refine ⟨rfl, ?_⟩
                  by_cases h7 : o.kind = 4
                  · cases cross
                    · right; left; simp [enterE, h1, e3, e4, h5, h6, h7]; rw [h7] at e4 h6; simp [e4, h6]
                    · left; simp [enterE, h1, e3, e4, h5, h6, h7]; rw [h7] at e4 h6; simp [e4, h6]
                  · by_cases h8 : o.kind = 3
                    · cases whole
                      · right; right; right; left; simp [enterE, h1, e3, e4, h5, h6, h8]; rw [h8] at e4 h6; simp [e4, h6]
                      · right; right; left; simp [enterE, h1, e3, e4, h5, h6, h8]; rw [h8] at e4 h6; simp [e4, h6]
                    · right; right; right; right; exact ⟨h7, h8, by simp [enterE, h1, e3, e4, h5, h6, h7, h8]⟩
                · left; simp [enterE, h1, e3, e4, h5, h6]
        · left
          have e4 : kindB o.kind = false := by simp [kindB]; omega
          exact ⟨by omega, by simp [enterE, h1, e3, e4]⟩
      · left
        have e3 : ownB' o.owner = false ∨ sideB o.side = false := by
          by_cases h : 0 ≤ o.owner ∧ o.owner ≤ 9
          · right
            have h0 : o.side ≠ 0 := by omega
            have h1 : o.side ≠ 1 := by omega
            simp [sideB, h0, h1]
          · left; simp [ownB']; omega
        exact ⟨by omega, by unfold enterE; rw [if_neg (by rw [h1]; simp), if_neg (by simp), if_pos e3]⟩
    · left; simp [enterE, h1]

/-- the document's own reasons -/
def rentE (S : RS) (o : Ask) : Int := enterE o (ordX S.l o.id).isSome (symB S.sy o.sym) (decide (200 ≤ S.l.length)) (bestR S.l o).isSome (decide (offX S.l o S.l.length < o.qty))

theorem oi_ge (x : Option Nat) : decide (0 ≤ oi x) = x.isSome := by cases x <;> simp [oi]

set_option maxRecDepth 100000 in
set_option maxHeartbeats 4000000 in
theorem rentering_any (base sb : Nat) (S : RS) (m : SM) (o : Ask) (w : World) (h : StV w base sb S m) (hlen : S.l.length ≤ 1000) (hsy : S.sy.length ≤ 1000) (hop : ∀ k, k < S.l.length → 0 ≤ (nthO S.l k).opn ∧ (nthO S.l k).opn ≤ 1000000000000000) :
    Calls Tryz.prog 167 #[.pointer (some ⟨sb, 0, none⟩), o.val] w fun e w' => e = .returned (.int .i64 (rentE S o)) ∧ Chg Non w w' := by
  obtain ⟨n, hn⟩ : ∃ n, S.l.length = n := ⟨_, rfl⟩
  obtain ⟨a, c, hv⟩ := row_slice h.lrow
  have hN : ∀ n w, Calls Tryz.prog 198 #[.int .i64 n] w fun e w' => e = .returned (.bool (numB n)) ∧ w' = w := rnumber_any
  have HN := hide hN
  have HS : Hid (∀ W, Chg Non w W → Calls Tryz.prog 142 #[.pointer (some ⟨sb, 0, none⟩), .string o.sym] W fun e w' => e = .returned (.bool (symB S.sy o.sym)) ∧ w' = W) := fun W k => rsymbol_any base sb S m o.sym W (h.kept0 k) hsy
  have HO : Hid (∀ W, Chg Non w W → Calls Tryz.prog 141 #[.pointer (some ⟨sb, 0, none⟩), .int .i64 o.id] W fun e w' => e = .returned (.int .i64 (oi (ordX S.l o.id))) ∧ w' = W) := fun W k => rorder_any base sb S m o.id W (h.kept0 k) hlen
  have HB : Hid (∀ W, Chg Non w W → Calls Tryz.prog 199 #[.pointer (some ⟨sb, 0, none⟩), o.val] W fun e w' => e = .returned (.int .i64 (oi (bestR S.l o))) ∧ Chg Non W w') := fun W k => rbest_any base sb S m o W (h.kept0 k) hlen
  have HF : Hid (∀ W, Chg Non w W → Calls Tryz.prog 200 #[.pointer (some ⟨sb, 0, none⟩), o.val] W fun e w' => e = .returned (.int .i64 (offX S.l o S.l.length)) ∧ Chg Non W w') := fun W k => roffered_any base sb S m o W (h.kept0 k) hlen hop
  have hcs := enter_cases o (ordX S.l o.id).isSome (symB S.sy o.sym) (decide (200 ≤ S.l.length)) (bestR S.l o).isSome (decide (offX S.l o S.l.length < o.qty))
  change (numB o.id = false ∧ rentE S o = 1) ∨ _ at hcs
  obtain ⟨E, hE⟩ : ∃ E, rentE S o = E := ⟨_, rfl⟩
  rw [show enterE o (ordX S.l o.id).isSome (symB S.sy o.sym) (decide (200 ≤ S.l.length)) (bestR S.l o).isSome (decide (offX S.l o S.l.length < o.qty)) = E from hE, hE] at hcs
  rw [hE]
  rw [hn] at hv hlen hcs HF
  have v1 : w.cell? ⟨sb, 1, none⟩ = some (.slice a n c) := by rw [← hv]; exact h.blk.cell 1
  have lsb := h.blk.lt
  obtain ⟨tk, htk⟩ : ∃ x, oi (ordX S.l o.id) = x := ⟨_, rfl⟩
  obtain ⟨bs, hbs⟩ : ∃ x, oi (bestR S.l o) = x := ⟨_, rfl⟩
  obtain ⟨th, hth⟩ : ∃ x, symB S.sy o.sym = x := ⟨_, rfl⟩
  obtain ⟨of, hof⟩ : ∃ x, offX S.l o n = x := ⟨_, rfl⟩
  rw [← oi_ge, ← oi_ge, htk, hbs, hth, hof] at hcs
  rw [htk] at HO
  rw [hbs] at HB
  rw [hth] at HS
  rw [hof] at HF
  clear h hv hE hn hop hsy htk hbs hth hof hN
  obtain ⟨id, owner, sym, side, kind, price, qty⟩ := o
  simp only [Ask.val] at HB HF hcs HS HO ⊢
  have hdn : decide (200 ≤ n) = decide ((200 : Int) ≤ (n : Int)) := by simp; omega
  rw [hdn] at hcs
  clear hdn
  rcases hcs with ⟨a1, rfl⟩ | ⟨a1, ⟨a2, rfl⟩ | ⟨a2, ⟨a3 | ⟨a3, a4⟩ | ⟨a3, a4, a5⟩ | ⟨a3, a4, a5, a6⟩, rfl⟩ | ⟨⟨a3, a4, a5, a6⟩, ⟨a7 | ⟨a7, a8⟩, rfl⟩ | ⟨⟨a7, a8⟩, ⟨a9 | ⟨a9, a10⟩, rfl⟩ | ⟨a9, a10, ⟨a11, rfl⟩ | ⟨a11, ⟨a12, rfl⟩ | ⟨a12, ⟨a13, a14, rfl⟩ | ⟨a13, a14, rfl⟩ | ⟨a13, a14, rfl⟩ | ⟨a13, a14, rfl⟩ | ⟨a13, a14, rfl⟩⟩⟩⟩⟩⟩⟩⟩
  all_goals by_cases hk5 : kind = 5
  all_goals first
    | (have e5 : (kind == 5) = true := by simp [hk5]
       try (have e10 := a10; simp only [priceB, if_pos hk5] at e10; clear a10)
       try (exfalso; omega))
    | (have e5 : (kind == 5) = false := by simp [hk5]
       try (have e10 := a10; simp only [priceB, if_neg hk5] at e10; clear a10))
  all_goals clear hk5
  all_goals first
    | (have x4 : kind = 4 := a13
       have e4 : (kind == 4) = true := by simp [x4]
       have e3 : (kind == 3) = false := by simp [x4]
       clear a13 x4
       go_enter Tryz.func167, Tryz.ntmps167
       go_wp2_with (first
         | (go_at_call 198; refine (unhide HN _ _).mono ?_; rintro e w' ⟨rfl, rfl⟩)
         | (go_at_call 142; refine (unhide HS _ ?cc).mono ?_; (case cc => exact (Chg.refl _ _).alloc _); rintro e w' ⟨rfl, rfl⟩)
         | (go_at_call 141; refine (unhide HO _ ?cc).mono ?_; (case cc => exact (Chg.refl _ _).alloc _); rintro e w' ⟨rfl, rfl⟩)
         | (go_at_call 199; refine (unhide HB _ ?cc).mono ?_; (case cc => exact (Chg.refl _ _).alloc _); rintro e w2 ⟨rfl, k2⟩; have b4 := k2.cell (p := ⟨w.heap.size, 4, none⟩) ((Blk.new w _ _).cell 4) (fun x => x); have HK2 := hide k2; clear k2))
       first
         | (go_ret
            exact ⟨rfl, ((Chg.refl _ _).alloc _).trans (unhide HK2)⟩)
         | (go_quiet (fail)
            go_wp2
            go_ret
            exact ⟨rfl, (((Chg.refl _ _).alloc _).trans (unhide HK2)).drewN _⟩))
    | (have x3 : kind = 3 := a13
       have e4 : (kind == 4) = false := by simp [x3]
       have e3 : (kind == 3) = true := by simp [x3]
       clear a13 x3
       go_enter Tryz.func167, Tryz.ntmps167
       go_wp2_with (first
         | (go_at_call 198; refine (unhide HN _ _).mono ?_; rintro e w' ⟨rfl, rfl⟩)
         | (go_at_call 142; refine (unhide HS _ ?cc).mono ?_; (case cc => exact (Chg.refl _ _).alloc _); rintro e w' ⟨rfl, rfl⟩)
         | (go_at_call 141; refine (unhide HO _ ?cc).mono ?_; (case cc => exact (Chg.refl _ _).alloc _); rintro e w' ⟨rfl, rfl⟩))
       go_region_with (first
         | (go_at_call 200; refine (unhide HF _ ?cc).mono ?_; (case cc => repeat (first | exact Chg.refl _ _ | refine Chg.drew ?_ | refine Chg.drewN ?_ _ | refine Chg.alloc ?_ _)); rintro e w2 ⟨rfl, k2⟩; have b6 := k2.cell (p := ⟨w.heap.size, 6, none⟩) ((Blk.new w _ _).cell 6) (fun x => x); have HK2 := hide (Chg.trans (a := w) (by repeat (first | exact Chg.refl _ _ | refine Chg.drew ?_ | refine Chg.drewN ?_ _ | refine Chg.alloc ?_ _)) k2); clear k2))
       all_goals
         go_wp2
         go_ret
         exact ⟨rfl, by repeat (first | exact unhide HK2 | refine Chg.drew ?_ | refine Chg.drewN ?_ _)⟩)
    | (have e4 : (kind == 4) = false := by simpa using a13
       have e3 : (kind == 3) = false := by simpa using a14
       clear a13 a14
       go_enter Tryz.func167, Tryz.ntmps167
       go_wp2_with (first
         | (go_at_call 198; refine (unhide HN _ _).mono ?_; rintro e w' ⟨rfl, rfl⟩)
         | (go_at_call 142; refine (unhide HS _ ?cc).mono ?_; (case cc => exact (Chg.refl _ _).alloc _); rintro e w' ⟨rfl, rfl⟩)
         | (go_at_call 141; refine (unhide HO _ ?cc).mono ?_; (case cc => exact (Chg.refl _ _).alloc _); rintro e w' ⟨rfl, rfl⟩))
       go_quiet (fail)
       go_wp2
       go_ret
       exact ⟨rfl, ((Chg.refl _ _).alloc _).drewN _⟩)
    | (go_enter Tryz.func167, Tryz.ntmps167
       go_wp2_with (first
         | (go_at_call 198; refine (unhide HN _ _).mono ?_; rintro e w' ⟨rfl, rfl⟩)
         | (go_at_call 142; refine (unhide HS _ ?cc).mono ?_; (case cc => exact (Chg.refl _ _).alloc _); rintro e w' ⟨rfl, rfl⟩)
         | (go_at_call 141; refine (unhide HO _ ?cc).mono ?_; (case cc => exact (Chg.refl _ _).alloc _); rintro e w' ⟨rfl, rfl⟩))
       all_goals
         go_ret
         exact ⟨rfl, (Chg.refl _ _).alloc _⟩)

end Go.Proofs.YtigaphnafnpfnaaGreatDoor

