import Derived.Test.YtigaphnafnpfnaaGreatDoorPVC3
import Derived.Test.YtigaphnafnpfnaaGreatDoorPVX6
set_option linter.unusedVariables false
set_option linter.unusedSimpArgs false
/- Why an order may not come: all reasons, at any order. -/
namespace Go.Proofs.YtigaphnafnpfnaaGreatDoor
open Go.RowKit Go.Maps
attribute [local go_sem ↓] Go.wp_at_zero Go.wp_at_succ

theorem early_cases (o : Ask) (taken there full cross whole : Bool) :
    (numB o.id = false ∧ enterE o taken there full cross whole = 1) ∨ (numB o.id = true ∧ taken = true ∧ enterE o taken there full cross whole = 2) ∨ (numB o.id = true ∧ taken = false ∧ (
    (ownB' o.owner = false ∧ enterE o taken there full cross whole = 4) ∨ (ownB' o.owner = true ∧ sideB o.side = false ∧ enterE o taken there full cross whole = 4) ∨ (ownB' o.owner = true ∧ sideB o.side = true ∧ (
    (kindB o.kind = false ∧ enterE o taken there full cross whole = 5) ∨ (kindB o.kind = true ∧ (
    (numB o.qty = false ∧ enterE o taken there full cross whole = 4) ∨ (numB o.qty = true ∧ priceB o.kind o.price = false ∧ enterE o taken there full cross whole = 4) ∨ (numB o.qty = true ∧ priceB o.kind o.price = true ∧ (
    (there = false ∧ enterE o taken there full cross whole = 6) ∨ (there = true ∧ full = true ∧ enterE o taken there full cross whole = 7) ∨ (there = true ∧ full = false ∧ enterE o taken there full cross whole = if o.kind = 4 ∧ cross = true then 8 else if o.kind = 3 ∧ whole = true then 9 else 0))))))))) := by
  unfold enterE
  cases numB o.id <;> cases taken <;> cases ownB' o.owner <;> cases sideB o.side <;> cases kindB o.kind <;> cases numB o.qty <;> cases priceB o.kind o.price <;> cases there <;> cases full <;> simp

set_option maxHeartbeats 16000000 in
set_option maxRecDepth 100000 in
/-- something is wrong with the order itself -/
theorem refusal_early (bv bm bo : Nat) (V : Ven) (o : Ask) (w : World) (R : Rep w bv bm bo V) (hlen : o.sym.size ≤ maxLen) (hid : (Lit.int .i64 o.id).wf = true) (cross whole there : Bool) (hth : (there = true ∧ ∃ i, i < V.nb ∧ (V.B i).sym = o.sym) ∨ (there = false ∧ ∀ i, i < V.nb → (V.B i).sym ≠ o.sym))
    (hE : there = false ∨ 200 ≤ V.no ∨ enterE o (V.oid o.id).isSome there (decide (200 ≤ V.no)) cross whole ≠ if o.kind = 4 ∧ cross = true then 8 else if o.kind = 3 ∧ whole = true then 9 else 0) :
    Calls Tryz.prog 111 #[.pointer (some ⟨bv, 0, none⟩), o.val] w fun e w' => e = .returned (.int .i64 (enterE o (V.oid o.id).isSome there (decide (200 ≤ V.no)) cross whole)) ∧ Chg Non w w' := by
  obtain ⟨fB, mB, fB1, fB2⟩ := R.books
  obtain ⟨fO, mO, fO1⟩ := R.orders
  have hc := early_cases o (V.oid o.id).isSome there (decide (200 ≤ V.no)) cross whole
  obtain ⟨E, hEE⟩ : ∃ E, enterE o (V.oid o.id).isSome there (decide (200 ≤ V.no)) cross whole = E := ⟨_, rfl⟩
  rw [hEE] at hc hE ⊢
  obtain ⟨oB, hoB, hB1⟩ : ∃ oB, fB (sl o.sym) = oB ∧ ((there = true ∧ ∃ b, oB = some b) ∨ (there = false ∧ oB = none)) := by
    refine ⟨_, rfl, ?_⟩
    rcases hth with ⟨ht, i, hi, hs⟩ | ⟨ht, hn⟩
    · left; exact ⟨ht, V.bk i, by rw [← hs]; exact fB1 i hi⟩
    · right; refine ⟨ht, ?_⟩
      cases hx : fB (sl o.sym) with
      | none => rfl
      | some b => obtain ⟨i, hi, _, e⟩ := fB2 _ _ hx; exact absurd e (hn i hi)
  obtain ⟨oO, hoO⟩ : ∃ oO, V.oid o.id = oO := ⟨_, rfl⟩
  have hlo : fO (.int .i64 o.id) = oO := by rw [fO1, hoO]
  rw [hoO] at hc
  obtain ⟨id, owner, sym, side, kind, price, qty⟩ := o
  simp only at hlen hid hoB hlo hc hE
  simp only [Ask.val]
  obtain ⟨w1, hw1⟩ : ∃ w1, w1 = w.alloc (.cells #[.int .i64 id, .int .i64 owner, .string sym, .int .i64 side, .int .i64 kind, .int .i64 price, .int .i64 qty] 52) := ⟨_, rfl⟩
  have k1 : Chg Non w w1 := by rw [hw1]; exact (Chg.refl Non w).alloc _
  have hbx : Blk w1 w.heap.size #[.int .i64 id, .int .i64 owner, .string sym, .int .i64 side, .int .i64 kind, .int .i64 price, .int .i64 qty] 52 := by rw [hw1]; exact Blk.new w _ _
  have L1 : ∀ q, (Instr.lookup 94 (.map (some bm)) (.string sym) false).run Tryz.prog (w1.drewN q) = .ok (ptrO oB) (w1.drewN q) := fun q => by
    rw [(mB.kept (k1.drewN q) (fun x => x)).look law9 Tryz.underlying94 (zero70 _) (WideMaps.keyOf_string_mk Tryz.underlying9 hlen)]
    show _ = Result.ok (ptrO oB) _
    rw [← hoB]; rfl
  have L2 : ∀ q, (Instr.lookup 95 (.map (some bo)) (.int .i64 id) false).run Tryz.prog (w1.drewN q) = .ok (ptrO oO) (w1.drewN q) := fun q => by
    rw [(mO.kept (k1.drewN q) (fun x => x)).look law3 Tryz.underlying95 (zero80 _) (keyOf_int_mk Tryz.underlying3 hid)]
    show _ = Result.ok (ptrO oO) _
    rw [← hlo]
  have L3 : ∀ q, (Builtin.len_ #[95] 3 #[.map (some bo)]).run Tryz.prog (w1.drewN q) = .ok (.int .i64 V.no) (w1.drewN q) := fun q => (mO.kept (k1.drewN q) (fun x => x)).len Tryz.underlying95 _
  have v0 : w1.cell? ⟨bv, 0, none⟩ = some (.map (some bm)) := (k1.blk R.ven (fun x => x)).cell 0
  have v1 : w1.cell? ⟨bv, 1, none⟩ = some (.map (some bo)) := (k1.blk R.ven (fun x => x)).cell 1
  have x0 : w1.cell? ⟨w.heap.size, 0, none⟩ = some (.int .i64 id) := hbx.cell 0
  have x1 : w1.cell? ⟨w.heap.size, 1, none⟩ = some (.int .i64 owner) := hbx.cell 1
  have x2 : w1.cell? ⟨w.heap.size, 2, none⟩ = some (.string sym) := hbx.cell 2
  have x3 : w1.cell? ⟨w.heap.size, 3, none⟩ = some (.int .i64 side) := hbx.cell 3
  have x4 : w1.cell? ⟨w.heap.size, 4, none⟩ = some (.int .i64 kind) := hbx.cell 4
  have x5 : w1.cell? ⟨w.heap.size, 5, none⟩ = some (.int .i64 price) := hbx.cell 5
  have x6 : w1.cell? ⟨w.heap.size, 6, none⟩ = some (.int .i64 qty) := hbx.cell 6
  have HW := hide hw1
  have HK := hide k1
  obtain ⟨N, hN⟩ : ∃ N, V.no = N := ⟨_, rfl⟩
  rw [hN] at hc hE L3
  clear hw1 k1 hbx hoB hlo fB1 fB2 fO1 mB mO hid hEE hoO hth R hN
  rcases hc with ⟨h1, rfl⟩ | ⟨h1, h2, rfl⟩ | ⟨h1, h2, hc⟩
  · clear hE hB1 L2 L3
    go_enter Tryz.func111, Tryz.ntmps111
    go_wp2
    rw [← unhide HW]
    go_quiet (fail)
    go_wp2_with (first | (go_at_call 68; refine (isNumber_any _ _).mono ?_; rintro e w' ⟨rfl, rfl⟩))
    go_ret
    exact ⟨rfl, (unhide HK).drewN _⟩
  · obtain ⟨b, rfl⟩ : ∃ b, oO = some b := by cases oO <;> simp at h2 ⊢
    simp only [ptrO] at L2
    clear hE hB1 L3
    go_enter Tryz.func111, Tryz.ntmps111
    go_wp2
    rw [← unhide HW]
    go_quiet (fail)
    go_wp2_with (first | (go_at_call 68; refine (isNumber_any _ _).mono ?_; rintro e w' ⟨rfl, rfl⟩))
    go_quiet (fail)
    go_wp2
    go_ret
    exact ⟨rfl, ((unhide HK).drewN _).drewN _⟩
  · obtain rfl : oO = none := by cases oO <;> simp at h2 ⊢
    simp only [ptrO] at L2
    rcases hc with ⟨h3, rfl⟩ | ⟨h3, h4, rfl⟩ | ⟨h3, h4, ⟨h5, rfl⟩ | ⟨h5, ⟨h6, rfl⟩ | ⟨h6, h7, rfl⟩ | ⟨h6, h7, ⟨h8, rfl⟩ | ⟨h8, h9, rfl⟩ | ⟨h8, h9, rfl⟩⟩⟩⟩
    case inr.inr.inr.inr.inr.inr.inr.inr.inl =>
      obtain ⟨b, rfl⟩ : ∃ b, oB = some b := by
        rcases hB1 with ⟨_, hx⟩ | ⟨hx, _⟩
        · exact hx
        · rw [h8] at hx; exact absurd hx (by decide)
      have e8 : decide ((200 : Int) ≤ (N : Int)) = true := by simp at h9 ⊢; omega
      simp only [ptrO] at L1
      clear hE hB1 h9 h8
      go_enter Tryz.func111, Tryz.ntmps111
      go_wp2
      rw [← unhide HW]
      go_quiet (fail)
      go_wp2_with (first | (go_at_call 68; refine (isNumber_any _ _).mono ?_; rintro e w' ⟨rfl, rfl⟩) | (go_at_call 144; refine (isOwner_any _ _).mono ?_; rintro e w' ⟨rfl, rfl⟩) | (go_at_call 47; refine (isSide_any _ _).mono ?_; rintro e w' ⟨rfl, rfl⟩) | (go_at_call 145; refine (isKind_any _ _).mono ?_; rintro e w' ⟨rfl, rfl⟩) | (go_at_call 146; refine (isPriceOf_any _ _ _).mono ?_; rintro e w' ⟨rfl, rfl⟩))
      go_quiet (fail)
      go_wp2_with (first | (go_at_call 68; refine (isNumber_any _ _).mono ?_; rintro e w' ⟨rfl, rfl⟩) | (go_at_call 144; refine (isOwner_any _ _).mono ?_; rintro e w' ⟨rfl, rfl⟩) | (go_at_call 47; refine (isSide_any _ _).mono ?_; rintro e w' ⟨rfl, rfl⟩) | (go_at_call 145; refine (isKind_any _ _).mono ?_; rintro e w' ⟨rfl, rfl⟩) | (go_at_call 146; refine (isPriceOf_any _ _ _).mono ?_; rintro e w' ⟨rfl, rfl⟩))
      go_ret
      exact ⟨rfl, (unhide HK).drewN _⟩
    case inr.inr.inr.inr.inr.inr.inr.inr.inr =>
      exfalso
      rcases hE with hx | hx | hx
      · rw [h8] at hx; exact absurd hx (by decide)
      · simp at h9; omega
      · exact hx rfl
    case inr.inr.inr.inr.inr.inr.inr.inl =>
      obtain rfl : oB = none := by
        rcases hB1 with ⟨hx, _⟩ | ⟨_, hx⟩
        · rw [h8] at hx; exact absurd hx (by decide)
        · exact hx
      simp only [ptrO] at L1
      clear hE hB1 h8
      go_enter Tryz.func111, Tryz.ntmps111
      go_wp2
      rw [← unhide HW]
      go_quiet (fail)
      go_wp2_with (first | (go_at_call 68; refine (isNumber_any _ _).mono ?_; rintro e w' ⟨rfl, rfl⟩) | (go_at_call 144; refine (isOwner_any _ _).mono ?_; rintro e w' ⟨rfl, rfl⟩) | (go_at_call 47; refine (isSide_any _ _).mono ?_; rintro e w' ⟨rfl, rfl⟩) | (go_at_call 145; refine (isKind_any _ _).mono ?_; rintro e w' ⟨rfl, rfl⟩) | (go_at_call 146; refine (isPriceOf_any _ _ _).mono ?_; rintro e w' ⟨rfl, rfl⟩))
      go_quiet (fail)
      go_wp2_with (first | (go_at_call 68; refine (isNumber_any _ _).mono ?_; rintro e w' ⟨rfl, rfl⟩) | (go_at_call 144; refine (isOwner_any _ _).mono ?_; rintro e w' ⟨rfl, rfl⟩) | (go_at_call 47; refine (isSide_any _ _).mono ?_; rintro e w' ⟨rfl, rfl⟩) | (go_at_call 145; refine (isKind_any _ _).mono ?_; rintro e w' ⟨rfl, rfl⟩) | (go_at_call 146; refine (isPriceOf_any _ _ _).mono ?_; rintro e w' ⟨rfl, rfl⟩))
      go_ret
      exact ⟨rfl, (unhide HK).drewN _⟩
    all_goals
      clear hE hB1
      go_enter Tryz.func111, Tryz.ntmps111
      go_wp2
      rw [← unhide HW]
      go_quiet (fail)
      go_wp2_with (first | (go_at_call 68; refine (isNumber_any _ _).mono ?_; rintro e w' ⟨rfl, rfl⟩) | (go_at_call 144; refine (isOwner_any _ _).mono ?_; rintro e w' ⟨rfl, rfl⟩) | (go_at_call 47; refine (isSide_any _ _).mono ?_; rintro e w' ⟨rfl, rfl⟩) | (go_at_call 145; refine (isKind_any _ _).mono ?_; rintro e w' ⟨rfl, rfl⟩) | (go_at_call 146; refine (isPriceOf_any _ _ _).mono ?_; rintro e w' ⟨rfl, rfl⟩))
      go_quiet (fail)
      go_wp2_with (first | (go_at_call 68; refine (isNumber_any _ _).mono ?_; rintro e w' ⟨rfl, rfl⟩) | (go_at_call 144; refine (isOwner_any _ _).mono ?_; rintro e w' ⟨rfl, rfl⟩) | (go_at_call 47; refine (isSide_any _ _).mono ?_; rintro e w' ⟨rfl, rfl⟩) | (go_at_call 145; refine (isKind_any _ _).mono ?_; rintro e w' ⟨rfl, rfl⟩) | (go_at_call 146; refine (isPriceOf_any _ _ _).mono ?_; rintro e w' ⟨rfl, rfl⟩))
      go_ret
      exact ⟨rfl, (unhide HK).drewN _⟩

end Go.Proofs.YtigaphnafnpfnaaGreatDoor

