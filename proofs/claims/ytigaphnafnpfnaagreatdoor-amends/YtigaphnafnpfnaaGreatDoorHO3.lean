import Derived.Test.YtigaphnafnpfnaaGreatDoorHO1
/- player.order -/
set_option linter.unusedVariables false
set_option linter.unusedSimpArgs false
namespace Go.Proofs.YtigaphnafnpfnaaGreatDoor
open Go.RowKit Go.Maps
attribute [local go_sem ↓] Go.wp_at_zero Go.wp_at_succ

theorem kindOf_bound (j : Nat) (h : j < 9) : 0 ≤ kindOf j ∧ kindOf j ≤ 5 ∧ (kindOf j = 5 ↔ j = 8) := by
  unfold kindOf
  split <;> omega

/-- the order is done: what is left of player.order -/
theorem order_end {D : Nat} {ao : Option Addr} {len cap : Nat} {zs : Nat → Int} {base P bv n : Nat} {acts : Int} {w W : World} (h : Rolls D ao len cap zs base P bv n acts w W) {Bo : Nat} {o : Ask} (hb : Blk W Bo (askC o) 52) (hne : Bo ≠ D) (hlt : w.heap.size < Bo) (hok : ∃ i t, i < 2 ∧ t < 2 ∧ AskOK o n i t) :
    ∃ W', W' = (((((((W.setCell ⟨w.heap.size, 0, none⟩ (.int .i64 o.id)).setCell ⟨w.heap.size, 1, none⟩ (.int .i64 o.owner)).setCell ⟨w.heap.size, 2, none⟩ (.string o.sym)).setCell ⟨w.heap.size, 3, none⟩ (.int .i64 o.side)).setCell ⟨w.heap.size, 4, none⟩ (.int .i64 o.kind)).setCell ⟨w.heap.size, 5, none⟩ (.int .i64 o.price)).setCell ⟨w.heap.size, 6, none⟩ (.int .i64 o.qty)) ∧ Blk W' w.heap.size (askC o) 52 ∧ OrdPost D ao len cap zs base n w o.val W' := by
  refine ⟨_, rfl, ?_, o, rfl, hok, ?_, ?_⟩
  · exact ((((((h.res.set 0 _).set 1 _).set 2 _).set 3 _).set 4 _).set 5 _).set 6 _
  · have := h.dc.bD
    have hd := h.dw
    refine h.dc.keep (S := fun x => x = w.heap.size) ((((((((Chg.refl (fun x => x = w.heap.size) W).setCell (p := ⟨w.heap.size, 0, none⟩) (.inl rfl) _).setCell (p := ⟨w.heap.size, 1, none⟩) (.inl rfl) _).setCell (p := ⟨w.heap.size, 2, none⟩) (.inl rfl) _).setCell (p := ⟨w.heap.size, 3, none⟩) (.inl rfl) _).setCell (p := ⟨w.heap.size, 4, none⟩) (.inl rfl) _).setCell (p := ⟨w.heap.size, 5, none⟩) (.inl rfl) _).setCell (p := ⟨w.heap.size, 6, none⟩) (.inl rfl) _) (by omega) (fun x e => by omega)
  · exact ((((((h.chg.setCell (.inr (Nat.le_refl _)) _).setCell (.inr (Nat.le_refl _)) _).setCell (.inr (Nat.le_refl _)) _).setCell (.inr (Nat.le_refl _)) _).setCell (.inr (Nat.le_refl _)) _).setCell (.inr (Nat.le_refl _)) _).setCell (.inr (Nat.le_refl _)) _

set_option maxRecDepth 100000 in
set_option maxHeartbeats 8000000 in
theorem order_ok (D : Nat) (ao : Option Addr) (len cap : Nat) (zs : Nat → Int) (base P bv n : Nat) (hn : n < 1000000) : OrderOK D ao len cap zs base P bv n := by
  intro w acts hdc hply
  have hR0 : Rolls D ao len cap zs base P bv n acts w (w.alloc (.cells #[.int .i64 0, .int .i64 0, .string ⟨#[]⟩, .int .i64 0, .int .i64 0, .int .i64 0, .int .i64 0] 52)) := by
    obtain ⟨a, ha, hd⟩ := hdc.dice
    exact ⟨hdc.keep0 ((Chg.refl Non w).alloc _), hply.alloc _, Blk.new w _ _, (Chg.refl _ w).alloc _, (hply.alloc _).cell 1, hd.lt⟩
  have HR := hide hR0
  clear hR0 hdc hply
  go_enter Tryz.func63, Tryz.ntmps63
  go_wp2
  refine wp_region_any (by kernel_rfl) ?_
  change wpAny _ _ _ _ _ _ _ (World.drew _)
  refine wpAny_take (i := 0) (v := .pointer (some ⟨P, 0, none⟩)) rfl (by kernel_rfl) (by kernel_rfl) (by kernel_rfl) (fun _ _ _ h => h) (Or.inl ⟨by rfl, fun w => by go_simp⟩) ?_
  refine wpAny_take (i := 1) (v := .pointer (some ⟨P, 0, none⟩)) rfl (by kernel_rfl) (by kernel_rfl) (by kernel_rfl) (fun _ _ _ h => h) (Or.inl ⟨by rfl, fun w => by go_simp⟩) ?_
  refine wpAny_take (i := 2) (v := .pointer (some ⟨P, 1, none⟩)) rfl (by kernel_rfl) (by kernel_rfl) (by kernel_rfl) (fun _ _ _ h => h) (Or.inl ⟨by rfl, fun w => by go_simp⟩) ?_
  refine wpAny_take (i := 5) (v := .pointer (some ⟨D, 0, none⟩)) rfl (by kernel_rfl) (by kernel_rfl) (by kernel_rfl) (fun _ _ _ h => h) (Or.inl ⟨by rfl, fun w => by go_simp⟩) ?_
  refine wpAny_take (i := 7) (v := .pointer (some ⟨D, 0, none⟩)) rfl (by kernel_rfl) (by kernel_rfl) (by kernel_rfl) (fun _ _ _ h => h) (Or.inl ⟨by rfl, fun w => by go_simp⟩) ?_
  refine wpAny_take (i := 10) (v := .pointer (some ⟨D, 0, none⟩)) rfl (by kernel_rfl) (by kernel_rfl) (by kernel_rfl) (fun _ _ _ h => h) (Or.inl ⟨by rfl, fun w => by go_simp⟩) ?_
  refine wpAny_take (i := 14) (v := .pointer (some ⟨D, 0, none⟩)) rfl (by kernel_rfl) (by kernel_rfl) (by kernel_rfl) (fun _ _ _ h => h) (Or.inl ⟨by rfl, fun w => by go_simp⟩) ?_
  refine wpAny_take (i := 17) (v := .pointer (some ⟨D, 0, none⟩)) rfl (by kernel_rfl) (by kernel_rfl) (by kernel_rfl) (fun _ _ _ h => h) (Or.inl ⟨by rfl, fun w => by go_simp⟩) ?_
  refine st_00000 D ao len cap zs base P bv n acts w _ ⟨?_, fun _ a d v _ h => by cases d <;> exact h⟩ _ (unhide HR).drew
  intro v1 v2 v3 v4 v5 Bs Bo W h1 h2 h3 h4 h5 hr hne hlt hb
  have e1 : IntKind.i64.wrap ((n : Int) + 1) = (n : Int) + 1 := by rw [IntKind.wrap_i64]; omega
  have e2 : IntKind.i64.wrap (95 + (v4 : Int)) = 95 + (v4 : Int) := by rw [IntKind.wrap_i64]; omega
  have e3 : IntKind.i64.wrap (1 + (v5 : Int)) = 1 + (v5 : Int) := by rw [IntKind.wrap_i64]; omega
  rw [e1, e2, e3] at hb ⊢
  have hkb := kindOf_bound v3 (by omega)
  obtain ⟨kd, hkd⟩ : ∃ kd, kd = kindOf v3 := ⟨_, rfl⟩
  rw [← hkd] at hb hkb ⊢
  have HRo := hide (roll_any D ao len cap zs base P bv n acts w W 4 hr (by decide) (by decide))
  have HB := hide hb
  have HNe := hide hne
  have HLt := hide hlt
  have HKb := hide hkb
  clear hr hb hne hlt e1 e2 e3 hkd hkb HR
  go_wp2_with fail
  refine (unhide HRo).mono ?_
  rintro e w2 ⟨v6, rfl, h6, hr, hk⟩
  have hb := hk.blk (unhide HB) (unhide HNe)
  have q0 : w2.cell? ⟨Bo, 0, none⟩ = some (.int .i64 ((n : Int) + 1)) := hb.cell 0
  have q1 : w2.cell? ⟨Bo, 1, none⟩ = some (.int .i64 (v1 : Int)) := hb.cell 1
  have q2 : w2.cell? ⟨Bo, 2, none⟩ = some (.string ⟨#[65]⟩) := hb.cell 2
  have q3 : w2.cell? ⟨Bo, 3, none⟩ = some (.int .i64 (v2 : Int)) := hb.cell 3
  have q4 : w2.cell? ⟨Bo, 4, none⟩ = some (.int .i64 kd) := hb.cell 4
  have q5 : w2.cell? ⟨Bo, 5, none⟩ = some (.int .i64 (95 + (v4 : Int))) := hb.cell 5
  have q6 : w2.cell? ⟨Bo, 6, none⟩ = some (.int .i64 (1 + (v5 : Int))) := hb.cell 6
  have g2 := hb.frozen 2
  have g5 := hb.frozen 5
  have r0 : w2.cell? ⟨w.heap.size, 0, none⟩ = some (.int .i64 0) := hr.res.cell 0
  have r1 : w2.cell? ⟨w.heap.size, 1, none⟩ = some (.int .i64 0) := hr.res.cell 1
  have r2 : w2.cell? ⟨w.heap.size, 2, none⟩ = some (.string ⟨#[]⟩) := hr.res.cell 2
  have r3 : w2.cell? ⟨w.heap.size, 3, none⟩ = some (.int .i64 0) := hr.res.cell 3
  have r4 : w2.cell? ⟨w.heap.size, 4, none⟩ = some (.int .i64 0) := hr.res.cell 4
  have r5 : w2.cell? ⟨w.heap.size, 5, none⟩ = some (.int .i64 0) := hr.res.cell 5
  have r6 : w2.cell? ⟨w.heap.size, 6, none⟩ = some (.int .i64 0) := hr.res.cell 6
  have s0 := hr.res.frozen 0
  have s1 := hr.res.frozen 1
  have s2 := hr.res.frozen 2
  have s3 := hr.res.frozen 3
  have s4 := hr.res.frozen 4
  have s5 := hr.res.frozen 5
  have s6 := hr.res.frozen 6
  have nb : Bo ≠ w.heap.size := by have := unhide HLt; omega
  have nb' : w.heap.size ≠ Bo := fun e => nb e.symm
  have H2 := hide hr
  have HB2 := hide hb
  clear hr hb hk HB HRo
  by_cases hz : v6 = 0 <;> by_cases h5 : kd = 5
  · subst hz
    subst h5
    have hs1 := hide ((unhide H2).set (unhide HB2) (unhide HLt) 2 (.string ⟨#[206, 145, 206, 169]⟩))
    have hs2 := hide ((unhide hs1).1.set (unhide hs1).2 (unhide HLt) 5 (.int .i64 0))
    have hE := hide (order_end (unhide hs2).1 (o := (⟨(n : Int) + 1, (v1 : Int), ⟨#[206, 145, 206, 169]⟩, (v2 : Int), 5, 0, 1 + (v5 : Int)⟩ : Ask)) (unhide hs2).2 (unhide HNe) (unhide HLt) ⟨1, v2, by decide, by omega, ⟨rfl, ⟨by show (0 : Int) ≤ (v1 : Int); omega, by show (v1 : Int) ≤ 9; omega⟩, rfl, rfl, by have := unhide HKb; exact ⟨by show (0 : Int) ≤ 5; omega, by show 5 ≤ (5 : Int); omega⟩, by simp [priceB], ⟨by show (1 : Int) ≤ 1 + (v5 : Int); omega, by show 1 + (v5 : Int) ≤ (9 : Int); omega⟩⟩⟩)
    go_wp2
    obtain ⟨W3, hW3, hB3, hP3⟩ := unhide hE
    subst hW3
    exact bodyPost_ret (res53 _ w.heap.size _ (⟨(n : Int) + 1, (v1 : Int), ⟨#[206, 145, 206, 169]⟩, (v2 : Int), 5, 0, 1 + (v5 : Int)⟩ : Ask) rfl hB3) rfl ⟨_, rfl, hP3⟩
  · subst hz
    have ek : decide (kd = 5) = false := by simp; omega
    have hs1 := hide ((unhide H2).set (unhide HB2) (unhide HLt) 2 (.string ⟨#[206, 145, 206, 169]⟩))
    have hE := hide (order_end (unhide hs1).1 (o := (⟨(n : Int) + 1, (v1 : Int), ⟨#[206, 145, 206, 169]⟩, (v2 : Int), kd, 95 + (v4 : Int), 1 + (v5 : Int)⟩ : Ask)) (unhide hs1).2 (unhide HNe) (unhide HLt) ⟨1, v2, by decide, by omega, ⟨rfl, ⟨by show (0 : Int) ≤ (v1 : Int); omega, by show (v1 : Int) ≤ 9; omega⟩, rfl, rfl, by have := unhide HKb; exact ⟨by show (0 : Int) ≤ kd; omega, by show kd ≤ (5 : Int); omega⟩, by show priceB kd (95 + (v4 : Int)) = true; unfold priceB numB; rw [if_neg h5]; simp; omega, ⟨by show (1 : Int) ≤ 1 + (v5 : Int); omega, by show 1 + (v5 : Int) ≤ (9 : Int); omega⟩⟩⟩)
    go_wp2
    obtain ⟨W3, hW3, hB3, hP3⟩ := unhide hE
    subst hW3
    exact bodyPost_ret (res53 _ w.heap.size _ (⟨(n : Int) + 1, (v1 : Int), ⟨#[206, 145, 206, 169]⟩, (v2 : Int), kd, 95 + (v4 : Int), 1 + (v5 : Int)⟩ : Ask) rfl hB3) rfl ⟨_, rfl, hP3⟩
  · have ez : decide ((v6 : Int) = 0) = false := by simp; omega
    subst h5
    have hs2 := hide ((unhide H2).set (unhide HB2) (unhide HLt) 5 (.int .i64 0))
    have hE := hide (order_end (unhide hs2).1 (o := (⟨(n : Int) + 1, (v1 : Int), ⟨#[65]⟩, (v2 : Int), 5, 0, 1 + (v5 : Int)⟩ : Ask)) (unhide hs2).2 (unhide HNe) (unhide HLt) ⟨0, v2, by decide, by omega, ⟨rfl, ⟨by show (0 : Int) ≤ (v1 : Int); omega, by show (v1 : Int) ≤ 9; omega⟩, rfl, rfl, by have := unhide HKb; exact ⟨by show (0 : Int) ≤ 5; omega, by show 5 ≤ (5 : Int); omega⟩, by simp [priceB], ⟨by show (1 : Int) ≤ 1 + (v5 : Int); omega, by show 1 + (v5 : Int) ≤ (9 : Int); omega⟩⟩⟩)
    go_wp2
    obtain ⟨W3, hW3, hB3, hP3⟩ := unhide hE
    subst hW3
    exact bodyPost_ret (res53 _ w.heap.size _ (⟨(n : Int) + 1, (v1 : Int), ⟨#[65]⟩, (v2 : Int), 5, 0, 1 + (v5 : Int)⟩ : Ask) rfl hB3) rfl ⟨_, rfl, hP3⟩
  · have ez : decide ((v6 : Int) = 0) = false := by simp; omega
    have ek : decide (kd = 5) = false := by simp; omega
    have hE := hide (order_end (unhide H2) (o := (⟨(n : Int) + 1, (v1 : Int), ⟨#[65]⟩, (v2 : Int), kd, 95 + (v4 : Int), 1 + (v5 : Int)⟩ : Ask)) (unhide HB2) (unhide HNe) (unhide HLt) ⟨0, v2, by decide, by omega, ⟨rfl, ⟨by show (0 : Int) ≤ (v1 : Int); omega, by show (v1 : Int) ≤ 9; omega⟩, rfl, rfl, by have := unhide HKb; exact ⟨by show (0 : Int) ≤ kd; omega, by show kd ≤ (5 : Int); omega⟩, by show priceB kd (95 + (v4 : Int)) = true; unfold priceB numB; rw [if_neg h5]; simp; omega, ⟨by show (1 : Int) ≤ 1 + (v5 : Int); omega, by show 1 + (v5 : Int) ≤ (9 : Int); omega⟩⟩⟩)
    go_wp2
    obtain ⟨W3, hW3, hB3, hP3⟩ := unhide hE
    subst hW3
    exact bodyPost_ret (res53 _ w.heap.size _ (⟨(n : Int) + 1, (v1 : Int), ⟨#[65]⟩, (v2 : Int), kd, 95 + (v4 : Int), 1 + (v5 : Int)⟩ : Ask) rfl hB3) rfl ⟨_, rfl, hP3⟩

end Go.Proofs.YtigaphnafnpfnaaGreatDoor

