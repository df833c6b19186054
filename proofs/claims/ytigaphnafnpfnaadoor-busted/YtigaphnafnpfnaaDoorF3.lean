/- takeBack -/
import Derived.Test.YtigaphnafnpfnaaDoorF2
set_option linter.unusedVariables false
set_option linter.unusedSimpArgs false
namespace Go.Proofs.YtigaphnafnpfnaaDoor
open Go.RowKit Go.Maps
attribute [local go_sem ↓] Go.wp_at_zero Go.wp_at_succ

theorem leave_memk {B : Bk} {om : Nat → Ord} {s i : Nat} (hinj : Inj (B.n s) (B.h s)) (hi : i < B.n s) : ∀ k, k < (B.leave om s i).n s → ∃ k', k' < B.n s ∧ (B.leave om s i).h s k = B.h s k' ∧ B.h s k' ≠ B.h s i := by
  intro k hk
  simp only [Bk.leave, upd_same] at hk ⊢
  have h0 : Inj (B.n s - 1 + 1) (B.h s) := by rw [show B.n s - 1 + 1 = B.n s by omega]; exact hinj
  obtain ⟨⟨k', hk', e⟩, hne⟩ := (mem_remove (lt := ltB om) (B.h s) i (n := B.n s - 1) (by omega) (h0.remove (by omega)) _).1 ⟨k, hk, rfl⟩
  exact ⟨k', by omega, e, by rw [← e]; exact hne⟩

/-- note, and which blocks have turned: those of the acts -/
theorem noteA (bv bm bo : Nat) (G : Lg) (lm : Lm) (ds : List Back) (fv : Array Value) (w : World) (hL : IsLog w bv bm bo G lm) (hna : 0 < G.na) (hna2 : G.na ≤ 1000000) (hnf : G.nt.length + fv.size < 1000000) (hc : 0 < fv.size) (hds : ds.length = fv.size) (hone : ∀ u ∈ fv.toList, u.oneCell' = true) :
    Calls Tryd.prog 19 #[.pointer (some ⟨bv, 0, none⟩), .slice (some ⟨w.heap.size, 0, none⟩) fv.size fv.size] (w.alloc (.cells fv 1)) fun e w' => e = .returned (.tuple #[]) ∧
      ∃ lm', IsLog w' bv bm bo (G.noted ds) lm' ∧ (∀ b, lm'.F b → lm.F b ∨ w.heap.size ≤ b) ∧ Chg (fun b => ActF lm.av lm.ac b) w w' ∧ (∀ b, ActF lm'.av lm'.ac b → ActF lm.av lm.ac b ∨ w.heap.size ≤ b) := by
  have k1 : Chg Non w (w.alloc (.cells fv 1)) := (Chg.refl Non w).alloc _
  refine (note_act bv bm bo G lm ds fv.toList w.heap.size fv.size fv.size (w.alloc (.cells fv 1)) (hL.kept0 k1) hna hna2 hnf hc hds (by simp) (World.news_of_block (Blk.new w fv 1)) hone).mono ?_
  rintro e w' ⟨rfl, lm', h1, h2, h3, h4⟩
  exact ⟨rfl, lm', h1, fun b hb => (h2 b hb).imp_right (fun h => Nat.le_trans k1.size h), k1.of_non.trans h3, fun b hb => (h4 b hb).imp_right (fun h => Nat.le_trans k1.size h)⟩

theorem note1A (bv bm bo : Nat) (G : Lg) (lm : Lm) (d : Back) (fn : Fn) (cp : Array Value) (w : World) (hL : IsLog w bv bm bo G lm) (hna : 0 < G.na) (hna2 : G.na ≤ 1000000) (hnf : G.nt.length + 1 < 1000000) :
    Calls Tryd.prog 19 #[.pointer (some ⟨bv, 0, none⟩), .slice (some ⟨w.heap.size, 0, none⟩) 1 1] (w.alloc (.cells #[.func fn #[] cp] 1)) fun e w' => e = .returned (.tuple #[]) ∧
      ∃ lm', IsLog w' bv bm bo (G.noted [d]) lm' ∧ (∀ b, lm'.F b → lm.F b ∨ w.heap.size ≤ b) ∧ Chg (fun b => ActF lm.av lm.ac b) w w' ∧ (∀ b, ActF lm'.av lm'.ac b → ActF lm.av lm.ac b ∨ w.heap.size ≤ b) :=
  noteA bv bm bo G lm [d] #[.func fn #[] cp] w hL hna hna2 hnf (by simp) rfl (by simp [Value.oneCell'])

theorem note2A (bv bm bo : Nat) (G : Lg) (lm : Lm) (d d2 : Back) (fn fn2 : Fn) (cp cp2 : Array Value) (w : World) (hL : IsLog w bv bm bo G lm) (hna : 0 < G.na) (hna2 : G.na ≤ 1000000) (hnf : G.nt.length + 2 < 1000000) :
    Calls Tryd.prog 19 #[.pointer (some ⟨bv, 0, none⟩), .slice (some ⟨w.heap.size, 0, none⟩) 2 2] (w.alloc (.cells #[.func fn #[] cp, .func fn2 #[] cp2] 1)) fun e w' => e = .returned (.tuple #[]) ∧
      ∃ lm', IsLog w' bv bm bo (G.noted [d, d2]) lm' ∧ (∀ b, lm'.F b → lm.F b ∨ w.heap.size ≤ b) ∧ Chg (fun b => ActF lm.av lm.ac b) w w' ∧ (∀ b, ActF lm'.av lm'.ac b → ActF lm.av lm.ac b ∨ w.heap.size ≤ b) :=
  noteA bv bm bo G lm [d, d2] #[.func fn #[] cp, .func fn2 #[] cp2] w hL hna hna2 hnf (by simp) rfl (by simp [Value.oneCell'])

theorem noted_noted (G : Lg) (a b : List Back) : (G.noted a).noted b = G.noted (a ++ b) := by simp [Lg.noted]

/-- what is noted, and where -/
def Noted (bv bm bo : Nat) (G : Lg) (lm : Lm) (ds : List Back) (w w' : World) : Prop :=
  ∃ lm', IsLog w' bv bm bo (G.noted ds) lm' ∧ (∀ x, lm'.F x → lm.F x ∨ w.heap.size ≤ x)

set_option maxHeartbeats 4000000 in
set_option maxRecDepth 100000 in
/-- what the trade had is cancelled -/
theorem takeBack_cancel (bv bm bo i b s : Nat) (V : Ven) (id q : Int) (again : Bool) (w : World) (R : Rep w bv bm bo V) (hi : i < V.nb) (hid : V.oid id = some b) (hsym : (V.om b).sym = (V.B i).sym) (hlen : (V.B i).sym.size ≤ maxLen) (hs : s < 2) (hside : (V.om b).side = 1 - (s : Int))
    (hcond : again = false ∨ restsB (V.om b).kind = false ∨ (firstG (V.B i) V.om (askOf (V.om b)) s).isSome = true) (hna : 0 < V.lg.na) (hna2 : V.lg.na ≤ 1000000) (hnt : V.lg.nt.length + 3 < 1000000) :
    Calls Tryd.prog 27 #[.pointer (some ⟨bv, 0, none⟩), .pointer (some ⟨b, 0, none⟩), .int .i64 q, .bool again] w fun e w' => e = .returned (.tuple #[]) ∧
      Mk w' (V.bk i) (V.B i) (upd V.om b (cancelF (V.om b) q)) (fun x => ∃ id, V.oid id = some x) ∧ Noted bv bm bo V.lg V.lm [.now b (V.om b)] w w' ∧ Chg (fun x => x = b ∨ ActF V.lm.av V.lm.ac x) w w' := by
  obtain ⟨-, ix, ho⟩ := R.ords id b hid
  have L1 : ∀ n, (Instr.lookup 55 (.map (some bm)) (.string (V.B i).sym) false).run Tryd.prog (w.drewN n) = .ok (.pointer (some ⟨V.bk i, 0, none⟩)) (w.drewN n) := fun n => (R.kept0 ((Chg.refl Non w).drewN n)).lookB hi hlen
  have L1d : (Instr.lookup 55 (.map (some bm)) (.string (V.B i).sym) false).run Tryd.prog w.drew = .ok (.pointer (some ⟨V.bk i, 0, none⟩)) w.drew := L1 1
  have v0 : w.cell? ⟨bv, 0, none⟩ = some (.map (some bm)) := R.ven.cell 0
  have o2 : w.cell? ⟨b, 2, none⟩ = some (.string (V.B i).sym) := by rw [← hsym]; exact ho.cell 2
  have HC := hide (fun (W : World) (k : Chg Non w W) => cancelFilled_mk (V.bk i) b (V.B i) V.om (fun x => ∃ id, V.oid id = some x) q W ((R.kept0 k).mkt hi) ⟨id, hid⟩)
  have HF := hide (fun (W : World) (k : Chg Non w W) => firstGood_any (V.bk i) (V.B i) V.om (askOf (V.om b)) s W ((R.kept0 k).book i hi) hs hside)
  have HO : Hid (∀ W, Chg Non w W → IsOrd W b (V.om b) ix) := fun W k => k.blk ho (fun x => x)
  have HN : Hid (∀ W wq fn cp, Chg Non w W → Chg (fun x => x = b) W wq → Mk wq (V.bk i) (V.B i) (upd V.om b (cancelF (V.om b) q)) (fun x => ∃ id, V.oid id = some x) →
      Calls Tryd.prog 19 #[.pointer (some ⟨bv, 0, none⟩), .slice (some ⟨wq.heap.size, 0, none⟩) 1 1] (wq.alloc (.cells #[.func fn #[] cp] 1)) fun e w' => e = .returned (.tuple #[]) ∧ Mk w' (V.bk i) (V.B i) (upd V.om b (cancelF (V.om b) q)) (fun x => ∃ id, V.oid id = some x) ∧ Noted bv bm bo V.lg V.lm [.now b (V.om b)] w w' ∧ Chg (fun x => x = b ∨ ActF V.lm.av V.lm.ac x) w w') := by
    intro W wq fn cp kW kq m
    have h1 := (R.log.kept0 kW).keptT kq (fun x h => by subst h; exact ⟨_, 75, kW.blk ho (fun x => x), .inr (.inl rfl)⟩)
    refine (note1A bv bm bo V.lg V.lm (.now b (V.om b)) fn cp wq h1 hna hna2 (by omega)).mono ?_
    rintro e w' ⟨rfl, lm', a1, a2, a3, -⟩
    have kk := kW.of_non.trans kq
    exact ⟨rfl, m.keptLog h1 (a3.mono (fun _ h => .inr (.inr (.inr (.inr h))))), ⟨lm', a1, fun x hx => (a2 x hx).imp_right (fun h => Nat.le_trans kk.size h)⟩, (kk.mono (fun _ h => .inl h)).trans (a3.mono (fun _ h => .inr h))⟩
  have HCo := hide hcond
  clear R hid hsym hside hcond ho hs
  go_enter Tryd.func27, Tryd.ntmps27
  go_wp2
  go_quiet (fail)
  have hq : Chg Non w (w.drewN nq) := (Chg.refl Non w).drewN _
  obtain ⟨w1, hw1⟩ : ∃ w1, w1 = w.drewN nq := ⟨_, rfl⟩
  rw [← hw1] at hq ⊢
  clear hw1 L1 L1d v0 o2
  cases again with
  | false =>
    go_wp2_with fail
    refine (unhide HC w1 hq).mono ?_
    rintro e w2 ⟨fnq, cpq, rfl, -, m2, k2⟩
    go_wp2_with fail
    refine (unhide HN _ w2 fnq cpq hq k2 m2).mono ?_
    rintro e wz ⟨rfl, rz⟩
    go_wp2
    try simp only [Exit.inBlock, Exit.then]
    refine bodyPost_ret (results_none rfl _ _ _) rfl ?_
    exact ⟨rfl, rz⟩
  | true =>
    go_wp2_with fail
    refine (rests_any b _ ix w1 (unhide HO w1 hq)).mono ?_
    rintro e w1' ⟨rfl, hww⟩
    rw [hww]
    clear hww w1'
    cases hr : restsB (V.om b).kind with
    | false =>
      clear hr
      go_wp2_with fail
      refine (unhide HC _ hq).mono ?_
      rintro e w2 ⟨fnq, cpq, rfl, -, m2, k2⟩
      go_wp2_with fail
      refine (unhide HN _ w2 fnq cpq hq k2 m2).mono ?_
      rintro e wz ⟨rfl, rz⟩
      go_wp2
      try simp only [Exit.inBlock, Exit.then]
      refine bodyPost_ret (results_none rfl _ _ _) rfl ?_
      exact ⟨rfl, rz⟩
    | true =>
      have hf : (firstG (V.B i) V.om (askOf (V.om b)) s).isSome = true := by
        rcases unhide HCo with h | h | h
        · simp at h
        · rw [hr] at h; simp at h
        · exact h
      obtain ⟨f, hf'⟩ := Option.isSome_iff_exists.1 hf
      have HF' := hide hf'
      clear hr hf hf'
      have hoc := unhide HO _ hq
      have cc0 : w1.cell? ⟨b, 0, none⟩ = some (.int .i64 (V.om b).id) := hoc.cell 0
      have cc1 : w1.cell? ⟨b, 1, none⟩ = some (.int .i64 (V.om b).owner) := hoc.cell 1
      have cc2 : w1.cell? ⟨b, 2, none⟩ = some (.string (V.om b).sym) := hoc.cell 2
      have cc3 : w1.cell? ⟨b, 3, none⟩ = some (.int .i64 (V.om b).side) := hoc.cell 3
      have cc4 : w1.cell? ⟨b, 4, none⟩ = some (.int .i64 (V.om b).kind) := hoc.cell 4
      have cc5 : w1.cell? ⟨b, 5, none⟩ = some (.int .i64 (V.om b).price) := hoc.cell 5
      have cc6 : w1.cell? ⟨b, 6, none⟩ = some (.int .i64 (V.om b).qty) := hoc.cell 6
      clear hoc
      go_wp2_with fail
      refine (unhide HF _ hq).mono ?_
      rintro e w2 ⟨rfl, k2⟩
      rw [unhide HF']
      simp only [ptrO]
      clear cc0 cc1 cc2 cc3 cc4 cc5 cc6
      go_wp2_with fail
      refine (unhide HC _ (hq.trans k2)).mono ?_
      rintro e w3 ⟨fnq, cpq, rfl, -, m3, k3⟩
      go_wp2_with fail
      refine (unhide HN _ w3 fnq cpq (hq.trans k2) k3 m3).mono ?_
      rintro e wz ⟨rfl, rz⟩
      go_wp2
      try simp only [Exit.inBlock, Exit.then]
      refine bodyPost_ret (results_none rfl _ _ _) rfl ?_
      exact ⟨rfl, rz⟩

/-- the orders behind it, where what the trade had comes again -/
def againOm (V : Ven) (i b : Nat) (q : Int) : Nat → Ord := upd (upd V.om b (openF (V.om b) q)) b { openF (V.om b) q with place := wrap64 ((V.B i).places + 1) }

set_option maxHeartbeats 4000000 in
set_option maxRecDepth 100000 in
theorem takeBack_new (bv bm bo i b s t : Nat) (V : Ven) (id q : Int) (w : World) (R : Rep w bv bm bo V) (hi : i < V.nb) (hid : V.oid id = some b) (hsym : (V.om b).sym = (V.B i).sym) (hlen : (V.B i).sym.size ≤ maxLen) (hs : s < 2) (ht : t = 1 - s) (hside : (V.om b).side = (t : Int))
    (hr : restsB (V.om b).kind = true) (hf : firstG (V.B i) V.om (askOf (V.om b)) s = none) (h0 : ¬ 0 < (V.om b).opn) (hnew : ∀ x, x < 2 → ∀ k, k < (V.B i).n x → (V.B i).h x k ≠ b) (hn : (V.B i).n t < 1000) (hna : 0 < V.lg.na) (hna2 : V.lg.na ≤ 1000000) (hnt : V.lg.nt.length + 3 < 1000000) :
    Calls Tryd.prog 27 #[.pointer (some ⟨bv, 0, none⟩), .pointer (some ⟨b, 0, none⟩), .int .i64 q, .bool true] w fun e w' => e = .returned (.tuple #[]) ∧
      ∃ g cap', Mk w' (V.bk i) ((V.B i).rest (againOm V i b q) t b g cap') (againOm V i b q) (fun x => ∃ id, V.oid id = some x) ∧ Noted bv bm bo V.lg V.lm [.now b (V.om b), .rested b (V.om b).place] w w' ∧ Chg (fun x => (x = V.bk i ∨ x = b ∨ SdB (V.B i) t x) ∨ ActF V.lm.av V.lm.ac x) w w' ∧ (adB ((V.B i).sl t) = some g ∨ w.heap.size ≤ g) := by
  obtain ⟨-, ix, ho⟩ := R.ords id b hid
  have L1 : ∀ n, (Instr.lookup 55 (.map (some bm)) (.string (V.B i).sym) false).run Tryd.prog (w.drewN n) = .ok (.pointer (some ⟨V.bk i, 0, none⟩)) (w.drewN n) := fun n => (R.kept0 ((Chg.refl Non w).drewN n)).lookB hi hlen
  have L1d : (Instr.lookup 55 (.map (some bm)) (.string (V.B i).sym) false).run Tryd.prog w.drew = .ok (.pointer (some ⟨V.bk i, 0, none⟩)) w.drew := L1 1
  have v0 : w.cell? ⟨bv, 0, none⟩ = some (.map (some bm)) := R.ven.cell 0
  have o2 : w.cell? ⟨b, 2, none⟩ = some (.string (V.B i).sym) := by rw [← hsym]; exact ho.cell 2
  have HC := hide (fun (W : World) (k : Chg Non w W) => openFilled_mk (V.bk i) b (V.B i) V.om (fun x => ∃ id, V.oid id = some x) q W ((R.kept0 k).mkt hi) ⟨id, hid⟩)
  have HF := hide (fun (W : World) (k : Chg Non w W) => firstGood_any (V.bk i) (V.B i) V.om (askOf (V.om b)) s W ((R.kept0 k).book i hi) hs (by rw [show (askOf (V.om b)).side = (V.om b).side from rfl, hside, ht]; omega))
  have HO : Hid (∀ W, Chg Non w W → IsOrd W b (V.om b) ix) := fun W k => k.blk ho (fun x => x)
  have HRest : Hid (∀ W, Mk W (V.bk i) (V.B i) (upd V.om b (openF (V.om b) q)) (fun x => ∃ id, V.oid id = some x) → Calls Tryd.prog 45 #[.pointer (some ⟨V.bk i, 0, none⟩), .pointer (some ⟨b, 0, none⟩)] W fun e w' => ∃ fn cp, e = .returned (.func fn #[] cp) ∧ IsRestF w' (V.bk i) b (V.om b).place W.heap.size fn cp ∧
      ∃ g cap', Mk w' (V.bk i) ((V.B i).rest (againOm V i b q) t b g cap') (againOm V i b q) (fun x => ∃ id, V.oid id = some x) ∧ Chg (fun x => x = V.bk i ∨ x = b ∨ SdB (V.B i) t x) W w' ∧ (adB ((V.B i).sl t) = some g ∨ W.heap.size ≤ g)) := by
    intro W m
    obtain ⟨ix', ho'⟩ := m.ords b ⟨id, hid⟩
    refine (rest_fn (V.bk i) b t (V.B i) _ ix' W m.book ho' (by omega) (by rw [upd_same]; exact hside) hnew hn).mono ?_
    rintro e w' ⟨fn, cp, rfl, hcl, g, cap', hb, k, hg⟩
    rw [upd_same] at hb hcl
    exact ⟨fn, cp, rfl, hcl, g, cap', m.rest (by omega) ⟨id, hid⟩ (fun x hx => by unfold againOm; rw [upd_other _ _ hx]) hb k, k, hg⟩
  have HN : Hid (∀ W w3 w4 fn3 cp3 fn4 cp4 g cap', Chg Non w W → Chg (fun x => x = b) W w3 → Mk w3 (V.bk i) (V.B i) (upd V.om b (openF (V.om b) q)) (fun x => ∃ id, V.oid id = some x) → Mk w4 (V.bk i) ((V.B i).rest (againOm V i b q) t b g cap') (againOm V i b q) (fun x => ∃ id, V.oid id = some x) → Chg (fun x => x = V.bk i ∨ x = b ∨ SdB (V.B i) t x) w3 w4 → (adB ((V.B i).sl t) = some g ∨ w3.heap.size ≤ g) →
      Calls Tryd.prog 19 #[.pointer (some ⟨bv, 0, none⟩), .slice (some ⟨w4.heap.size, 0, none⟩) 2 2] (w4.alloc (.cells #[.func fn3 #[] cp3, .func fn4 #[] cp4] 1)) fun e w' => e = .returned (.tuple #[]) ∧
        ∃ g cap', Mk w' (V.bk i) ((V.B i).rest (againOm V i b q) t b g cap') (againOm V i b q) (fun x => ∃ id, V.oid id = some x) ∧ Noted bv bm bo V.lg V.lm [.now b (V.om b), .rested b (V.om b).place] w w' ∧ Chg (fun x => (x = V.bk i ∨ x = b ∨ SdB (V.B i) t x) ∨ ActF V.lm.av V.lm.ac x) w w' ∧ (adB ((V.B i).sl t) = some g ∨ w.heap.size ≤ g)) := by
    intro W w3 w4 fn3 cp3 fn4 cp4 g cap' kW k3 m3 m4 k4 hg
    have h3 := (R.log.kept0 kW).keptT k3 (fun x h => by subst h; exact ⟨_, 75, kW.blk ho (fun x => x), .inr (.inl rfl)⟩)
    have h4 := h3.keptT k4 (fun x h => m3.typ (by
      rcases h with h | h | h
      · exact .inl h
      · exact .inr (.inl ⟨id, by rw [h]; exact hid⟩)
      · exact .inr (.inr ⟨t, by omega, h⟩)))
    refine (note2A bv bm bo V.lg V.lm (.now b (V.om b)) (.rested b (V.om b).place) fn3 fn4 cp3 cp4 w4 h4 hna hna2 (by omega)).mono ?_
    rintro e w' ⟨rfl, lm', a1, a2, a3, -⟩
    have kk3 := kW.of_non.trans k3
    have kk : Chg (fun x => x = V.bk i ∨ x = b ∨ SdB (V.B i) t x) w w4 := (kk3.mono (fun _ h => .inr (.inl h))).trans k4
    exact ⟨rfl, g, cap', m4.keptLog h4 (a3.mono (fun _ h => .inr (.inr (.inr (.inr h))))), ⟨lm', a1, fun x hx => (a2 x hx).imp_right (fun h => Nat.le_trans kk.size h)⟩, (kk.mono (fun _ h => .inl h)).trans (a3.mono (fun _ h => .inr h)), hg.imp_right (fun h => Nat.le_trans kk3.size h)⟩
  have HF' := hide hf
  have e0 : decide (0 < (V.om b).opn) = false := by simp [h0]
  have HE0 := hide e0
  have HR := hide hr
  clear R hid hsym hside hf ho hs h0 e0 hr hnew hn
  go_enter Tryd.func27, Tryd.ntmps27
  go_wp2
  go_quiet (fail)
  have hq : Chg Non w (w.drewN nq) := (Chg.refl Non w).drewN _
  obtain ⟨w1, hw1⟩ : ∃ w1, w1 = w.drewN nq := ⟨_, rfl⟩
  rw [← hw1] at hq ⊢
  clear hw1 L1 L1d v0 o2
  go_wp2_with fail
  refine (rests_any b _ ix w1 (unhide HO w1 hq)).mono ?_
  rintro e w1' ⟨rfl, hww⟩
  rw [hww]
  clear hww w1'
  rw [unhide HR]
  have hoc := unhide HO _ hq
  have cc0 : w1.cell? ⟨b, 0, none⟩ = some (.int .i64 (V.om b).id) := hoc.cell 0
  have cc1 : w1.cell? ⟨b, 1, none⟩ = some (.int .i64 (V.om b).owner) := hoc.cell 1
  have cc2 : w1.cell? ⟨b, 2, none⟩ = some (.string (V.om b).sym) := hoc.cell 2
  have cc3 : w1.cell? ⟨b, 3, none⟩ = some (.int .i64 (V.om b).side) := hoc.cell 3
  have cc4 : w1.cell? ⟨b, 4, none⟩ = some (.int .i64 (V.om b).kind) := hoc.cell 4
  have cc5 : w1.cell? ⟨b, 5, none⟩ = some (.int .i64 (V.om b).price) := hoc.cell 5
  have cc6 : w1.cell? ⟨b, 6, none⟩ = some (.int .i64 (V.om b).qty) := hoc.cell 6
  clear hoc
  go_wp2_with fail
  refine (unhide HF _ hq).mono ?_
  rintro e w2 ⟨rfl, k2⟩
  rw [unhide HF']
  simp only [ptrO]
  have hq2 := hq.trans k2
  have o8 : w2.cell? ⟨b, 8, none⟩ = some (.int .i64 (V.om b).opn) := (unhide HO _ hq2).cell 8
  have e0 := unhide HE0
  clear cc0 cc1 cc2 cc3 cc4 cc5 cc6
  go_wp2_with fail
  refine (unhide HC _ hq2).mono ?_
  rintro e w3 ⟨fn3, cp3, rfl, -, m3, k3⟩
  clear o8 e0
  go_wp2_with fail
  refine (unhide HRest w3 m3).mono ?_
  rintro e w4 ⟨fn4, cp4, rfl, -, g, cap', m4, k4, hg⟩
  go_wp2_with fail
  refine (unhide HN _ w3 w4 fn3 cp3 fn4 cp4 g cap' hq2 k3 m3 m4 k4 hg).mono ?_
  rintro e wz ⟨rfl, rz⟩
  go_wp2
  go_end0
  exact ⟨rfl, rz⟩

end Go.Proofs.YtigaphnafnpfnaaDoor
