/- takeBack of an order of which something is open; Bust and Correct at an error -/
import Derived.Test.YtigaphnafnpfnaaDoorF3
set_option linter.unusedVariables false
set_option linter.unusedSimpArgs false
namespace Go.Proofs.YtigaphnafnpfnaaDoor
open Go.RowKit Go.Maps
attribute [local go_sem ↓] Go.wp_at_zero Go.wp_at_succ

set_option maxHeartbeats 4000000 in
set_option maxRecDepth 100000 in
theorem takeBack_more (bv bm bo i b s t k : Nat) (V : Ven) (id q : Int) (w : World) (R : Rep w bv bm bo V) (hi : i < V.nb) (hid : V.oid id = some b) (hsym : (V.om b).sym = (V.B i).sym) (hlen : (V.B i).sym.size ≤ maxLen) (hs : s < 2) (ht : t = 1 - s) (hside : (V.om b).side = (t : Int))
    (hr : restsB (V.om b).kind = true) (hf : firstG (V.B i) V.om (askOf (V.om b)) s = none) (h0 : 0 < (V.om b).opn) (hk : k < (V.B i).n t) (hkb : (V.B i).h t k = b) (hn : (V.B i).n t < 1000) (hna : 0 < V.lg.na) (hna2 : V.lg.na ≤ 1000000) (hnt : V.lg.nt.length + 3 < 1000000) :
    Calls Tryd.prog 27 #[.pointer (some ⟨bv, 0, none⟩), .pointer (some ⟨b, 0, none⟩), .int .i64 q, .bool true] w fun e w' => e = .returned (.tuple #[]) ∧
      ∃ g cap', Mk w' (V.bk i) (((V.B i).leave V.om t k).rest (againOm V i b q) t b g cap') (againOm V i b q) (fun x => ∃ id, V.oid id = some x) ∧ Noted bv bm bo V.lg V.lm [.left b, .now b (V.om b), .rested b (V.om b).place] w w' ∧ Chg (fun x => (x = V.bk i ∨ x = b ∨ SdB (V.B i) t x) ∨ ActF V.lm.av V.lm.ac x) w w' ∧ (adB ((V.B i).sl t) = some g ∨ w.heap.size ≤ g) := by
  obtain ⟨-, ix, ho⟩ := R.ords id b hid
  have t2 : t < 2 := by omega
  have L1 : ∀ n, (Instr.lookup 55 (.map (some bm)) (.string (V.B i).sym) false).run Tryd.prog (w.drewN n) = .ok (.pointer (some ⟨V.bk i, 0, none⟩)) (w.drewN n) := fun n => (R.kept0 ((Chg.refl Non w).drewN n)).lookB hi hlen
  have L1d : (Instr.lookup 55 (.map (some bm)) (.string (V.B i).sym) false).run Tryd.prog w.drew = .ok (.pointer (some ⟨V.bk i, 0, none⟩)) w.drew := L1 1
  have v0 : w.cell? ⟨bv, 0, none⟩ = some (.map (some bm)) := R.ven.cell 0
  have o2 : w.cell? ⟨b, 2, none⟩ = some (.string (V.B i).sym) := by rw [← hsym]; exact ho.cell 2
  have hinj : Inj ((V.B i).n t) ((V.B i).h t) := ((R.book i hi).side t t2).inj
  have sub : ∀ x, SdB ((V.B i).leave V.om t k) t x → SdB (V.B i) t x := by
    rintro x (h | ⟨l, hl, e⟩)
    · exact .inl h
    · obtain ⟨k', hk', e', _⟩ := leave_memk (om := V.om) hinj hk l hl
      exact .inr ⟨k', hk', by rw [e, e']⟩
  have HLe := hide (fun (W : World) (kk : Chg Non w W) => leave_mk (V.bk i) (V.B i) V.om (fun x => ∃ id, V.oid id = some x) t k W ((R.kept0 kk).mkt hi) t2 hk (by rw [hkb]; exact hside))
  have HC := hide (fun (W : World) (m : Mk W (V.bk i) ((V.B i).leave V.om t k) V.om (fun x => ∃ id, V.oid id = some x)) => openFilled_mk (V.bk i) b _ V.om _ q W m ⟨id, hid⟩)
  have HF := hide (fun (W : World) (k : Chg Non w W) => firstGood_any (V.bk i) (V.B i) V.om (askOf (V.om b)) s W ((R.kept0 k).book i hi) hs (by rw [show (askOf (V.om b)).side = (V.om b).side from rfl, hside, ht]; omega))
  have HO : Hid (∀ W, Chg Non w W → IsOrd W b (V.om b) ix) := fun W k => k.blk ho (fun x => x)
  have hnew : ∀ x, x < 2 → ∀ l, l < ((V.B i).leave V.om t k).n x → ((V.B i).leave V.om t k).h x l ≠ b := by
    intro x hx l hl
    by_cases e : x = t
    · subst e
      obtain ⟨k', _, e', hne⟩ := leave_memk (om := V.om) hinj hk l hl
      rw [e', ← hkb]; exact hne
    · simp only [Bk.leave, upd_other _ _ e] at hl ⊢
      rw [← hkb]
      have hd := (R.book i hi).disj
      have : (x = 0 ∧ t = 1) ∨ (x = 1 ∧ t = 0) := by omega
      rcases this with ⟨rfl, rfl⟩ | ⟨rfl, rfl⟩
      · exact hd l k hl hk
      · exact fun e => hd k l hk hl e.symm
  have HRest : Hid (∀ W, Mk W (V.bk i) ((V.B i).leave V.om t k) (upd V.om b (openF (V.om b) q)) (fun x => ∃ id, V.oid id = some x) → Calls Tryd.prog 45 #[.pointer (some ⟨V.bk i, 0, none⟩), .pointer (some ⟨b, 0, none⟩)] W fun e w' => ∃ fn cp, e = .returned (.func fn #[] cp) ∧ IsRestF w' (V.bk i) b (V.om b).place W.heap.size fn cp ∧
      ∃ g cap', Mk w' (V.bk i) (((V.B i).leave V.om t k).rest (againOm V i b q) t b g cap') (againOm V i b q) (fun x => ∃ id, V.oid id = some x) ∧ Chg (fun x => x = V.bk i ∨ x = b ∨ SdB ((V.B i).leave V.om t k) t x) W w' ∧ (adB ((V.B i).sl t) = some g ∨ W.heap.size ≤ g)) := by
    intro W m
    obtain ⟨ix', ho'⟩ := m.ords b ⟨id, hid⟩
    refine (rest_fn (V.bk i) b t ((V.B i).leave V.om t k) _ ix' W m.book ho' t2 (by rw [upd_same]; exact hside) hnew (by simp only [Bk.leave, upd_same]; omega)).mono ?_
    rintro e w' ⟨fn, cp, rfl, hcl, g, cap', hb, kk, hg⟩
    rw [upd_same] at hb hcl
    refine ⟨fn, cp, rfl, hcl, g, cap', m.rest (om' := againOm V i b q) t2 ⟨id, hid⟩ (fun x hx => by unfold againOm; rw [upd_other _ _ hx]) hb kk, kk, hg⟩
  have HN1 : Hid (∀ W w3 fn cp, Chg Non w W → Chg (fun x => x = V.bk i ∨ SdB (V.B i) t x) W w3 → Mk w3 (V.bk i) ((V.B i).leave V.om t k) V.om (fun x => ∃ id, V.oid id = some x) →
      Calls Tryd.prog 19 #[.pointer (some ⟨bv, 0, none⟩), .slice (some ⟨w3.heap.size, 0, none⟩) 1 1] (w3.alloc (.cells #[.func fn #[] cp] 1)) fun e w' => e = .returned (.tuple #[]) ∧ Mk w' (V.bk i) ((V.B i).leave V.om t k) V.om (fun x => ∃ id, V.oid id = some x) ∧
        ∃ lm3, IsLog w' bv bm bo (V.lg.noted [.left b]) lm3 ∧ (∀ x, lm3.F x → V.lm.F x ∨ w.heap.size ≤ x) ∧ (∀ x, ActF lm3.av lm3.ac x → ActF V.lm.av V.lm.ac x ∨ w.heap.size ≤ x) ∧ Chg (fun x => (x = V.bk i ∨ x = b ∨ SdB (V.B i) t x) ∨ ActF V.lm.av V.lm.ac x) w w') := by
    intro W w3 fn cp kW k3 m3
    have h3 := (R.log.kept0 kW).keptT k3 (fun x h => ((R.kept0 kW).mkt hi).typ (by
      rcases h with h | h
      · exact .inl h
      · exact .inr (.inr ⟨t, t2, h⟩)))
    refine (note1A bv bm bo V.lg V.lm (.left b) fn cp w3 h3 hna hna2 (by omega)).mono ?_
    rintro e w' ⟨rfl, lm', a1, a2, a3, a4⟩
    have kk : Chg (fun x => (x = V.bk i ∨ x = b ∨ SdB (V.B i) t x) ∨ ActF V.lm.av V.lm.ac x) w w3 := kW.of_non.trans (k3.mono (fun x h => .inl (h.imp_right .inr)))
    exact ⟨rfl, m3.keptLog h3 (a3.mono (fun _ h => .inr (.inr (.inr (.inr h))))), lm', a1, fun x hx => (a2 x hx).imp_right (fun h => Nat.le_trans kk.size h), fun x hx => (a4 x hx).imp_right (fun h => Nat.le_trans kk.size h), kk.trans (a3.mono (fun _ h => .inr h))⟩
  have HN2 : Hid (∀ w3 lm3 w4 w5 fn4 cp4 fn5 cp5 g cap', Mk w3 (V.bk i) ((V.B i).leave V.om t k) V.om (fun x => ∃ id, V.oid id = some x) → IsLog w3 bv bm bo (V.lg.noted [.left b]) lm3 → (∀ x, lm3.F x → V.lm.F x ∨ w.heap.size ≤ x) → (∀ x, ActF lm3.av lm3.ac x → ActF V.lm.av V.lm.ac x ∨ w.heap.size ≤ x) → Chg (fun x => (x = V.bk i ∨ x = b ∨ SdB (V.B i) t x) ∨ ActF V.lm.av V.lm.ac x) w w3 →
      Chg (fun x => x = b) w3 w4 → Mk w4 (V.bk i) ((V.B i).leave V.om t k) (upd V.om b (openF (V.om b) q)) (fun x => ∃ id, V.oid id = some x) → Mk w5 (V.bk i) (((V.B i).leave V.om t k).rest (againOm V i b q) t b g cap') (againOm V i b q) (fun x => ∃ id, V.oid id = some x) → Chg (fun x => x = V.bk i ∨ x = b ∨ SdB ((V.B i).leave V.om t k) t x) w4 w5 → (adB ((V.B i).sl t) = some g ∨ w4.heap.size ≤ g) →
      Calls Tryd.prog 19 #[.pointer (some ⟨bv, 0, none⟩), .slice (some ⟨w5.heap.size, 0, none⟩) 2 2] (w5.alloc (.cells #[.func fn4 #[] cp4, .func fn5 #[] cp5] 1)) fun e w' => e = .returned (.tuple #[]) ∧ ∃ g cap', Mk w' (V.bk i) (((V.B i).leave V.om t k).rest (againOm V i b q) t b g cap') (againOm V i b q) (fun x => ∃ id, V.oid id = some x) ∧ Noted bv bm bo V.lg V.lm [.left b, .now b (V.om b), .rested b (V.om b).place] w w' ∧ Chg (fun x => (x = V.bk i ∨ x = b ∨ SdB (V.B i) t x) ∨ ActF V.lm.av V.lm.ac x) w w' ∧ (adB ((V.B i).sl t) = some g ∨ w.heap.size ≤ g)) := by
    intro w3 lm3 w4 w5 fn4 cp4 fn5 cp5 g cap' m3 h3 f3 c3 kc3 k4 m4 m5 k5 hg
    have h4 := h3.keptT k4 (fun x h => by subst h; exact m3.typ (.inr (.inl ⟨id, hid⟩)))
    have h5 := h4.keptT k5 (fun x h => m4.typ (by
      rcases h with h | h | h
      · exact .inl h
      · exact .inr (.inl ⟨id, by rw [h]; exact hid⟩)
      · exact .inr (.inr ⟨t, t2, h⟩)))
    refine (note2A bv bm bo (V.lg.noted [.left b]) lm3 (.now b (V.om b)) (.rested b (V.om b).place) fn4 fn5 cp4 cp5 w5 h5 hna hna2 (by simp only [Lg.noted, List.length_append, List.length_cons, List.length_nil]; omega)).mono ?_
    rintro e w' ⟨rfl, lm', a1, a2, a3, -⟩
    rw [noted_noted] at a1
    have kc4 := kc3.trans (k4.mono (fun x h => .inl (.inr (.inl h))))
    have kc5 := kc4.trans (k5.mono (fun x h => by
      rcases h with h | h | h
      · exact .inl (.inl h)
      · exact .inl (.inr (.inl h))
      · exact .inl (.inr (.inr (sub x h)))))
    refine ⟨rfl, g, cap', m5.keptLog h5 (a3.mono (fun _ h => .inr (.inr (.inr (.inr h))))), ⟨lm', a1, fun x hx => ?_⟩, kc5.from (a3.mono (fun x h => (c3 x h).imp_left (fun h => .inr h))), hg.imp_right (fun h => Nat.le_trans kc4.size h)⟩
    rcases a2 x hx with h | h
    · exact f3 x h
    · exact .inr (Nat.le_trans kc5.size h)
  have HF' := hide hf
  have e0 : decide (0 < (V.om b).opn) = true := by simp [h0]
  have HE0 := hide e0
  have HR := hide hr
  have HKB := hide hkb
  rw [hkb] at HLe
  clear R hid hsym hside hf ho hs h0 e0 hr hnew hn hkb hinj sub
  go_enter Tryd.func27, Tryd.ntmps27
  go_wp2
  go_quiet (fail)
  have hq : Chg Non w (w.drewN nq) := (Chg.refl Non w).drewN _
  obtain ⟨w1, hw1⟩ : ∃ w1, w1 = w.drewN nq := ⟨_, rfl⟩
  rw [← hw1] at hq ⊢
  clear hw1 L1 L1d v0 o2
  go_wp2_with fail
  refine (rests_any b _ ix w1 (unhide HO w1 hq)).mono ?_
  rintro e w1' ⟨rfl, hww⟩
  rw [hww]
  clear hww w1'
  rw [unhide HR]
  have hoc := unhide HO _ hq
  have cc0 : w1.cell? ⟨b, 0, none⟩ = some (.int .i64 (V.om b).id) := hoc.cell 0
  have cc1 : w1.cell? ⟨b, 1, none⟩ = some (.int .i64 (V.om b).owner) := hoc.cell 1
  have cc2 : w1.cell? ⟨b, 2, none⟩ = some (.string (V.om b).sym) := hoc.cell 2
  have cc3 : w1.cell? ⟨b, 3, none⟩ = some (.int .i64 (V.om b).side) := hoc.cell 3
  have cc4 : w1.cell? ⟨b, 4, none⟩ = some (.int .i64 (V.om b).kind) := hoc.cell 4
  have cc5 : w1.cell? ⟨b, 5, none⟩ = some (.int .i64 (V.om b).price) := hoc.cell 5
  have cc6 : w1.cell? ⟨b, 6, none⟩ = some (.int .i64 (V.om b).qty) := hoc.cell 6
  clear hoc
  go_wp2_with fail
  refine (unhide HF _ hq).mono ?_
  rintro e w2 ⟨rfl, k2⟩
  rw [unhide HF']
  simp only [ptrO]
  have hq2 := hq.trans k2
  have o8 : w2.cell? ⟨b, 8, none⟩ = some (.int .i64 (V.om b).opn) := (unhide HO _ hq2).cell 8
  have e0 := unhide HE0
  clear cc0 cc1 cc2 cc3 cc4 cc5 cc6
  go_wp2_with fail
  refine (unhide HLe _ hq2).mono ?_
  rintro e w3 ⟨fn3, cp3, rfl, -, m3, k3⟩
  clear o8 e0
  go_wp2_with fail
  refine (unhide HN1 _ w3 fn3 cp3 hq2 k3 m3).mono ?_
  rintro e w3' ⟨rfl, m3', lm3, h3', f3', c3', kc3'⟩
  go_wp2_with fail
  refine (unhide HC _ m3').mono ?_
  rintro e w4 ⟨fn4, cp4, rfl, -, m4, k4⟩
  go_wp2_with fail
  refine (unhide HRest w4 m4).mono ?_
  rintro e w5 ⟨fn5, cp5, rfl, -, g, cap', m5, k5, hg⟩
  go_wp2_with fail
  refine (unhide HN2 w3' lm3 w4 w5 fn4 cp4 fn5 cp5 g cap' m3' h3' f3' c3' kc3' k4 m4 m5 k5 hg).mono ?_
  rintro e wz ⟨rfl, rz⟩
  go_wp2
  go_end0
  exact ⟨rfl, rz⟩

set_option maxHeartbeats 1000000 in
set_option maxRecDepth 100000 in
theorem bust_err (bv : Nat) (N E : Int) (again : Bool) (po : Option Addr) (w : World) (hE : E ≠ 0) (h : ∀ W, Chg Non w W → Calls Tryd.prog 23 #[.pointer (some ⟨bv, 0, none⟩), .int .i64 N] W fun e w' => e = .returned (.tuple #[.pointer po, .int .i64 E]) ∧ Chg Non W w') :
    Calls Tryd.prog 10 #[.pointer (some ⟨bv, 0, none⟩), .int .i64 N, .bool again] w fun e w' => e = .returned (.int .i64 E) ∧ Chg Non w w' := by
  have e0 : (E != 0) = true := by simp [hE]
  have k0 : Chg Non w (w.alloc (.cells #[.pointer (some ⟨bv, 0, none⟩)] 34)) := (Chg.refl Non w).alloc _
  have H := hide (h _ k0)
  clear hE h
  go_enter Tryd.func10, Tryd.ntmps10
  go_wp2_with fail
  refine (unhide H).mono ?_
  rintro e w1 ⟨rfl, k1⟩
  go_wp2
  go_ret
  exact ⟨rfl, (k0.trans k1).alloc _⟩

set_option maxHeartbeats 1000000 in
set_option maxRecDepth 100000 in
theorem correct_err (bv : Nat) (N E price : Int) (po : Option Addr) (w : World) (hE : E ≠ 0) (h : ∀ W, Chg Non w W → Calls Tryd.prog 23 #[.pointer (some ⟨bv, 0, none⟩), .int .i64 N] W fun e w' => e = .returned (.tuple #[.pointer po, .int .i64 E]) ∧ Chg Non W w') :
    Calls Tryd.prog 11 #[.pointer (some ⟨bv, 0, none⟩), .int .i64 N, .int .i64 price] w fun e w' => e = .returned (.int .i64 E) ∧ Chg Non w w' := by
  have e0 : (E != 0) = true := by simp [hE]
  have k0 : Chg Non w (w.alloc (.cells #[.pointer (some ⟨bv, 0, none⟩)] 34)) := (Chg.refl Non w).alloc _
  have H := hide (h _ k0)
  clear hE h
  go_enter Tryd.func11, Tryd.ntmps11
  go_wp2_with fail
  refine (unhide H).mono ?_
  rintro e w1 ⟨rfl, k1⟩
  go_wp2
  go_ret
  exact ⟨rfl, (k0.trans k1).alloc _⟩

end Go.Proofs.YtigaphnafnpfnaaDoor
