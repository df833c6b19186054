/- takeBack of an order of which something is open; Bust and Correct at an error -/
import Derived.Test.YtekjibkliogipaaF3
set_option linter.unusedVariables false
set_option linter.unusedSimpArgs false
namespace Go.Proofs.Ytekjibkliogipaa
open Go.RowKit Go.Maps
attribute [local go_sem ↓] Go.wp_at_zero Go.wp_at_succ

set_option maxHeartbeats 4000000 in
set_option maxRecDepth 100000 in
theorem takeBack_more (bv bm bo i b s t k : Nat) (V : Ven) (id q : Int) (w : World) (R : Rep w bv bm bo V) (hi : i < V.nb) (hid : V.oid id = some b) (hsym : (V.om b).sym = (V.B i).sym) (hlen : (V.B i).sym.size ≤ maxLen) (hs : s < 2) (ht : t = 1 - s) (hside : (V.om b).side = (t : Int))
    (hr : restsB (V.om b).kind = true) (hf : firstG (V.B i) V.om (askOf (V.om b)) s = none) (h0 : 0 < (V.om b).opn) (hk : k < (V.B i).n t) (hkb : (V.B i).h t k = b) (hn : (V.B i).n t < 1000) :
    Calls Try.prog 35 #[.pointer (some ⟨bv, 0, none⟩), .pointer (some ⟨b, 0, none⟩), .int .i64 q, .bool true] w fun e w' => e = .returned (.tuple #[]) ∧
      ∃ g cap', Mk w' (V.bk i) (((V.B i).leave V.om t k).rest (againOm V i b q) t b g cap') (againOm V i b q) (fun x => ∃ id, V.oid id = some x) ∧ Chg (fun x => x = V.bk i ∨ x = b ∨ SdB (V.B i) t x) w w' ∧ (adB ((V.B i).sl t) = some g ∨ w.heap.size ≤ g) := by
  obtain ⟨-, ix, ho⟩ := R.ords id b hid
  have t2 : t < 2 := by omega
  have L1 : ∀ n, (Instr.lookup 78 (.map (some bm)) (.string (V.B i).sym) false).run Try.prog (w.drewN n) = .ok (.pointer (some ⟨V.bk i, 0, none⟩)) (w.drewN n) := fun n => (R.kept0 ((Chg.refl Non w).drewN n)).lookB hi hlen
  have L1d : (Instr.lookup 78 (.map (some bm)) (.string (V.B i).sym) false).run Try.prog w.drew = .ok (.pointer (some ⟨V.bk i, 0, none⟩)) w.drew := L1 1
  have v0 : w.cell? ⟨bv, 0, none⟩ = some (.map (some bm)) := R.ven.cell 0
  have o2 : w.cell? ⟨b, 2, none⟩ = some (.string (V.B i).sym) := by rw [← hsym]; exact ho.cell 2
  have hinj : Inj ((V.B i).n t) ((V.B i).h t) := ((R.book i hi).side t t2).inj
  have sub : ∀ x, SdB ((V.B i).leave V.om t k) t x → SdB (V.B i) t x := by
    rintro x (h | ⟨l, hl, e⟩)
    · exact .inl h
    · obtain ⟨k', hk', e', _⟩ := leave_memk (om := V.om) hinj hk l hl
      exact .inr ⟨k', hk', by rw [e, e']⟩
  have HLe := hide (fun (W : World) (kk : Chg Non w W) => leave_mk (V.bk i) (V.B i) V.om (fun x => ∃ id, V.oid id = some x) t k W ((R.kept0 kk).mkt hi) t2 hk (by rw [hkb]; exact hside))
  have HC := hide (fun (W : World) (m : Mk W (V.bk i) ((V.B i).leave V.om t k) V.om (fun x => ∃ id, V.oid id = some x)) => openFilled_mk (V.bk i) b _ V.om _ q W m ⟨id, hid⟩)
  have HF := hide (fun (W : World) (k : Chg Non w W) => firstGood_any (V.bk i) (V.B i) V.om (askOf (V.om b)) s W ((R.kept0 k).book i hi) hs (by rw [show (askOf (V.om b)).side = (V.om b).side from rfl, hside, ht]; omega))
  have HO : Hid (∀ W, Chg Non w W → IsOrd W b (V.om b) ix) := fun W k => k.blk ho (fun x => x)
  have hnew : ∀ x, x < 2 → ∀ l, l < ((V.B i).leave V.om t k).n x → ((V.B i).leave V.om t k).h x l ≠ b := by
    intro x hx l hl
    by_cases e : x = t
    · subst e
      obtain ⟨k', _, e', hne⟩ := leave_memk (om := V.om) hinj hk l hl
      rw [e', ← hkb]; exact hne
    · simp only [Bk.leave, upd_other _ _ e] at hl ⊢
      rw [← hkb]
      have hd := (R.book i hi).disj
      have : (x = 0 ∧ t = 1) ∨ (x = 1 ∧ t = 0) := by omega
      rcases this with ⟨rfl, rfl⟩ | ⟨rfl, rfl⟩
      · exact hd l k hl hk
      · exact fun e => hd k l hk hl e.symm
  have HRest : Hid (∀ W, Mk W (V.bk i) ((V.B i).leave V.om t k) (upd V.om b (openF (V.om b) q)) (fun x => ∃ id, V.oid id = some x) → Calls Try.prog 52 #[.pointer (some ⟨V.bk i, 0, none⟩), .pointer (some ⟨b, 0, none⟩)] W fun e w' => e = .returned (.tuple #[]) ∧
      ∃ g cap', Mk w' (V.bk i) (((V.B i).leave V.om t k).rest (againOm V i b q) t b g cap') (againOm V i b q) (fun x => ∃ id, V.oid id = some x) ∧ Chg (fun x => x = V.bk i ∨ x = b ∨ SdB (V.B i) t x) W w' ∧ (adB ((V.B i).sl t) = some g ∨ W.heap.size ≤ g)) := by
    intro W m
    obtain ⟨ix', ho'⟩ := m.ords b ⟨id, hid⟩
    refine (rest_any (V.bk i) b t ((V.B i).leave V.om t k) _ ix' W m.book ho' t2 (by rw [upd_same]; exact hside) hnew (by simp only [Bk.leave, upd_same]; omega)).mono ?_
    rintro e w' ⟨rfl, g, cap', hb, kk, hg⟩
    rw [upd_same] at hb
    refine ⟨rfl, g, cap', m.rest (om' := againOm V i b q) t2 ⟨id, hid⟩ (fun x hx => by unfold againOm; rw [upd_other _ _ hx]) hb kk, kk.mono (fun x h => ?_), hg⟩
    rcases h with h | h | h
    · exact .inl h
    · exact .inr (.inl h)
    · exact .inr (.inr (sub x h))
  have HF' := hide hf
  have e0 : decide (0 < (V.om b).opn) = true := by simp [h0]
  have HE0 := hide e0
  have HR := hide hr
  have HKB := hide hkb
  rw [hkb] at HLe
  clear R hid hsym hside hf ho hs h0 e0 hr hnew hn hkb hinj sub
  go_enter Try.func35, Try.ntmps35
  go_wp2
  go_quiet (fail)
  have hq : Chg Non w (w.drewN nq) := (Chg.refl Non w).drewN _
  obtain ⟨w1, hw1⟩ : ∃ w1, w1 = w.drewN nq := ⟨_, rfl⟩
  rw [← hw1] at hq ⊢
  clear hw1 L1 L1d v0 o2
  go_wp2_with fail
  refine (rests_any b _ ix w1 (unhide HO w1 hq)).mono ?_
  rintro e w1' ⟨rfl, hww⟩
  rw [hww]
  clear hww w1'
  rw [unhide HR]
  have hoc := unhide HO _ hq
  have cc0 : w1.cell? ⟨b, 0, none⟩ = some (.int .i64 (V.om b).id) := hoc.cell 0
  have cc1 : w1.cell? ⟨b, 1, none⟩ = some (.int .i64 (V.om b).owner) := hoc.cell 1
  have cc2 : w1.cell? ⟨b, 2, none⟩ = some (.string (V.om b).sym) := hoc.cell 2
  have cc3 : w1.cell? ⟨b, 3, none⟩ = some (.int .i64 (V.om b).side) := hoc.cell 3
  have cc4 : w1.cell? ⟨b, 4, none⟩ = some (.int .i64 (V.om b).kind) := hoc.cell 4
  have cc5 : w1.cell? ⟨b, 5, none⟩ = some (.int .i64 (V.om b).price) := hoc.cell 5
  have cc6 : w1.cell? ⟨b, 6, none⟩ = some (.int .i64 (V.om b).qty) := hoc.cell 6
  clear hoc
  go_wp2_with fail
  refine (unhide HF _ hq).mono ?_
  rintro e w2 ⟨rfl, k2⟩
  rw [unhide HF']
  simp only [ptrO]
  have hq2 := hq.trans k2
  have o8 : w2.cell? ⟨b, 8, none⟩ = some (.int .i64 (V.om b).opn) := (unhide HO _ hq2).cell 8
  have e0 := unhide HE0
  clear cc0 cc1 cc2 cc3 cc4 cc5 cc6
  go_wp2_with fail
  refine (unhide HLe _ hq2).mono ?_
  rintro e w3 ⟨rfl, m3, k3⟩
  clear o8 e0
  go_wp2_with fail
  refine (unhide HC _ m3).mono ?_
  rintro e w4 ⟨rfl, m4, k4⟩
  go_wp2_with fail
  refine (unhide HRest w4 m4).mono ?_
  rintro e w5 ⟨rfl, g, cap', m5, k5, hg⟩
  go_wp2
  go_end0
  have kk : Chg (fun x => x = V.bk i ∨ x = b ∨ SdB (V.B i) t x) w w4 := (hq2.of_non.trans (k3.mono (fun x h => h.elim .inl (fun h => .inr (.inr h))))).trans (k4.mono (fun x h => .inr (.inl h)))
  exact ⟨rfl, g, cap', m5, kk.trans k5, hg.imp_right (fun h => Nat.le_trans kk.size h)⟩

set_option maxHeartbeats 1000000 in
set_option maxRecDepth 100000 in
theorem bust_err (bv bm bo : Nat) (N E : Int) (again : Bool) (P : Value) (w : World) (hE : E ≠ 0) (h : Calls Try.prog 34 #[.pointer (some ⟨bv, 0, none⟩), .int .i64 N] w fun e w' => e = .returned (.tuple #[P, .int .i64 E]) ∧ Chg Non w w') :
    Calls Try.prog 19 #[.pointer (some ⟨bv, 0, none⟩), .int .i64 N, .bool again] w fun e w' => e = .returned (.int .i64 E) ∧ Chg Non w w' := by
  have e0 : (E != 0) = true := by simp [hE]
  clear hE
  go_enter Try.func19, Try.ntmps19
  go_wp2_with fail
  refine h.mono ?_
  rintro e w1 ⟨rfl, k1⟩
  go_wp2
  go_ret
  exact ⟨rfl, k1⟩

set_option maxHeartbeats 1000000 in
set_option maxRecDepth 100000 in
theorem correct_err (bv bm bo : Nat) (N E price : Int) (P : Value) (w : World) (hE : E ≠ 0) (h : Calls Try.prog 34 #[.pointer (some ⟨bv, 0, none⟩), .int .i64 N] w fun e w' => e = .returned (.tuple #[P, .int .i64 E]) ∧ Chg Non w w') :
    Calls Try.prog 20 #[.pointer (some ⟨bv, 0, none⟩), .int .i64 N, .int .i64 price] w fun e w' => e = .returned (.int .i64 E) ∧ Chg Non w w' := by
  have e0 : (E != 0) = true := by simp [hE]
  clear hE
  go_enter Try.func20, Try.ntmps20
  go_wp2_with fail
  refine h.mono ?_
  rintro e w1 ⟨rfl, k1⟩
  go_wp2
  go_ret
  exact ⟨rfl, k1⟩

end Go.Proofs.Ytekjibkliogipaa
