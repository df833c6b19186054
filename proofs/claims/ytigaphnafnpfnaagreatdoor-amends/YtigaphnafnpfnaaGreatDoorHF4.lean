import Derived.Test.YtigaphnafnpfnaaGreatDoorHF1
import Derived.Test.YtigaphnafnpfnaaGreatDoorHJ5
/- takeBack of an order of which something is open; Bust and Correct at an error -/
set_option linter.unusedVariables false
set_option linter.unusedSimpArgs false
namespace Go.Proofs.YtigaphnafnpfnaaGreatDoor
open Go.RowKit Go.Maps
attribute [local go_sem ↓] Go.wp_at_zero Go.wp_at_succ

set_option maxHeartbeats 4000000 in
set_option maxRecDepth 100000 in
theorem takeBack_more (bv bm bo i b s t k : Nat) (V : Ven) (id q : Int) (w : World) (R : Rep w bv bm bo V) (hi : i < V.nb) (hid : V.oid id = some b) (hsym : (V.om b).sym = (V.B i).sym) (hlen : (V.B i).sym.size ≤ maxLen) (hs : s < 2) (ht : t = 1 - s) (hside : (V.om b).side = (t : Int))
    (hr : restsB (V.om b).kind = true) (hf : firstG (V.B i) V.om (askOf (V.om b)) s = none) (h0 : 0 < (V.om b).opn) (hk : k < (V.B i).n t) (hkb : (V.B i).h t k = b) (hn : (V.B i).n t < 1000) (hna : 0 < V.lg.na) (hna2 : V.lg.na ≤ 1000000) (hnt : V.lg.nt.length + 3 < 1000000) :
    Calls Tryz.prog 75 #[.pointer (some ⟨bv, 0, none⟩), .pointer (some ⟨b, 0, none⟩), .int .i64 q, .bool true] w fun e w' => e = .returned (.tuple #[]) ∧
      ∃ g cap', Mk w' (V.bk i) (((V.B i).leave V.om t k).rest (againOm V i b q) t b g cap') (againOm V i b q) (fun x => ∃ id, V.oid id = some x) ∧ Noted bv bm bo V.lg V.lm [.left b, .now b (V.om b), .rested b (V.om b).place] w w' ∧ Chg (fun x => (x = V.bk i ∨ x = b ∨ SdB (V.B i) t x) ∨ ActF V.lm.av V.lm.ac x) w w' ∧ (adB ((V.B i).sl t) = some g ∨ w.heap.size ≤ g) := by
  obtain ⟨-, ix, ho⟩ := R.ords id b hid
  have t2 : t < 2 := by omega
  have L1 : ∀ n, (Instr.lookup 94 (.map (some bm)) (.string (V.B i).sym) false).run Tryz.prog (w.drewN n) = .ok (.pointer (some ⟨V.bk i, 0, none⟩)) (w.drewN n) := fun n => (R.kept0 ((Chg.refl Non w).drewN n)).lookB hi hlen
  have L1d : (Instr.lookup 94 (.map (some bm)) (.string (V.B i).sym) false).run Tryz.prog w.drew = .ok (.pointer (some ⟨V.bk i, 0, none⟩)) w.drew := L1 1
  have v0 : w.cell? ⟨bv, 0, none⟩ = some (.map (some bm)) := R.ven.cell 0
  have o2 : w.cell? ⟨b, 2, none⟩ = some (.string (V.B i).sym) := by rw [← hsym]; exact ho.cell 2
  have hinj : Inj ((V.B i).n t) ((V.B i).h t) := ((R.book i hi).side t t2).inj
  have sub : ∀ x, SdB ((V.B i).leave V.om t k) t x → SdB (V.B i) t x := by
    rintro x (h | ⟨l, hl, e⟩)
    · exact .inl h
    · obtain ⟨k', hk', e', _⟩ := leave_memk (om := V.om) hinj hk l hl
      exact .inr ⟨k', hk', by rw [e, e']⟩
  have HLe := hide (fun (W : World) (kk : Chg Non w W) => leave_mk (V.bk i) (V.B i) V.om (fun x => ∃ id, V.oid id = some x) t k W ((R.kept0 kk).mkt hi) t2 hk (by rw [hkb]; exact hside))
  have HC := hide (fun (W : World) (m : Mk W (V.bk i) ((V.B i).leave V.om t k) V.om (fun x => ∃ id, V.oid id = some x)) => openFilled_mk (V.bk i) b _ V.om _ q W m ⟨id, hid⟩)
  have HF := hide (fun (W : World) (k : Chg Non w W) => firstGood_any (V.bk i) (V.B i) V.om (askOf (V.om b)) s W ((R.kept0 k).book i hi) hs (by rw [show (askOf (V.om b)).side = (V.om b).side from rfl, hside, ht]; omega))
  have HO : Hid (∀ W, Chg Non w W → IsOrd W b (V.om b) ix) := fun W k => k.blk ho (fun x => x)
  have hnew : ∀ x, x < 2 → ∀ l, l < ((V.B i).leave V.om t k).n x → ((V.B i).leave V.om t k).h x l ≠ b := by
    intro x hx l hl
    by_cases e : x = t
    · subst e
      obtain ⟨k', _, e', hne⟩ := leave_memk (om := V.om) hinj hk l hl
      rw [e', ← hkb]; exact hne
    · simp only [Bk.leave, upd_other _ _ e] at hl ⊢
      rw [← hkb]
      have hd := (R.book i hi).disj
      have : (x = 0 ∧ t = 1) ∨ (x = 1 ∧ t = 0) := by omega
      rcases this with ⟨rfl, rfl⟩ | ⟨rfl, rfl⟩
      · exact hd l k hl hk
      · exact fun e => hd k l hk hl e.symm
  have HRest : Hid (∀ W, Mk W (V.bk i) ((V.B i).leave V.om t k) (upd V.om b (openF (V.om b) q)) (fun x => ∃ id, V.oid id = some x) → Calls Tryz.prog 122 #[.pointer (some ⟨V.bk i, 0, none⟩), .pointer (some ⟨b, 0, none⟩)] W fun e w' => ∃ fn cp, e = .returned (.func fn #[] cp) ∧ IsRestF w' (V.bk i) b (V.om b).place W.heap.size fn cp ∧
      ∃ g cap', Mk w' (V.bk i) (((V.B i).leave V.om t k).rest (againOm V i b q) t b g cap') (againOm V i b q) (fun x => ∃ id, V.oid id = some x) ∧ Chg (fun x => x = V.bk i ∨ x = b ∨ SdB ((V.B i).leave V.om t k) t x) W w' ∧ (adB ((V.B i).sl t) = some g ∨ W.heap.size ≤ g)) := by
    intro W m
    obtain ⟨ix', ho'⟩ := m.ords b ⟨id, hid⟩
    refine (rest_fn (V.bk i) b t ((V.B i).leave V.om t k) _ ix' W m.book ho' t2 (by rw [upd_same]; exact hside) hnew (by simp only [Bk.leave, upd_same]; omega)).mono ?_
    rintro e w' ⟨fn, cp, rfl, hcl, g, cap', hb, kk, hg⟩
    rw [upd_same] at hb hcl
    refine ⟨fn, cp, rfl, hcl, g, cap', m.rest (om' := againOm V i b q) t2 ⟨id, hid⟩ (fun x hx => by unfold againOm; rw [upd_other _ _ hx]) hb kk, kk, hg⟩
  have HN1 : Hid (∀ W w3 fn cp, Chg Non w W → Chg (fun x => x = V.bk i ∨ SdB (V.B i) t x) W w3 → Mk w3 (V.bk i) ((V.B i).leave V.om t k) V.om (fun x => ∃ id, V.oid id = some x) →
      Calls Tryz.prog 53 #[.pointer (some ⟨bv, 0, none⟩), .slice (some ⟨w3.heap.size, 0, none⟩) 1 1] (w3.alloc (.cells #[.func fn #[] cp] 1)) fun e w' => e = .returned (.tuple #[]) ∧ Mk w' (V.bk i) ((V.B i).leave V.om t k) V.om (fun x => ∃ id, V.oid id = some x) ∧
        ∃ lm3, IsLog w' bv bm bo (V.lg.noted [.left b]) lm3 ∧ (∀ x, lm3.F x → V.lm.F x ∨ w.heap.size ≤ x) ∧ (∀ x, ActF lm3.av lm3.ac x → ActF V.lm.av V.lm.ac x ∨ w.heap.size ≤ x) ∧ Chg (fun x => (x = V.bk i ∨ x = b ∨ SdB (V.B i) t x) ∨ ActF V.lm.av V.lm.ac x) w w') := by
    intro W w3 fn cp kW k3 m3
    have h3 := (R.log.kept0 kW).keptT k3 (fun x h => ((R.kept0 kW).mkt hi).typ (by
      rcases h with h | h
      · exact .inl h
      · exact .inr (.inr ⟨t, t2, h⟩)))
    refine (note1A bv bm bo V.lg V.lm (.left b) fn cp w3 h3 hna hna2 (by omega)).mono ?_
    rintro e w' ⟨rfl, lm', a1, a2, a3, a4⟩
    have kk : Chg (fun x => (x = V.bk i ∨ x = b ∨ SdB (V.B i) t x) ∨ ActF V.lm.av V.lm.ac x) w w3 := kW.of_non.trans (k3.mono (fun x h => .inl (h.imp_right .inr)))
    exact ⟨rfl, m3.keptLog h3 (a3.mono (fun _ h => .inr (.inr (.inr (.inr h))))), lm', a1, fun x hx => (a2 x hx).imp_right (fun h => Nat.le_trans kk.size h), fun x hx => (a4 x hx).imp_right (fun h => Nat.le_trans kk.size h), kk.trans (a3.mono (fun _ h => .inr h))⟩
  have HN2 : Hid (∀ w3 lm3 w4 w5 fn4 cp4 fn5 cp5 g cap', Mk w3 (V.bk i) ((V.B i).leave V.om t k) V.om (fun x => ∃ id, V.oid id = some x) → IsLog w3 bv bm bo (V.lg.noted [.left b]) lm3 → (∀ x, lm3.F x → V.lm.F x ∨ w.heap.size ≤ x) → (∀ x, ActF lm3.av lm3.ac x → ActF V.lm.av V.lm.ac x ∨ w.heap.size ≤ x) → Chg (fun x => (x = V.bk i ∨ x = b ∨ SdB (V.B i) t x) ∨ ActF V.lm.av V.lm.ac x) w w3 →
      Chg (fun x => x = b) w3 w4 → Mk w4 (V.bk i) ((V.B i).leave V.om t k) (upd V.om b (openF (V.om b) q)) (fun x => ∃ id, V.oid id = some x) → Mk w5 (V.bk i) (((V.B i).leave V.om t k).rest (againOm V i b q) t b g cap') (againOm V i b q) (fun x => ∃ id, V.oid id = some x) → Chg (fun x => x = V.bk i ∨ x = b ∨ SdB ((V.B i).leave V.om t k) t x) w4 w5 → (adB ((V.B i).sl t) = some g ∨ w4.heap.size ≤ g) →
      Calls Tryz.prog 53 #[.pointer (some ⟨bv, 0, none⟩), .slice (some ⟨w5.heap.size, 0, none⟩) 2 2] (w5.alloc (.cells #[.func fn4 #[] cp4, .func fn5 #[] cp5] 1)) fun e w' => e = .returned (.tuple #[]) ∧ ∃ g cap', Mk w' (V.bk i) (((V.B i).leave V.om t k).rest (againOm V i b q) t b g cap') (againOm V i b q) (fun x => ∃ id, V.oid id = some x) ∧ Noted bv bm bo V.lg V.lm [.left b, .now b (V.om b), .rested b (V.om b).place] w w' ∧ Chg (fun x => (x = V.bk i ∨ x = b ∨ SdB (V.B i) t x) ∨ ActF V.lm.av V.lm.ac x) w w' ∧ (adB ((V.B i).sl t) = some g ∨ w.heap.size ≤ g)) := by
    intro w3 lm3 w4 w5 fn4 cp4 fn5 cp5 g cap' m3 h3 f3 c3 kc3 k4 m4 m5 k5 hg
    have h4 := h3.keptT k4 (fun x h => by subst h; exact m3.typ (.inr (.inl ⟨id, hid⟩)))
    have h5 := h4.keptT k5 (fun x h => m4.typ (by
      rcases h with h | h | h
      · exact .inl h
      · exact .inr (.inl ⟨id, by rw [h]; exact hid⟩)
      · exact .inr (.inr ⟨t, t2, h⟩)))
    refine (note2A bv bm bo (V.lg.noted [.left b]) lm3 (.now b (V.om b)) (.rested b (V.om b).place) fn4 fn5 cp4 cp5 w5 h5 hna hna2 (by simp only [Lg.noted, List.length_append, List.length_cons, List.length_nil]; omega)).mono ?_
    rintro e w' ⟨rfl, lm', a1, a2, a3, -⟩
    rw [noted_noted] at a1
    have kc4 := kc3.trans (k4.mono (fun x h => .inl (.inr (.inl h))))
    have kc5 := kc4.trans (k5.mono (fun x h => by
      rcases h with h | h | h
      · exact .inl (.inl h)
      · exact .inl (.inr (.inl h))
      · exact .inl (.inr (.inr (sub x h)))))
    refine ⟨rfl, g, cap', m5.keptLog h5 (a3.mono (fun _ h => .inr (.inr (.inr (.inr h))))), ⟨lm', a1, fun x hx => ?_⟩, kc5.from (a3.mono (fun x h => (c3 x h).imp_left (fun h => .inr h))), hg.imp_right (fun h => Nat.le_trans kc4.size h)⟩
    rcases a2 x hx with h | h
    · exact f3 x h
    · exact .inr (Nat.le_trans kc5.size h)
  have HF' := hide hf
  have e0 : decide (0 < (V.om b).opn) = true := by simp [h0]
  have HE0 := hide e0
  have HR := hide hr
  have HKB := hide hkb
  rw [hkb] at HLe
  clear R hid hsym hside hf ho hs h0 e0 hr hnew hn hkb hinj sub
  go_enter Tryz.func75, Tryz.ntmps75
  go_wp2
  go_quiet (fail)
  have hq : Chg Non w (w.drewN nq) := (Chg.refl Non w).drewN _
  obtain ⟨w1, hw1⟩ : ∃ w1, w1 = w.drewN nq := ⟨_, rfl⟩
  rw [← hw1] at hq ⊢
  clear hw1 L1 L1d v0 o2
  go_wp2_with fail
  refine (rests_any b _ ix w1 (unhide HO w1 hq)).mono ?_
  rintro e w1' ⟨rfl, hww⟩
  rw [hww]
  clear hww w1'
  rw [unhide HR]
  have hoc := unhide HO _ hq
  have cc0 : w1.cell? ⟨b, 0, none⟩ = some (.int .i64 (V.om b).id) := hoc.cell 0
  have cc1 : w1.cell? ⟨b, 1, none⟩ = some (.int .i64 (V.om b).owner) := hoc.cell 1
  have cc2 : w1.cell? ⟨b, 2, none⟩ = some (.string (V.om b).sym) := hoc.cell 2
  have cc3 : w1.cell? ⟨b, 3, none⟩ = some (.int .i64 (V.om b).side) := hoc.cell 3
  have cc4 : w1.cell? ⟨b, 4, none⟩ = some (.int .i64 (V.om b).kind) := hoc.cell 4
  have cc5 : w1.cell? ⟨b, 5, none⟩ = some (.int .i64 (V.om b).price) := hoc.cell 5
  have cc6 : w1.cell? ⟨b, 6, none⟩ = some (.int .i64 (V.om b).qty) := hoc.cell 6
  clear hoc
  go_wp2_with fail
  refine (unhide HF _ hq).mono ?_
  rintro e w2 ⟨rfl, k2⟩
  rw [unhide HF']
  simp only [ptrO]
  have hq2 := hq.trans k2
  have o8 : w2.cell? ⟨b, 8, none⟩ = some (.int .i64 (V.om b).opn) := (unhide HO _ hq2).cell 8
  have e0 := unhide HE0
  clear cc0 cc1 cc2 cc3 cc4 cc5 cc6
  go_wp2_with fail
  refine (unhide HLe _ hq2).mono ?_
  rintro e w3 ⟨fn3, cp3, rfl, -, m3, k3⟩
  clear o8 e0
  go_wp2_with fail
  refine (unhide HN1 _ w3 fn3 cp3 hq2 k3 m3).mono ?_
  rintro e w3' ⟨rfl, m3', lm3, h3', f3', c3', kc3'⟩
  go_wp2_with fail
  refine (unhide HC _ m3').mono ?_
  rintro e w4 ⟨fn4, cp4, rfl, -, m4, k4⟩
  go_wp2_with fail
  refine (unhide HRest w4 m4).mono ?_
  rintro e w5 ⟨fn5, cp5, rfl, -, g, cap', m5, k5, hg⟩
  go_wp2_with fail
  refine (unhide HN2 w3' lm3 w4 w5 fn4 cp4 fn5 cp5 g cap' m3' h3' f3' c3' kc3' k4 m4 m5 k5 hg).mono ?_
  rintro e wz ⟨rfl, rz⟩
  go_wp2
  go_end0
  exact ⟨rfl, rz⟩

set_option maxHeartbeats 1000000 in
set_option maxRecDepth 100000 in
theorem bust_err (bv : Nat) (N E : Int) (again : Bool) (po : Option Addr) (w : World) (hE : E ≠ 0) (h : ∀ W, Chg Non w W → Calls Tryz.prog 71 #[.pointer (some ⟨bv, 0, none⟩), .int .i64 N] W fun e w' => e = .returned (.tuple #[.pointer po, .int .i64 E]) ∧ Chg Non W w') :
    Calls Tryz.prog 39 #[.pointer (some ⟨bv, 0, none⟩), .int .i64 N, .bool again] w fun e w' => e = .returned (.int .i64 E) ∧ Chg Non w w' := by
  have e0 : (E != 0) = true := by simp [hE]
  have k0 : Chg Non w (w.alloc (.cells #[.pointer (some ⟨bv, 0, none⟩)] 35)) := (Chg.refl Non w).alloc _
  have H := hide (h _ k0)
  clear hE h
  go_enter Tryz.func39, Tryz.ntmps39
  go_wp2_with fail
  refine (unhide H).mono ?_
  rintro e w1 ⟨rfl, k1⟩
  go_wp2
  go_ret
  exact ⟨rfl, (k0.trans k1).alloc _⟩

set_option maxHeartbeats 1000000 in
set_option maxRecDepth 100000 in
theorem correct_err (bv : Nat) (N E price : Int) (po : Option Addr) (w : World) (hE : E ≠ 0) (h : ∀ W, Chg Non w W → Calls Tryz.prog 71 #[.pointer (some ⟨bv, 0, none⟩), .int .i64 N] W fun e w' => e = .returned (.tuple #[.pointer po, .int .i64 E]) ∧ Chg Non W w') :
    Calls Tryz.prog 40 #[.pointer (some ⟨bv, 0, none⟩), .int .i64 N, .int .i64 price] w fun e w' => e = .returned (.int .i64 E) ∧ Chg Non w w' := by
  have e0 : (E != 0) = true := by simp [hE]
  have k0 : Chg Non w (w.alloc (.cells #[.pointer (some ⟨bv, 0, none⟩)] 35)) := (Chg.refl Non w).alloc _
  have H := hide (h _ k0)
  clear hE h
  go_enter Tryz.func40, Tryz.ntmps40
  go_wp2_with fail
  refine (unhide H).mono ?_
  rintro e w1 ⟨rfl, k1⟩
  go_wp2
  go_ret
  exact ⟨rfl, (k0.trans k1).alloc _⟩

end Go.Proofs.YtigaphnafnpfnaaGreatDoor

/- Bust -/
set_option linter.unusedVariables false
set_option linter.unusedSimpArgs false
namespace Go.Proofs.YtigaphnafnpfnaaGreatDoor
open Go.RowKit Go.Maps
attribute [local go_sem ↓] Go.wp_at_zero Go.wp_at_succ

/-- only the log has turned -/
theorem Rep.relog {w w' : World} {bv bm bo : Nat} {V : Ven} {G' : Lg} {lm' : Lm} (R : Rep w bv bm bo V) (hl : IsLog w' bv bm bo G' lm') (k : Chg (fun b => b = bv ∨ V.lm.F b) w w') : Rep w' bv bm bo { V with lg := G', lm := lm' } := by
  obtain ⟨fB, mB, fB1, fB2⟩ := R.books
  obtain ⟨fO, mO, fO1⟩ := R.orders
  have typ : ∀ b, (b = bv ∨ V.lm.F b) → ∃ c t, Blk w b c t := by
    rintro b (rfl | h)
    · exact ⟨_, _, R.ven⟩
    · obtain ⟨c, t, hc, _⟩ := R.log.log.typ h; exact ⟨c, t, hc⟩
  have nB : ¬ (bm = bv ∨ V.lm.F bm) := fun h => by obtain ⟨c, t, hc⟩ := typ bm h; exact mB.ne hc rfl
  have nO : ¬ (bo = bv ∨ V.lm.F bo) := fun h => by obtain ⟨c, t, hc⟩ := typ bo h; exact mO.ne hc rfl
  refine ⟨hl, ⟨fB, mB.kept k nB, fB1, fB2⟩, ⟨fO, mO.kept k nO, fO1⟩, R.mne, fun i hi => ((R.mkt hi).keptLog R.log k).book, fun id b h => ⟨(R.ords id b h).1, ?_⟩, R.mem, R.sepb, R.seps, R.no200⟩
  obtain ⟨_, ix, ho⟩ := R.ords id b h
  refine ⟨ix, k.blk ho ?_⟩
  rintro (e | e)
  · exact Blk.ne ho R.ven (by decide) e
  · exact R.log.log.ne ho (by decide) (by decide) (by decide) (by decide) (by decide) e

/-- a trade holds no longer -/
def Lg.unhold (G : Lg) (k : Nat) (t : Tr) : Lg := { G with tr := G.tr.set k ⟨t, false⟩ }

theorem IsLogp.unhold {w : World} {bv bm bo k b : Nat} {G : Lg} {m : Lm} {x : Tg} (h : IsLog w bv bm bo G m) (hx : G.tr[k]? = some x) (hb : m.tb[k]? = some b) : IsLog (w.setCell ⟨b, 7, none⟩ (.bool false)) bv bm bo (G.unhold k x.t) m := by
  have hblk := h.log.blk k b x hb hx
  have kk : Chg (fun y => y = b) w (w.setCell ⟨b, 7, none⟩ (.bool false)) := (Chg.refl (fun y => y = b) w).setCell (p := ⟨b, 7, none⟩) (.inl rfl) _
  refine ⟨kk.blk h.ven (Blk.ne h.ven hblk (by decide)), ?_⟩
  have ht := own_kept h.log.trow kk (fun y hy e => own_ne h.log.trow hy hblk (by decide) e)
  refine ⟨?_, own_kept h.log.prow kk (fun y hy e => own_ne h.log.prow hy hblk (by decide) e), by simp [Lg.unhold, h.log.len], fun i b' g hi hg => ?_, h.log.nodup, h.log.act.kept kk (fun y hy e => ?_), own_kept h.log.jrow kk (fun y hy e => own_ne h.log.jrow hy hblk (by decide) e), h.log.jb⟩
  · simp only [Lg.unhold, List.length_set]; exact ht
  · simp only [Lg.unhold] at hg
    by_cases e : i = k
    · subst e
      obtain rfl : b' = b := by rw [hb] at hi; exact (Option.some.inj hi).symm
      have hlt : i < G.tr.length := (List.getElem?_eq_some_iff.1 hx).1
      rw [List.getElem?_set_self hlt] at hg
      obtain rfl := Option.some.inj hg
      exact hblk.set 7 _
    · rw [List.getElem?_set_ne (fun h => e h.symm)] at hg
      refine kk.blk (h.log.blk i b' g hi hg) (fun e2 => e ?_)
      subst e2
      obtain ⟨h1, e1⟩ := List.getElem?_eq_some_iff.1 hi
      obtain ⟨h2, e2⟩ := List.getElem?_eq_some_iff.1 hb
      rcases Nat.lt_trichotomy i k with hlt | hlt | hlt
      · exact absurd (e1.trans e2.symm) (List.pairwise_iff_getElem.1 h.log.nodup i k h1 h2 hlt)
      · exact hlt
      · exact absurd (e2.trans e1.symm) (List.pairwise_iff_getElem.1 h.log.nodup k i h2 h1 hlt)
  · obtain ⟨c, t, hc, ht'⟩ := h.log.act.typ hy
    subst e
    exact Blk.ne hc hblk (by rcases ht' with rfl | rfl <;> decide) rfl

/-- what a log keeps where only notes are added -/
def LgK (G G' : Lg) (n : Nat) : Prop := G'.tr = G.tr ∧ G'.tp = G.tp ∧ G'.day = G.day ∧ G'.na = G.na ∧ G'.nt.length ≤ G.nt.length + n

/-- what takeBack leaves -/
def Turned (bv bm bo : Nat) (V : Ven) (Q : Ven → Prop) (w w' : World) : Prop :=
  ∃ V2, Rep w' bv bm bo V2 ∧ Q V2 ∧ LgK V.lg V2.lg 3 ∧ (∀ b c t, Blk w b c t → (t = 105 ∨ t = 35 ∨ t = 103) → Blk w' b c t) ∧ V2.oid = V.oid ∧ Chg (Foot bv bm bo V) w w' ∧ ∀ x, Foot bv bm bo V2 x → Foot bv bm bo V x ∨ w.heap.size ≤ x

/-- the log where a trade is busted, ahead of what is taken back -/
def Lg.busting (G : Lg) (k tb : Nat) (t : Tr) : Lg := ((G.begun.unhold k t).told 2 t).noted [.busted tb]

set_option maxHeartbeats 4000000 in
set_option maxRecDepth 100000 in
theorem bust_ok (bv bm bo k tb bx by' : Nat) (V : Ven) (N : Int) (x : Tg) (again : Bool) (w : World) (R : Rep w bv bm bo V) (hTab : Tab w) (hN : N - 1 = (k : Int)) (hx : V.lg.tr[k]? = some x) (htb : V.lm.tb[k]? = some tb) (hlen : V.lg.tr.length ≤ 1000000) (hlen2 : V.lg.tp.length < 1000000) (hput : putE x V.lg.day = 0)
    (hbuy : V.oid x.t.buy = some bx) (hsell : V.oid x.t.sell = some by') (hw1 : (Lit.int .i64 x.t.buy).wf = true) (hw2 : (Lit.int .i64 x.t.sell).wf = true) (Q2 Q3 : Ven → Prop) (hna : V.lg.na < 1000000)
    (h2 : ∀ w1 lm1, Rep w1 bv bm bo { V with lg := V.lg.busting k tb x.t, lm := lm1 } → Calls Tryz.prog 75 #[.pointer (some ⟨bv, 0, none⟩), .pointer (some ⟨bx, 0, none⟩), .int .i64 x.t.qty, .bool again] w1 fun e w' => e = .returned (.tuple #[]) ∧ Turned bv bm bo { V with lg := V.lg.busting k tb x.t, lm := lm1 } Q2 w1 w')
    (h3 : ∀ V2 w2, Q2 V2 → Rep w2 bv bm bo V2 → V2.oid = V.oid → V2.lg.na = V.lg.na + 1 → V2.lg.nt.length ≤ 4 → Calls Tryz.prog 75 #[.pointer (some ⟨bv, 0, none⟩), .pointer (some ⟨by', 0, none⟩), .int .i64 x.t.qty, .bool again] w2 fun e w' => e = .returned (.tuple #[]) ∧ Turned bv bm bo V2 Q3 w2 w') :
    Calls Tryz.prog 39 #[.pointer (some ⟨bv, 0, none⟩), .int .i64 N, .bool again] w fun e w' => e = .returned (.int .i64 0) ∧
      ∃ V3, Q3 V3 ∧ V3.oid = V.oid ∧ Rep w' bv bm bo V3 ∧ LgK (V.lg.busting k tb x.t) V3.lg 6 ∧ Chg (Foot bv bm bo V) w w' ∧ ∀ y, Foot bv bm bo V3 y → Foot bv bm bo V y ∨ w.heap.size ≤ y := by
  have bN : i64B N := by
    have hk := (List.getElem?_eq_some_iff.1 hx).1
    exact ⟨by omega, by omega⟩
  have k0 : Chg Non w (w.alloc (.cells #[.pointer (some ⟨bv, 0, none⟩)] 35)) := (Chg.refl Non w).alloc _
  have hT := toPut_at bv bm bo k tb V.lg V.lm N x _ (R.log.kept0 k0) hN hx htb hlen
  rw [hput] at hT
  simp only [if_true] at hT
  have HT := hide hT
  clear hT
  have hF : V.lm.F tb := .inr (.inr (.inl (List.mem_of_getElem? htb)))
  have hBv := Blk.new w #[.pointer (some ⟨bv, 0, none⟩)] 35
  have lv := R.ven.lt
  -- up to the first takeBack
  have HR := hide R
  have HX := hide hx
  have HTB := hide htb
  have HFt := hide hF
  have HH2 := hide h2
  have HH3 := hide h3
  clear hput hx htb R hF h2 h3
  go_enter Tryz.func39, Tryz.ntmps39
  go_wp2_with fail
  refine (unhide HT).mono ?_
  rintro e w1 ⟨rfl, k1⟩
  have kk1 : Chg Non w w1 := k0.trans k1
  obtain ⟨w1a, hw1a⟩ : ∃ w1a, w1a = w1.alloc (.cells #[.pointer (some ⟨tb, 0, none⟩)] 103) := ⟨_, rfl⟩
  have k1a : Chg Non w w1a := by rw [hw1a]; exact kk1.alloc _
  have bv1 : Blk w1a w.heap.size #[.pointer (some ⟨bv, 0, none⟩)] 35 := by rw [hw1a]; exact (k1.blk hBv (fun x => x)).alloc _
  have bt1 : Blk w1a w1.heap.size #[.pointer (some ⟨tb, 0, none⟩)] 103 := by rw [hw1a]; exact Blk.new _ _ _
  have R1 := (unhide HR).kept0 k1a
  have tb1 : Blk w1a tb x.cells 105 := R1.log.log.blk k tb x (unhide HTB) (unhide HX)
  have HBeg := hide (begin_from bv bm bo V.lg V.lm (bustL N again) w1a R1.log hna (bustL_size N again bN).1 (bustL_size N again bN).2)
  have HLn := hide (lineB_from N again w1a (hTab.kept0 k1a) bN)
  have xv1a : w1a.cell? ⟨w.heap.size, 0, none⟩ = some (.pointer (some ⟨bv, 0, none⟩)) := bv1.cell 0
  have HB1 := hide bv1
  have HV1 := hide R1.ven
  have HLo := hide R1.log
  have xv1 : w1.cell? ⟨w.heap.size, 0, none⟩ = some (.pointer (some ⟨bv, 0, none⟩)) := (k1.blk hBv (fun x => x)).cell 0
  have HW := hide hw1a
  have l1 : w.heap.size < w1.heap.size := by have := kk1.size; have := k1.size; simp at this; omega
  clear hw1a k1
  generalize bustL N again = ln at HBeg HLn
  have noB : ∀ wb, Chg (fun b => b = bv ∨ V.lm.av.ownBlock = some b ∨ V.lm.jv.ownBlock = some b) w1a wb → wb.cell? ⟨w.heap.size, 0, none⟩ = some (.pointer (some ⟨bv, 0, none⟩)) := fun wb kb => (kb.blk (unhide HB1) (by
    rintro (e | e | e)
    · exact Blk.ne (unhide HB1) (unhide HV1) (by decide) e
    · exact own_ne (unhide HLo).log.act.row e (unhide HB1) (by decide) rfl
    · exact own_ne (unhide HLo).log.jrow e (unhide HB1) (by decide) rfl)).cell 0
  have HNoB := hide noB
  clear noB
  go_wp2
  rw [← unhide HW]
  go_region_held3 (fun w' => w'.cell? ⟨w.heap.size, 0, none⟩ = some (.pointer (some ⟨bv, 0, none⟩))) (go_keep)
    (first
      | (go_at_call 72; refine (unhide HLn _ ?cc).mono ?_; (case cc => repeat (first | exact Chg.refl _ _ | refine Chg.drew ?_)); rintro e wl ⟨rfl, hk⟩; have z0 := hk.cell (p := ⟨w.heap.size, 0, none⟩) xv1a (fun x => x); have HKl := hide hk; clear hk)
      | (go_at_call 51; refine (unhide HBeg _ ?cc).mono ?_; (case cc => repeat (first | exact unhide HKl | refine Chg.drew ?_)); rintro e wb ⟨rfl, lmb, hLb, hFb, -, htbb, kb⟩; have z0 := unhide HNoB wb kb; have HLb0 := hide hLb; have HFb0 := hide hFb; have HKb0 := hide kb; have HTb0 := hide htbb; clear hLb hFb kb htbb))
  rename_i hSk
  clear hSk z0 xv1a HLn HKl HNoB
  have hLb := unhide HLb0
  have hFb := unhide HFb0
  have kb := unhide HKb0
  have htbb := unhide HTb0
  clear HLb0 HFb0 HKb0 HTb0 HB1 HV1 HLo
  have nob : ∀ {b c t}, Blk w1a b c t → t ≠ 100 → t ≠ 109 → t ≠ 5 → Blk wb b c t := fun h h0 h1 h2 => kb.blk h (by
    rintro (e | e | e)
    · exact Blk.ne h R1.ven h0 e
    · exact own_ne R1.log.log.act.row e h (fun e => h1 e.symm) rfl
    · exact own_ne R1.log.log.jrow e h (fun e => h2 e.symm) rfl)
  have bvb := nob bv1 (by decide) (by decide) (by decide)
  have btb := nob bt1 (by decide) (by decide) (by decide)
  have tbb := nob tb1 (by decide) (by decide) (by decide)
  have hL2 : IsLog (wb.setCell ⟨tb, 7, none⟩ (.bool false)) bv bm bo (V.lg.begun.unhold k x.t) lmb := hLb.unhold (unhide HX) (by rw [htbb]; exact unhide HTB)
  have xtb : wb.cell? ⟨w1.heap.size, 0, none⟩ = some (.pointer (some ⟨tb, 0, none⟩)) := btb.cell 0
  have t7 := tbb.cell 7
  have f7 := tbb.frozen 7
  simp only [Tg.cells] at t7
  simp at t7
  obtain ⟨w2, hw2'⟩ : ∃ w2, w2 = wb.setCell ⟨tb, 7, none⟩ (.bool false) := ⟨_, rfl⟩
  have k2 : Chg (fun y => y = tb) wb w2 := by rw [hw2']; exact (Chg.refl (fun y => y = tb) wb).setCell (p := ⟨tb, 7, none⟩) (.inl rfl) _
  have tb2 : Blk w2 tb (Tg.cells ⟨x.t, false⟩) 105 := by rw [hw2']; exact tbb.set 7 _
  rw [← hw2'] at hL2
  have bv2 := k2.blk bvb (fun e => Blk.ne bvb tbb (by decide) e)
  have bt2 := k2.blk btb (fun e => Blk.ne btb tbb (by decide) e)
  have kF2 : Chg (fun y => y = bv ∨ V.lm.F y) w w2 := (k1a.of_non.trans (kb.mono (fun y h => h.imp_right (fun h => h.elim (fun h => .inr (.inr (.inr (.inl h)))) (fun h => .inr (.inl (.inr h))))))).trans (k2.mono (fun y h => .inr (by rw [h]; exact unhide HFt)))
  have hFb' : ∀ y, lmb.F y → V.lm.F y ∨ w.heap.size ≤ y := fun y h => (hFb y h).imp_right (fun h => Nat.le_trans k1a.size h)
  have hT2 := tell_any bv bm bo _ lmb 2 x.t w2.drew (hL2.kept0 (Chg.refl Non w2).drew) (by simp only [Lg.unhold, Lg.begun]; exact hlen2)
  simp only [Tr.val] at hT2
  have HT2 := hide hT2
  have HW2 := hide hw2'
  have HL2 := hide hL2
  have x2 : w2.cell? ⟨w.heap.size, 0, none⟩ = some (.pointer (some ⟨bv, 0, none⟩)) := bv2.cell 0
  have y2 : w2.cell? ⟨w1.heap.size, 0, none⟩ = some (.pointer (some ⟨tb, 0, none⟩)) := bt2.cell 0
  have d0 : w2.cell? ⟨tb, 0, none⟩ = some (.int .i64 x.t.num) := tb2.cell 0
  have d1 : w2.cell? ⟨tb, 1, none⟩ = some (.string x.t.sym) := tb2.cell 1
  have d2 : w2.cell? ⟨tb, 2, none⟩ = some (.int .i64 x.t.price) := tb2.cell 2
  have d3 : w2.cell? ⟨tb, 3, none⟩ = some (.int .i64 x.t.qty) := tb2.cell 3
  have d4 : w2.cell? ⟨tb, 4, none⟩ = some (.int .i64 x.t.buy) := tb2.cell 4
  have d5 : w2.cell? ⟨tb, 5, none⟩ = some (.int .i64 x.t.sell) := tb2.cell 5
  have d6 : w2.cell? ⟨tb, 6, none⟩ = some (.int .i64 x.t.day) := tb2.cell 6
  have HK3 : Hid (∀ w3, Chg (fun b => b = bv ∨ lmb.pv.ownBlock = some b) w2.drew w3 → ∀ {b c t}, Blk w2 b c t → t ≠ 100 → t ≠ 62 → Blk w3 b c t) := fun w3 kc b c t h h0 h1 => kc.blk h.drew (by
    rintro (e | e)
    · exact Blk.ne h hL2.ven h0 e
    · exact own_ne hL2.log.prow e h (fun e => h1 e.symm) rfl)
  have HBv := hide bv2
  have HBt := hide bt2
  have HTb := hide tb2
  have HKF := hide kF2
  have HFb := hide hFb'
  clear hT2 hw2' hL2 k2 tb2 bv2 bt2 bvb btb tbb nob kb hLb hFb htbb tb1 bt1 bv1 R1 k1a kk1 HBeg HW HT hFb' kF2 xv1 k0 hBv
  go_wp2
  rw [← unhide HW2]
  clear xtb t7 f7
  go_region_held3 (fun w' => w'.cell? ⟨w.heap.size, 0, none⟩ = some (.pointer (some ⟨bv, 0, none⟩)) ∧ w'.cell? ⟨w1.heap.size, 0, none⟩ = some (.pointer (some ⟨tb, 0, none⟩)) ∧ w'.cell? ⟨tb, 0, none⟩ = some (.int .i64 x.t.num) ∧ w'.cell? ⟨tb, 1, none⟩ = some (.string x.t.sym) ∧ w'.cell? ⟨tb, 2, none⟩ = some (.int .i64 x.t.price) ∧ w'.cell? ⟨tb, 3, none⟩ = some (.int .i64 x.t.qty) ∧ w'.cell? ⟨tb, 4, none⟩ = some (.int .i64 x.t.buy) ∧ w'.cell? ⟨tb, 5, none⟩ = some (.int .i64 x.t.sell) ∧ w'.cell? ⟨tb, 6, none⟩ = some (.int .i64 x.t.day)) (go_keep)
    (first | (go_at_call 73; refine (unhide HT2).mono ?_; rintro e w3 ⟨rfl, lm3, c1, c2, c3⟩; have bv3 := unhide HK3 w3 c3 (unhide HBv) (by decide) (by decide); have bt3 := unhide HK3 w3 c3 (unhide HBt) (by decide) (by decide); have tb3 := unhide HK3 w3 c3 (unhide HTb) (by decide) (by decide); have a0 : w3.cell? ⟨w.heap.size, 0, none⟩ = some (.pointer (some ⟨bv, 0, none⟩)) := bv3.cell 0; have a1 : w3.cell? ⟨w1.heap.size, 0, none⟩ = some (.pointer (some ⟨tb, 0, none⟩)) := bt3.cell 0; have b0 : w3.cell? ⟨tb, 0, none⟩ = some (.int .i64 x.t.num) := tb3.cell 0; have b1 : w3.cell? ⟨tb, 1, none⟩ = some (.string x.t.sym) := tb3.cell 1; have b2 : w3.cell? ⟨tb, 2, none⟩ = some (.int .i64 x.t.price) := tb3.cell 2; have b3 : w3.cell? ⟨tb, 3, none⟩ = some (.int .i64 x.t.qty) := tb3.cell 3; have b4 : w3.cell? ⟨tb, 4, none⟩ = some (.int .i64 x.t.buy) := tb3.cell 4; have b5 : w3.cell? ⟨tb, 5, none⟩ = some (.int .i64 x.t.sell) := tb3.cell 5; have b6 : w3.cell? ⟨tb, 6, none⟩ = some (.int .i64 x.t.day) := tb3.cell 6; have HC1 := hide c1; have HC2 := hide c2; have HC3 := hide c3; have HV3 := hide bv3; have HT3 := hide bt3; have HTB3 := hide tb3; clear c1 c2 c3 bv3 bt3 tb3))
  rename_i hSk
  clear hSk x2 y2 d0 d1 d2 d3 d4 d5 d6 HT2
  have HNt := hide (note1A bv bm bo _ lm3 (.busted tb) (.func 74) #[.pointer (some ⟨w1.heap.size, 0, none⟩), .pointer (some ⟨w.heap.size, 0, none⟩)] w3 (unhide HC1) (by show 0 < V.lg.na + 1; omega) (by show V.lg.na + 1 ≤ 1000000; omega) (by show 0 + 1 < 1000000; omega))
  have hF3 : ∀ y, lm3.F y → V.lm.F y ∨ w.heap.size ≤ y := fun y h => by
    rcases unhide HC2 y h with h | h
    · exact unhide HFb y h
    · exact .inr (Nat.le_trans (unhide HKF).size h)
  have kF3 : Chg (fun y => y = bv ∨ V.lm.F y) w w3 := (unhide HKF).drew.from ((unhide HC3).mono (fun y h => by
    rcases h with h | h
    · exact .inl (.inl h)
    · exact (unhide HFb y (.inr (.inl (.inl h)))).imp_left .inr))
  have HF3 := hide hF3
  have HKF3 := hide kF3
  clear hF3 kF3
  go_wp2_with fail
  refine (unhide HNt).mono ?_
  rintro e w4 ⟨rfl, lm4, c1, c2, c3, -⟩
  change IsLog w4 bv bm bo (V.lg.busting k tb x.t) lm4 at c1
  have act4 : ∀ {b c t}, Blk w3 b c t → t ≠ 109 → t ≠ 1 → Blk w4 b c t := fun h h0 h1 => c3.blk h (fun e => by
    obtain ⟨c', t', hc, ht'⟩ := (unhide HC1).log.act.typ e
    exact Blk.ne h hc (by rcases ht' with rfl | rfl; exact h0; exact h1) rfl)
  have bv4 := act4 (unhide HV3) (by decide) (by decide)
  have bt4 := act4 (unhide HT3) (by decide) (by decide)
  have tb4 := act4 (unhide HTB3) (by decide) (by decide)
  have kF4 : Chg (fun y => y = bv ∨ V.lm.F y) w w4 := (unhide HKF3).from (c3.mono (fun y h => (unhide HF3 y (.inr (.inr (.inr h)))).imp_left .inr))
  have hF4 : ∀ y, lm4.F y → V.lm.F y ∨ w.heap.size ≤ y := fun y h => by
    rcases c2 y h with h | h
    · exact unhide HF3 y h
    · exact .inr (Nat.le_trans (unhide HKF3).size h)
  have R4 : Rep w4 bv bm bo { V with lg := V.lg.busting k tb x.t, lm := lm4 } := (unhide HR).turnLog c1 kF4
  have R4d := R4.kept0 (Chg.refl Non w4).drew
  have L1 := R4d.lookO (id := x.t.buy) hw1
  simp only [hbuy, ptrO] at L1
  have H2 := hide (unhide HH2 w4.drew lm4 R4d)
  have c1' : w4.cell? ⟨bv, 1, none⟩ = some (.map (some bo)) := R4.ven.cell 1
  have x4 : w4.cell? ⟨w.heap.size, 0, none⟩ = some (.pointer (some ⟨bv, 0, none⟩)) := bv4.cell 0
  have y4 : w4.cell? ⟨w1.heap.size, 0, none⟩ = some (.pointer (some ⟨tb, 0, none⟩)) := bt4.cell 0
  have d3 : w4.cell? ⟨tb, 3, none⟩ = some (.int .i64 x.t.qty) := tb4.cell 3
  have d4 : w4.cell? ⟨tb, 4, none⟩ = some (.int .i64 x.t.buy) := tb4.cell 4
  have HBv4 := hide bv4
  have HBt4 := hide bt4
  have HTb4 := hide tb4
  have HKF4 := hide kF4
  have HF4 := hide hF4
  clear c1 c2 c3 act4 bv4 bt4 tb4 kF4 hF4 R4 R4d a0 a1 b0 b1 b2 b3 b4 b5 b6 HNt HC1 HC2 HC3 HV3 HT3 HTB3 HK3 HBv HBt HTb HKF HFb HF3 HKF3 HL2 HW2
  go_wp2
  go_region_held3 (fun w' => w'.cell? ⟨w.heap.size, 0, none⟩ = some (.pointer (some ⟨bv, 0, none⟩)) ∧ w'.cell? ⟨w1.heap.size, 0, none⟩ = some (.pointer (some ⟨tb, 0, none⟩)) ∧ w'.cell? ⟨bv, 1, none⟩ = some (.map (some bo)) ∧ w'.cell? ⟨tb, 4, none⟩ = some (.int .i64 x.t.buy) ∧ w'.cell? ⟨tb, 3, none⟩ = some (.int .i64 x.t.qty)) (go_keep)
    (first | (go_at_call 75; refine (unhide H2).mono ?_; rintro e w5 ⟨rfl, V5, R5, q5, l5, p5, o5, k5, f5⟩; have bv5 := p5 _ _ _ (unhide HBv4).drew (by simp); have bt5 := p5 _ _ _ (unhide HBt4).drew (by simp); have tb5 := p5 _ _ _ (unhide HTb4).drew (by simp); have g0 : w5.cell? ⟨w.heap.size, 0, none⟩ = some (.pointer (some ⟨bv, 0, none⟩)) := bv5.cell 0; have g1 : w5.cell? ⟨w1.heap.size, 0, none⟩ = some (.pointer (some ⟨tb, 0, none⟩)) := bt5.cell 0; have g2 : w5.cell? ⟨bv, 1, none⟩ = some (.map (some bo)) := R5.ven.cell 1; have g3 : w5.cell? ⟨tb, 3, none⟩ = some (.int .i64 x.t.qty) := tb5.cell 3; have g4 : w5.cell? ⟨tb, 4, none⟩ = some (.int .i64 x.t.buy) := tb5.cell 4; have g5 : w5.cell? ⟨tb, 5, none⟩ = some (.int .i64 x.t.sell) := tb5.cell 5; have HR5 := hide R5; have HQ5 := hide q5; have HL5 := hide l5; have HO5 := hide o5; have HK5 := hide k5; have HF5 := hide f5; have HBv5 := hide bv5; have HBt5 := hide bt5; have HTb5 := hide tb5; clear R5 q5 l5 p5 o5 k5 f5 bv5 bt5 tb5))
  rename_i hSk
  clear hSk c1' x4 y4 d3 d4 L1 H2
  have R5d := (unhide HR5).kept0 (Chg.refl Non w5).drew
  have L2 := R5d.lookO (id := x.t.sell) hw2
  have hs5 : V5.oid x.t.sell = some by' := by rw [unhide HO5]; exact hsell
  simp only [hs5, ptrO] at L2
  have H3 := hide (unhide HH3 V5 w5.drew (unhide HQ5) R5d (unhide HO5) (by rw [(unhide HL5).2.2.2.1]; rfl) (by have := (unhide HL5).2.2.2.2; simp only [Lg.busting, Lg.noted, Lg.told, Lg.unhold, Lg.begun, List.nil_append, List.length_cons, List.length_nil] at this; omega))
  clear R5d hs5
  go_wp2
  go_region_held3 (fun w' => w'.cell? ⟨w.heap.size, 0, none⟩ = some (.pointer (some ⟨bv, 0, none⟩)) ∧ w'.cell? ⟨w1.heap.size, 0, none⟩ = some (.pointer (some ⟨tb, 0, none⟩)) ∧ w'.cell? ⟨bv, 1, none⟩ = some (.map (some bo)) ∧ w'.cell? ⟨tb, 5, none⟩ = some (.int .i64 x.t.sell) ∧ w'.cell? ⟨tb, 3, none⟩ = some (.int .i64 x.t.qty)) (go_keep)
    (first | (go_at_call 75; refine (unhide H3).mono ?_; rintro e w6 ⟨rfl, V6, R6, q6, l6, p6, o6, k6, f6⟩; have bv6 := p6 _ _ _ (unhide HBv5).drew (by simp); have bt6 := p6 _ _ _ (unhide HBt5).drew (by simp); have tb6 := p6 _ _ _ (unhide HTb5).drew (by simp); have j0 : w6.cell? ⟨w.heap.size, 0, none⟩ = some (.pointer (some ⟨bv, 0, none⟩)) := bv6.cell 0; have j1 : w6.cell? ⟨w1.heap.size, 0, none⟩ = some (.pointer (some ⟨tb, 0, none⟩)) := bt6.cell 0; have j2 : w6.cell? ⟨bv, 1, none⟩ = some (.map (some bo)) := R6.ven.cell 1; have j3 : w6.cell? ⟨tb, 3, none⟩ = some (.int .i64 x.t.qty) := tb6.cell 3; have j5 : w6.cell? ⟨tb, 5, none⟩ = some (.int .i64 x.t.sell) := tb6.cell 5; have HR6 := hide R6; have HQ6 := hide q6; have HL6 := hide l6; have HO6 := hide o6; have HK6 := hide k6; have HF6 := hide f6; clear R6 q6 l6 p6 o6 k6 f6 bv6 bt6 tb6))
  clear g0 g1 g2 g3 g4 g5 L2 H3
  go_wp2
  go_ret
  have hft : ∀ y, Foot bv bm bo { V with lg := V.lg.busting k tb x.t, lm := lm4 } y → Foot bv bm bo V y ∨ w.heap.size ≤ y := fun y hy => by
    rcases hy with h | h | h | h | h | h
    · exact .inl (.inl h)
    · exact .inl (.inr (.inl h))
    · exact .inl (.inr (.inr (.inl h)))
    · exact .inl (.inr (.inr (.inr (.inl h))))
    · exact .inl (.inr (.inr (.inr (.inr (.inl h)))))
    · exact (unhide HF4 y h).imp_left (fun h => .inr (.inr (.inr (.inr (.inr h)))))
  have kk4 : Chg (Foot bv bm bo V) w w4 := (unhide HKF4).mono (fun y h => h.elim (fun h => .inl h) (fun h => .inr (.inr (.inr (.inr (.inr h))))))
  have kk5 : Chg (Foot bv bm bo V) w w5 := kk4.drew.from ((unhide HK5).mono hft)
  have f5 : ∀ y, Foot bv bm bo V5 y → Foot bv bm bo V y ∨ w.heap.size ≤ y := fun y h => by
    rcases unhide HF5 y h with h | h
    · exact hft y h
    · exact .inr (Nat.le_trans kk4.size h)
  have kk6 : Chg (Foot bv bm bo V) w w6 := kk5.drew.from ((unhide HK6).mono f5)
  obtain ⟨a1, a2, a3, a4, a5⟩ := unhide HL5
  obtain ⟨b1, b2, b3, b4, b5⟩ := unhide HL6
  refine ⟨rfl, V6, unhide HQ6, (unhide HO6).trans (unhide HO5), unhide HR6, ⟨b1.trans a1, b2.trans a2, b3.trans a3, b4.trans a4, by omega⟩, kk6, fun y hy => ?_⟩
  rcases unhide HF6 y hy with h | h
  · exact f5 y h
  · exact .inr (Nat.le_trans kk5.size h)

#print axioms bust_ok
end Go.Proofs.YtigaphnafnpfnaaGreatDoor

/- A venue of which one book, some orders and the log have turned -/
set_option linter.unusedVariables false
set_option linter.unusedSimpArgs false
namespace Go.Proofs.YtigaphnafnpfnaaGreatDoor
open Go.RowKit Go.Maps

def Ven.turnL (V : Ven) (i : Nat) (B' : Bk) (om' : Nat → Ord) (G' : Lg) (lm' : Lm) : Ven := { V with B := upd V.B i B', om := om', lg := G', lm := lm' }

/-- what a call leaves -/
def Next (bv bm bo : Nat) (V : Ven) (Q : Ven → Prop) (w w' : World) : Prop :=
  ∃ V2, Rep w' bv bm bo V2 ∧ Q V2 ∧ Chg (Foot bv bm bo V) w w' ∧ ∀ x, Foot bv bm bo V2 x → Foot bv bm bo V x ∨ w.heap.size ≤ x

theorem Next.of {w w' : World} {bv bm bo i : Nat} {V : Ven} (R : Rep w bv bm bo V) (hi : i < V.nb) {B' : Bk} {om' : Nat → Ord} {G' : Lg} {lm' : Lm} {S : Nat → Prop} (Q : Ven → Prop)
    (hm : Mk w' (V.bk i) B' om' (fun x => ∃ id, V.oid id = some x)) (hl : IsLog w' bv bm bo G' lm') (hf : ∀ x, lm'.F x → V.lm.F x ∨ w.heap.size ≤ x) (k : Chg S w w')
    (hS : ∀ x, S x → x = bv ∨ V.lm.F x ∨ x = V.bk i ∨ (∃ s, s < 2 ∧ SdB (V.B i) s x) ∨ ((∃ id, V.oid id = some x) ∧ Apart V i x))
    (hom : ∀ j, j < V.nb → j ≠ i → ∀ s, s < 2 → ∀ l, l < (V.B j).n s → om' ((V.B j).h s l) = V.om ((V.B j).h s l)) (hid : ∀ x, (om' x).id = (V.om x).id) (hsym : B'.sym = (V.B i).sym)
    (hsd : ∀ s, s < 2 → ∀ x, SdB B' s x → (∃ t, t < 2 ∧ SdB (V.B i) t x) ∨ ((∃ id, V.oid id = some x) ∧ Apart V i x) ∨ w.heap.size ≤ x) (hQ : Q (V.turnL i B' om' G' lm')) : Next bv bm bo V Q w w' := by
  have typ : ∀ x, S x → ∃ c t, Blk w x c t := fun x hx => by
    rcases hS x hx with rfl | h | h | h | ⟨h, _⟩
    · exact ⟨_, _, R.ven⟩
    · obtain ⟨c, t, hc, _⟩ := R.log.log.typ h; exact ⟨c, t, hc⟩
    · obtain ⟨c, t, hc, _⟩ := (R.mkt hi).typ (.inl h); exact ⟨c, t, hc⟩
    · obtain ⟨c, t, hc, _⟩ := (R.mkt hi).typ (.inr (.inr h)); exact ⟨c, t, hc⟩
    · obtain ⟨c, t, hc, _⟩ := (R.mkt hi).typ (.inr (.inl h)); exact ⟨c, t, hc⟩
  obtain ⟨fB, mB, fB1, fB2⟩ := R.books
  obtain ⟨fO, mO, fO1⟩ := R.orders
  have nB : ¬ S bm := fun h => by obtain ⟨c, t, hc⟩ := typ bm h; exact mB.ne hc rfl
  have nO : ¬ S bo := fun h => by obtain ⟨c, t, hc⟩ := typ bo h; exact mO.ne hc rfl
  have sdlt : ∀ j, j < V.nb → ∀ x, x < 2 → ∀ y, SdB (V.B j) x y → y < w.heap.size := fun j hj x hx y h => by
    rcases h with h | ⟨l, hl, rfl⟩
    · exact ((R.book j hj).side x hx).lt h
    · exact (((R.book j hj).side x hx).ords hl).lt
  have apart0 : ∀ s, s < 2 → ∀ x, SdB (V.B i) s x → Apart V i x := fun s hs x hx j hj hne t ht h => R.seps i j hi hj (fun e => hne e.symm) s t hs ht x hx h
  have sdT : ∀ j, j < V.nb → ∀ y, y < 2 → ∀ x c t, Blk w x c t → t ≠ 114 → t ≠ 116 → ¬ SdB (V.B j) y x := fun j hj y hy x c t hb h1 h2 h => by
    rcases h with h | ⟨l, hl, h⟩
    · exact ((R.book j hj).side y hy).ne hb h1 h
    · rw [h] at hb; exact Blk.ne hb (((R.book j hj).side y hy).ords hl) h2 rfl
  have far : ∀ j, j < V.nb → j ≠ i → IsBook w' (V.bk j) (V.B j) om' := fun j hj hne => by
    have h6 : IsBook w' (V.bk j) (V.B j) V.om := (R.book j hj).kept k (by
      rintro x (rfl | ⟨y, hy, h⟩) hx
      · rcases hS _ hx with h | h | h | ⟨s, hs, h⟩ | ⟨⟨id, h⟩, _⟩
        · exact Blk.ne (R.book j hj).blk R.ven (by decide) h
        · exact R.log.log.ne (R.book j hj).blk (by decide) (by decide) (by decide) (by decide) (by decide) h
        · exact R.sepb j i hj hi hne h
        · exact sdT i hi s hs _ _ _ (R.book j hj).blk (by decide) (by decide) h
        · obtain ⟨_, ix, ho⟩ := R.ords id _ h
          exact Blk.ne (R.book j hj).blk ho (by decide) rfl
      · rcases hS _ hx with e | e | e | ⟨s, hs, e⟩ | ⟨_, e⟩
        · rw [e] at h; exact sdT j hj y hy _ _ _ R.ven (by decide) (by decide) h
        · obtain ⟨c, t, hc, ht⟩ := R.log.log.typ e
          exact sdT j hj y hy _ _ _ hc (by rcases ht with rfl | rfl | rfl | rfl | rfl | rfl <;> decide) (by rcases ht with rfl | rfl | rfl | rfl | rfl | rfl <;> decide) h
        · rw [e] at h; exact sdT j hj y hy _ _ _ (R.book i hi).blk (by decide) (by decide) h
        · exact apart0 s hs x e j hj hne y hy h
        · exact e j hj hne y hy h)
    exact ⟨h6.blk, fun y hy => (h6.side y hy).om (fun l hl => hom j hj hne y hy l hl), h6.apart, h6.disj⟩
  have hRep : Rep w' bv bm bo (V.turnL i B' om' G' lm') := by
    refine ⟨hl, ⟨fB, mB.kept k nB, ?_, ?_⟩, ⟨fO, mO.kept k nO, fO1⟩, R.mne, ?_, ?_, ?_, R.sepb, ?_, R.no200⟩
    · intro j hj
      by_cases e : j = i
      · subst e; simp only [Ven.turnL, upd_same, hsym]; exact fB1 j hj
      · simp only [Ven.turnL, upd_other _ _ e]; exact fB1 j hj
    · intro s' b' h
      obtain ⟨j, hj, e1, e2⟩ := fB2 s' b' h
      refine ⟨j, hj, e1, ?_⟩
      by_cases e : j = i
      · subst e; simp only [Ven.turnL, upd_same, hsym]; exact e2
      · simp only [Ven.turnL, upd_other _ _ e]; exact e2
    · intro j hj
      by_cases e : j = i
      · subst e; simp only [Ven.turnL, upd_same]; exact hm.book
      · simp only [Ven.turnL, upd_other _ _ e]; exact far j hj e
    · intro id x hx
      simp only [Ven.turnL] at hx ⊢
      rw [hid]
      exact ⟨(R.ords id x hx).1, hm.ords x ⟨id, hx⟩⟩
    · intro j hj x hx l hl
      simp only [Ven.turnL] at hj hl ⊢
      by_cases e : j = i
      · subst e
        simp only [upd_same] at hl ⊢
        exact hm.mem x hx l hl
      · simp only [upd_other _ _ e] at hl ⊢
        exact R.mem j hj x hx l hl
    · intro p q hp hq hne x y hx hy z h1 h2
      have half : ∀ q, q < V.nb → q ≠ i → ∀ x y, x < 2 → y < 2 → ∀ z, SdB B' x z → SdB (V.B q) y z → False := by
        intro q hq hne x y hx hy z h1 h2
        rcases hsd x hx z h1 with ⟨t, ht, h⟩ | ⟨_, h⟩ | h
        · exact apart0 t ht z h q hq hne y hy h2
        · exact h q hq hne y hy h2
        · have := sdlt q hq y hy z h2; omega
      simp only [Ven.turnL] at h1 h2
      by_cases e : p = i
      · rw [e, upd_same] at h1
        rw [upd_other _ _ (show q ≠ i by omega)] at h2
        exact half q hq (by omega) x y hx hy z h1 h2
      · rw [upd_other _ _ e] at h1
        by_cases e2 : q = i
        · rw [e2, upd_same] at h2
          exact half p hp e y x hy hx z h2 h1
        · rw [upd_other _ _ e2] at h2
          exact R.seps p q hp hq hne x y hx hy z h1 h2
  refine ⟨_, hRep, hQ, k.mono (fun x hx => ?_), fun x hx => ?_⟩
  · rcases hS x hx with h | h | h | ⟨s, hs, h⟩ | ⟨h, _⟩
    · exact .inl h
    · exact .inr (.inr (.inr (.inr (.inr h))))
    · exact .inr (.inr (.inr (.inl ⟨i, hi, .inl h⟩)))
    · exact .inr (.inr (.inr (.inl ⟨i, hi, .inr ⟨s, hs, h⟩⟩)))
    · exact .inr (.inr (.inr (.inr (.inl h))))
  · rcases hx with h | h | h | ⟨j, hj, h⟩ | h | h
    · exact .inl (.inl h)
    · exact .inl (.inr (.inl h))
    · exact .inl (.inr (.inr (.inl h)))
    · rcases h with h | ⟨s, hs, h⟩
      · exact .inl (.inr (.inr (.inr (.inl ⟨j, hj, .inl h⟩))))
      · by_cases e : j = i
        · subst e
          simp only [Ven.turnL, upd_same] at h
          rcases hsd s hs x h with ⟨t, ht, h⟩ | ⟨h, _⟩ | h
          · exact .inl (.inr (.inr (.inr (.inl ⟨j, hj, .inr ⟨t, ht, h⟩⟩))))
          · exact .inl (.inr (.inr (.inr (.inr (.inl h)))))
          · exact .inr h
        · simp only [Ven.turnL, upd_other _ _ e] at h
          exact .inl (.inr (.inr (.inr (.inl ⟨j, hj, .inr ⟨s, hs, h⟩⟩))))
    · exact .inl (.inr (.inr (.inr (.inr (.inl h)))))
    · rcases hf x h with h | h
      · exact .inl (.inr (.inr (.inr (.inr (.inr h)))))
      · exact .inr h

theorem Next.keep {w w' w'' : World} {bv bm bo : Nat} {V : Ven} {Q : Ven → Prop} (h : Next bv bm bo V Q w w') {x : Nat} {c : Array Value} (hb : Blk w' x c 87) (hx : w.heap.size ≤ x) (k : Chg (fun y => y = x) w' w'') : Next bv bm bo V Q w w'' := by
  obtain ⟨V2, R2, q2, k2, f2⟩ := h
  have nf : ¬ Foot bv bm bo V2 x := R2.foot hb (by decide) (by decide) (by decide) (by decide) (by decide) (by decide) (by decide)
  obtain ⟨gB, nB, g1, g2⟩ := R2.books
  obtain ⟨gO, nO, g3⟩ := R2.orders
  have nf' : ∀ y, Foot bv bm bo V2 y → ¬ y = x := fun y h e => nf (e ▸ h)
  refine ⟨V2, ⟨R2.log.kept k (nf' _ (.inl rfl)) (fun y hy => nf' y (.inr (.inr (.inr (.inr (.inr hy)))))), ⟨gB, nB.kept k (nf' _ (.inr (.inl rfl))), g1, g2⟩, ⟨gO, nO.kept k (nf' _ (.inr (.inr (.inl rfl)))), g3⟩, R2.mne,
    fun j hj => (R2.book j hj).kept k (fun y hy => nf' y (by
      rcases hy with h | ⟨z, hz, h⟩
      · exact .inr (.inr (.inr (.inl ⟨j, hj, .inl h⟩)))
      · exact .inr (.inr (.inr (.inl ⟨j, hj, .inr ⟨z, hz, h⟩⟩))))),
    fun id y h => ⟨(R2.ords id y h).1, (R2.ords id y h).2.elim fun ix ho => ⟨ix, k.blk ho (nf' y (.inr (.inr (.inr (.inr (.inl ⟨id, h⟩))))))⟩⟩, R2.mem, R2.sepb, R2.seps, R2.no200⟩, q2, k2.from (k.mono (fun y h => .inr (by omega))), f2⟩

end Go.Proofs.YtigaphnafnpfnaaGreatDoor

