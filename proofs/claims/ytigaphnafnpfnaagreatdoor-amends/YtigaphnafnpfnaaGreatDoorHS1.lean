import Derived.Test.YtigaphnafnpfnaaGreatDoorHR1
import Derived.Test.YtigaphnafnpfnaaGreatDoorHP1
/- What a trade had is taken back, on a good venue -/
set_option linter.unusedVariables false
set_option linter.unusedSimpArgs false
namespace Go.Proofs.YtigaphnafnpfnaaGreatDoor
open Go.RowKit Go.Maps

theorem Turned.of {w w' : World} {bv bm bo i : Nat} {V : Ven} (R : Rep w bv bm bo V) (hi : i < V.nb) {B' : Bk} {om' : Nat → Ord} {S : Nat → Prop} (Q : Ven → Prop) {ds : List Back} (hds : ds.length ≤ 3) (hn : Noted bv bm bo V.lg V.lm ds w w')
    (hm : Mk w' (V.bk i) B' om' (fun x => ∃ id, V.oid id = some x)) (k : Chg (fun x => S x ∨ ActF V.lm.av V.lm.ac x) w w') (hS : ∀ x, S x → x = V.bk i ∨ (∃ s, s < 2 ∧ SdB (V.B i) s x) ∨ ((∃ id, V.oid id = some x) ∧ Apart V i x))
    (hom : ∀ x, Apart V i x ∨ om' x = V.om x) (hid : ∀ x, (om' x).id = (V.om x).id) (hsym : B'.sym = (V.B i).sym)
    (hsd : ∀ s, s < 2 → ∀ x, SdB B' s x → (∃ t, t < 2 ∧ SdB (V.B i) t x) ∨ ((∃ id, V.oid id = some x) ∧ Apart V i x) ∨ w.heap.size ≤ x) (hQ : ∀ G' lm', Q { V.turn i B' om' with lg := G', lm := lm' }) : Turned bv bm bo V Q w w' := by
  have apart0 : ∀ s, s < 2 → ∀ x, SdB (V.B i) s x → Apart V i x := fun s hs x hx j hj hne t ht h => R.seps i j hi hj (fun e => hne e.symm) s t hs ht x hx h
  obtain ⟨lm', hl, hF⟩ := hn
  refine ⟨{ V.turn i B' om' with lg := V.lg.noted ds, lm := lm' }, R.turnG hi hm hl (k.mono (fun x h => h.imp_right (fun h => .inr (.inr (.inr h))))) hS (fun j hj hne s hs l hl => ?_) hid hsym (fun s hs x hx => ?_), hQ _ _, ⟨rfl, rfl, rfl, rfl, by simp only [Lg.noted, List.length_append]; omega⟩, fun b c t hb ht => ?_, rfl, k.mono (fun x hx => ?_), fun x hx => ?_⟩
  · rcases hom ((V.B j).h s l) with h | h
    · exact absurd (.inr ⟨l, hl, rfl⟩) (h j hj hne s hs)
    · exact h
  · rcases hsd s hs x hx with ⟨t, ht, h⟩ | ⟨_, h⟩ | h
    · exact .inl (apart0 t ht x h)
    · exact .inl h
    · exact .inr h
  · refine k.blk hb ?_
    rintro (h | h)
    · obtain ⟨c', t', hc, ht'⟩ := (R.mkt hi).typ (b := b) (by
        rcases hS b h with h | h | ⟨h, _⟩
        · exact .inl h
        · exact .inr (.inr h)
        · exact .inr (.inl h))
      exact Blk.ne hb hc (by rcases ht with rfl | rfl | rfl <;> rcases ht' with rfl | rfl | rfl <;> decide) rfl
    · obtain ⟨c', t', hc, ht'⟩ := R.log.log.act.typ h
      exact Blk.ne hb hc (by rcases ht with rfl | rfl | rfl <;> rcases ht' with rfl | rfl <;> decide) rfl
  · rcases hx with hx | hx
    · rcases hS x hx with h | ⟨s, hs, h⟩ | ⟨h, _⟩
      · exact .inr (.inr (.inr (.inl ⟨i, hi, .inl h⟩)))
      · exact .inr (.inr (.inr (.inl ⟨i, hi, .inr ⟨s, hs, h⟩⟩)))
      · exact .inr (.inr (.inr (.inr (.inl h))))
    · exact .inr (.inr (.inr (.inr (.inr (.inr (.inr (.inr hx)))))))
  · rcases hx with h | h | h | ⟨j, hj, h⟩ | h | h
    · exact .inl (.inl h)
    · exact .inl (.inr (.inl h))
    · exact .inl (.inr (.inr (.inl h)))
    · rcases h with h | ⟨s, hs, h⟩
      · exact .inl (.inr (.inr (.inr (.inl ⟨j, hj, .inl h⟩))))
      · by_cases e : j = i
        · subst e
          simp only [Ven.turn, upd_same] at h
          rcases hsd s hs x h with ⟨t, ht, h⟩ | ⟨h, _⟩ | h
          · exact .inl (.inr (.inr (.inr (.inl ⟨j, hj, .inr ⟨t, ht, h⟩⟩))))
          · exact .inl (.inr (.inr (.inr (.inr (.inl h)))))
          · exact .inr h
        · simp only [Ven.turn, upd_other _ _ e] at h
          exact .inl (.inr (.inr (.inr (.inl ⟨j, hj, .inr ⟨s, hs, h⟩⟩))))
    · exact .inl (.inr (.inr (.inr (.inr (.inl h)))))
    · exact (hF x h).imp_left (fun h => .inr (.inr (.inr (.inr (.inr h)))))


/-- one order and its book have turned -/
theorem gv_turn {V : Ven} {n : Nat} {M : Int} (g : GV V n M) {i b : Nat} {B' : Bk} {om' : Nat → Ord} {G' : Lg} {lm' : Lm} (hi : i < 2) (hb : VL V b) (hsb : (V.om b).sym = symN i) (far : ∀ x, x ≠ b → om' x = V.om x) (h1 : (om' b).sym = (V.om b).sym) (h2 : (om' b).side = (V.om b).side) (hq : Qo M (om' b)) (gi : GB B' om' (symN i) (VL V)) :
    GV { V.turn i B' om' with lg := G', lm := lm' } n M := by
  have st : ∀ x, (om' x).sym = (V.om x).sym ∧ (om' x).side = (V.om x).side := fun x => by
    by_cases e : x = b
    · rw [e]; exact ⟨h1, h2⟩
    · rw [far x e]; exact ⟨rfl, rfl⟩
  refine ⟨g.nb, fun j hj => ?_, g.oid, g.no, fun x hx => ?_, fun x hx => ?_, fun x hx => ?_⟩
  · by_cases e : j = i
    · subst e
      simp only [Ven.turn, upd_same]
      exact gi
    · simp only [Ven.turn, upd_other _ _ e]
      have ns : symN i ≠ symN j := fun h => e (symN_inj hi hj h).symm
      refine (g.gb j hj).cong (fun x => ?_) (fun x _ hs _ => ?_)
      · by_cases ex : x = b
        · subst ex
          constructor
          · rintro ⟨_, c, _⟩; exact absurd ((h1.trans hsb).symm.trans c) ns
          · rintro ⟨_, c, _⟩; exact absurd (hsb.symm.trans c) ns
        · rw [far x ex]; exact Iff.rfl
      · have ex : x ≠ b := fun e2 => ns (by rw [e2] at hs; exact hsb.symm.trans hs)
        rw [far x ex]; exact ⟨rfl, rfl, rfl⟩
  · show Qo M (om' x)
    by_cases e : x = b
    · rw [e]; exact hq
    · rw [far x e]; exact g.q x hx
  · show (om' x).sym = sA ∨ (om' x).sym = sG
    rw [(st x).1]; exact g.sym x hx
  · show (om' x).side = 0 ∨ (om' x).side = 1
    rw [(st x).2]; exact g.side x hx

theorem Qo.cancelF {M : Int} {o : Ord} (h : Qo M o) (hM : M ≤ 1000000) {q : Int} (h1 : 0 ≤ q) (h2 : q ≤ o.filled) : Qo M (cancelF o q) ∧ (Go.Proofs.YtigaphnafnpfnaaGreatDoor.cancelF o q).filled = o.filled - q := by
  obtain ⟨a, b, c, d, e, f⟩ := h
  have e1 : (Go.Proofs.YtigaphnafnpfnaaGreatDoor.cancelF o q).filled = o.filled - q := by simp only [Go.Proofs.YtigaphnafnpfnaaGreatDoor.cancelF]; exact wrap64_id (by omega) (by omega)
  have e2 : (Go.Proofs.YtigaphnafnpfnaaGreatDoor.cancelF o q).canc = o.canc + q := by simp only [Go.Proofs.YtigaphnafnpfnaaGreatDoor.cancelF]; exact wrap64_id (by omega) (by omega)
  refine ⟨⟨?_, b, by rw [e1]; omega, by rw [e2]; omega, e, f⟩, e1⟩
  show o.entered = o.opn + (Go.Proofs.YtigaphnafnpfnaaGreatDoor.cancelF o q).filled + (Go.Proofs.YtigaphnafnpfnaaGreatDoor.cancelF o q).canc + o.exp
  rw [e1, e2]; omega

theorem Qo.openF {M : Int} {o : Ord} (h : Qo M o) (hM : M ≤ 1000000) {q : Int} (h1 : 0 ≤ q) (h2 : q ≤ o.filled) (p : Int) : Qo M { openF o q with place := p } ∧ (Go.Proofs.YtigaphnafnpfnaaGreatDoor.openF o q).filled = o.filled - q ∧ (Go.Proofs.YtigaphnafnpfnaaGreatDoor.openF o q).opn = o.opn + q := by
  obtain ⟨a, b, c, d, e, f⟩ := h
  have e1 : (Go.Proofs.YtigaphnafnpfnaaGreatDoor.openF o q).filled = o.filled - q := by simp only [Go.Proofs.YtigaphnafnpfnaaGreatDoor.openF]; exact wrap64_id (by omega) (by omega)
  have e2 : (Go.Proofs.YtigaphnafnpfnaaGreatDoor.openF o q).opn = o.opn + q := by simp only [Go.Proofs.YtigaphnafnpfnaaGreatDoor.openF]; exact wrap64_id (by omega) (by omega)
  refine ⟨⟨?_, ?_, ?_, d, e, f⟩, e1, e2⟩
  · show o.entered = (Go.Proofs.YtigaphnafnpfnaaGreatDoor.openF o q).opn + (Go.Proofs.YtigaphnafnpfnaaGreatDoor.openF o q).filled + o.canc + o.exp
    rw [e1, e2]; omega
  · show 0 ≤ (Go.Proofs.YtigaphnafnpfnaaGreatDoor.openF o q).opn
    rw [e2]; omega
  · show 0 ≤ (Go.Proofs.YtigaphnafnpfnaaGreatDoor.openF o q).filled
    rw [e1]; omega

theorem rest_sd {B : Bk} {om' : Nat → Ord} {t b g cap' y x : Nat} (h : SdB (B.rest om' t b g cap') y x) : SdB B y x ∨ x = b ∨ x = g := by
  by_cases e : y = t
  · subst e
    rcases h with h | ⟨k, hk, h⟩
    · simp only [Bk.rest, upd_same, adB, Option.some.injEq] at h
      exact .inr (.inr h.symm)
    · simp only [Bk.rest, upd_same] at hk h
      rcases (mem_push (lt := ltB om') (B.h y) b _).1 ⟨k, hk, rfl⟩ with h' | h'
      · obtain ⟨k', hk', e'⟩ := h'
        exact .inl (.inr ⟨k', hk', by rw [h, e']⟩)
      · exact .inr (.inl (by rw [h, h']))
  · left
    unfold SdB at h ⊢
    simp only [Bk.rest, upd_other _ _ e] at h
    exact h

theorem leave_sd {B : Bk} {om : Nat → Ord} {t k y x : Nat} (hinj : Inj (B.n t) (B.h t)) (hk : k < B.n t) (h : SdB (B.leave om t k) y x) : SdB B y x := by
  by_cases e : y = t
  · subst e
    rcases h with h | h
    · exact .inl h
    · have m := (leave_iff (om := om) hinj hk x).1 h
      exact .inr m.1
  · unfold SdB at h ⊢
    simp only [Bk.leave, upd_other _ _ e] at h
    exact h

/-- what is so behind a takeBack -/
def TbQ (V : Ven) (n : Nat) (M : Int) (hl : List Tr) (ex' : Int → Int) (V' : Ven) : Prop := GV V' n M ∧ FL V'.om V'.oid hl ex' ∧ V'.oid = V.oid

theorem againOm_far (V : Ven) (i b : Nat) (q : Int) {x : Nat} (h : x ≠ b) : againOm V i b q x = V.om x := by unfold againOm; rw [upd_other _ _ h, upd_other _ _ h]
theorem againOm_self (V : Ven) (i b : Nat) (q : Int) : againOm V i b q b = { openF (V.om b) q with place := wrap64 ((V.B i).places + 1) } := by unfold againOm; rw [upd_same]

theorem tb_good (bv bm bo b n : Nat) (V : Ven) (M id q : Int) (again : Bool) (hl : List Tr) (ex ex' : Int → Int) (w : World) (R : Rep w bv bm bo V) (g : GV V n M) (hM : M ≤ 1000000) (hn : n ≤ 200) (hid : V.oid id = some b) (f : FL V.om V.oid hl ex) (hq : 1 ≤ q) (hq2 : q ≤ (V.om b).filled)
    (e1 : ex' id = ex id - q) (e2 : ∀ j, j ≠ id → ex' j = ex j) (hna : 0 < V.lg.na) (hna2 : V.lg.na ≤ 1000000) (hnt : V.lg.nt.length + 3 < 1000000) :
    Calls Tryz.prog 75 #[.pointer (some ⟨bv, 0, none⟩), .pointer (some ⟨b, 0, none⟩), .int .i64 q, .bool again] w fun e w' => e = .returned (.tuple #[]) ∧ Turned bv bm bo V (TbQ V n M hl ex') w w' := by
  have hVL : VL V b := ⟨id, hid⟩
  obtain ⟨i, t, hi, t2, hsb, hBs, hside⟩ := g.idx hVL
  have hi' : i < V.nb := by rw [g.nb]; exact hi
  obtain ⟨s, hs, hst⟩ : ∃ s, s < 2 ∧ t = 1 - s := ⟨1 - t, by omega, by omega⟩
  have hside' : (V.om b).side = 1 - (s : Int) := by rw [hside]; omega
  have hsym : (V.om b).sym = (V.B i).sym := hsb.trans hBs.symm
  have hlen : (V.B i).sym.size ≤ maxLen := by rw [hBs]; exact symN_size i
  have hap := g.apart R hVL hsb hi
  have qb := g.q b hVL
  have hidO : ∀ id x, V.oid id = some x → (V.om x).id = id := fun id x h => (R.ords id x h).1
  have hct : (V.B i).n t ≤ n := g.count hidO hi t2
  by_cases hc : again = false ∨ restsB (V.om b).kind = false ∨ (firstG (V.B i) V.om (askOf (V.om b)) s).isSome = true
  · refine (takeBack_cancel bv bm bo i b s V id q again w R hi' hid hsym hlen hs hside' hc hna hna2 hnt).mono ?_
    rintro e w' ⟨rfl, hm, hnd, k⟩
    obtain ⟨q1, q2⟩ := qb.cancelF hM (by omega) hq2
    have far : ∀ x, x ≠ b → upd V.om b (cancelF (V.om b) q) x = V.om x := fun x h => upd_other _ _ h
    have fb : FL (upd V.om b (cancelF (V.om b) q)) V.oid hl ex' := f.back hid far (by rw [upd_same]; rfl) (by rw [upd_same]; rfl) (by rw [upd_same]; rfl) (by rw [upd_same]; exact q2) e1 e2
    refine ⟨rfl, Turned.of (S := fun x => x = b) R hi' _ (by simp) hnd hm k (fun x hx => .inr (.inr (by subst hx; exact ⟨⟨id, hid⟩, hap⟩))) (fun x => ?_) (fun x => ?_) rfl (fun s hs x hx => .inl ⟨s, hs, hx⟩) (fun G' lm' => ?_)⟩
    · by_cases e : x = b
      · exact .inl (e ▸ hap)
      · exact .inr (far x e)
    · by_cases e : x = b
      · rw [e, upd_same]; rfl
      · rw [far x e]
    · refine ⟨gv_turn g hi hVL hsb far (by rw [upd_same]; rfl) (by rw [upd_same]; rfl) (by rw [upd_same]; exact q1) ((g.gb i hi).cong (fun x => ?_) (fun x _ _ _ => ?_)), fb, rfl⟩
      · by_cases e : x = b
        · rw [e, upd_same]; exact Iff.rfl
        · rw [far x e]
      · by_cases e : x = b
        · rw [e, upd_same]; exact ⟨rfl, rfl, rfl⟩
        · rw [far x e]; exact ⟨rfl, rfl, rfl⟩
  · have ha : again = true := by
      cases again
      · exact absurd (.inl rfl) hc
      · rfl
    have hr : restsB (V.om b).kind = true := by
      cases h : restsB (V.om b).kind
      · exact absurd (.inr (.inl h)) hc
      · rfl
    have hf : firstG (V.B i) V.om (askOf (V.om b)) s = none := by
      cases h : firstG (V.B i) V.om (askOf (V.om b)) s with
      | none => rfl
      | some y => exact absurd (.inr (.inr (by rw [h]; rfl))) hc
    subst ha
    have hk5 : (V.om b).kind ≠ 5 := fun e => by rw [e] at hr; simp [restsB] at hr
    have bad := bad_of_first (g.gb i hi) hs hst hk5 hside hf
    have far : ∀ x, x ≠ b → againOm V i b q x = V.om x := fun x h => againOm_far V i b q h
    obtain ⟨q1, q2, q3⟩ := qb.openF hM (by omega) hq2 (wrap64 ((V.B i).places + 1))
    have hom : ∀ x, Apart V i x ∨ againOm V i b q x = V.om x := fun x => by
      by_cases e : x = b
      · exact .inl (e ▸ hap)
      · exact .inr (far x e)
    have hidx : ∀ x, (againOm V i b q x).id = (V.om x).id := fun x => by
      by_cases e : x = b
      · rw [e, againOm_self]; rfl
      · rw [far x e]
    have fb : FL (againOm V i b q) V.oid hl ex' := f.back hid far (by rw [againOm_self]; rfl) (by rw [againOm_self]; rfl) (by rw [againOm_self]; rfl) (by rw [againOm_self]; exact q2) e1 e2
    have fin : ∀ (B' : Bk) (G' : Lg) (lm' : Lm), GB B' (againOm V i b q) (symN i) (VL V) → TbQ V n M hl ex' { V.turn i B' (againOm V i b q) with lg := G', lm := lm' } := fun B' G' lm' gb =>
      ⟨gv_turn g hi hVL hsb far (by rw [againOm_self]; rfl) (by rw [againOm_self]; rfl) (by rw [againOm_self]; exact q1) gb, fb, rfl⟩
    have p1 : (againOm V i b q b).sym = symN i := by rw [againOm_self]; exact hsb
    have p2 : (againOm V i b q b).side = (t : Int) := by rw [againOm_self]; exact hside
    have p3 : 0 < (againOm V i b q b).opn := by
      rw [againOm_self]
      show 0 < (openF (V.om b) q).opn
      rw [q3]; have := qb.o0; omega
    have p4 : (againOm V i b q b).price = (V.om b).price := by rw [againOm_self]; rfl
    have two : ∀ x, x < 2 → x = s ∨ x = t := by omega
    by_cases h0 : 0 < (V.om b).opn
    · obtain ⟨k, hk, hkb⟩ : Mem ((V.B i).n t) ((V.B i).h t) b := ((g.gb i hi).mem t t2 b).2 ⟨hVL, hsb, hside, h0⟩
      refine (takeBack_more bv bm bo i b s t k V id q w R hi' hid hsym hlen hs hst hside hr hf h0 hk hkb.symm (by omega) hna hna2 hnt).mono ?_
      rintro e w' ⟨rfl, g', cap', hm, hnd, kc, hg'⟩
      have gl : GB ((V.B i).leave V.om t k) V.om (symN i) (fun x => VL V x ∧ x ≠ b) := by
        have := leave_good (g.gb i hi) t2 hk
        rw [← hkb] at this
        exact this
      have eN : ((V.B i).leave V.om t k).n s = (V.B i).n s := by simp only [Bk.leave]; rw [upd_other _ _ (by omega)]
      have eH : ((V.B i).leave V.om t k).h s = (V.B i).h s := by simp only [Bk.leave]; rw [upd_other _ _ (by omega)]
      refine ⟨rfl, Turned.of (S := fun x => x = V.bk i ∨ x = b ∨ SdB (V.B i) t x) R hi' _ (by simp) hnd hm kc (fun x hx => ?_) hom hidx rfl (fun y hy x hx => ?_) (fun G' lm' => fin _ G' lm' (rest_good hs hst gl hVL far p1 p2 p3 (fun y hy => ?_)))⟩
      · rcases hx with h | h | h
        · exact .inl h
        · exact .inr (.inr (by subst h; exact ⟨⟨id, hid⟩, hap⟩))
        · exact .inr (.inl ⟨t, t2, h⟩)
      · rcases rest_sd hx with h | h | h
        · exact .inl ⟨y, hy, leave_sd ((g.gb i hi).inj t t2) hk h⟩
        · exact .inr (.inl (by subst h; exact ⟨⟨id, hid⟩, hap⟩))
        · rcases hg' with hg | hg
          · exact .inl ⟨t, t2, .inl (by rw [hg, h])⟩
          · exact .inr (.inr (by omega))
      · rw [eN, eH] at hy
        rw [p4]; exact bad y hy
    · have hno : ∀ x, x < 2 → ∀ k, k < (V.B i).n x → (V.B i).h x k ≠ b := fun x hx k hk e => by
        have := (((g.gb i hi).mem x hx _).1 ⟨k, hk, rfl⟩).2.2.2
        rw [e] at this
        exact h0 this
      refine (takeBack_new bv bm bo i b s t V id q w R hi' hid hsym hlen hs hst hside hr hf h0 hno (by omega) hna hna2 hnt).mono ?_
      rintro e w' ⟨rfl, g', cap', hm, hnd, kc, hg'⟩
      have gl : GB (V.B i) V.om (symN i) (fun x => VL V x ∧ x ≠ b) := (g.gb i hi).cong (fun x => by
        constructor
        · rintro ⟨⟨a, _⟩, c⟩; exact ⟨a, c⟩
        · rintro ⟨a, c⟩; exact ⟨⟨a, fun e => h0 (e ▸ c.2)⟩, c⟩) (fun x _ _ _ => ⟨rfl, rfl, rfl⟩)
      refine ⟨rfl, Turned.of (S := fun x => x = V.bk i ∨ x = b ∨ SdB (V.B i) t x) R hi' _ (by simp) hnd hm kc (fun x hx => ?_) hom hidx rfl (fun y hy x hx => ?_) (fun G' lm' => fin _ G' lm' (rest_good hs hst gl hVL far p1 p2 p3 (fun y hy => ?_)))⟩
      · rcases hx with h | h | h
        · exact .inl h
        · exact .inr (.inr (by subst h; exact ⟨⟨id, hid⟩, hap⟩))
        · exact .inr (.inl ⟨t, t2, h⟩)
      · rcases rest_sd hx with h | h | h
        · exact .inl ⟨y, hy, h⟩
        · exact .inr (.inl (by subst h; exact ⟨⟨id, hid⟩, hap⟩))
        · rcases hg' with hg | hg
          · exact .inl ⟨t, t2, .inl (by rw [hg, h])⟩
          · exact .inr (.inr (by omega))
      · rw [p4]; exact bad y hy

end Go.Proofs.YtigaphnafnpfnaaGreatDoor

/- Bust, on a good venue -/
set_option linter.unusedVariables false
set_option linter.unusedSimpArgs false
namespace Go.Proofs.YtigaphnafnpfnaaGreatDoor
open Go.RowKit Go.Maps

/-- what is so behind an act of a good venue whose tape tells its trades -/
def AQ (n K : Nat) (M : Int) (V2 : Ven) : Prop := GV V2 n M ∧ LenOK V2 K ∧ AV V2

/-- what an act that may be refused answers -/
def PutRes (bv bm bo n K : Nat) (V : Ven) (M E : Int) (w w' : World) : Prop :=
  ((E = 6 ∨ E = 10 ∨ E = 11) ∧ Chg Non w w') ∨ (E = 0 ∧ Next bv bm bo V (fun V2 => AQ n K M V2 ∧ V2.lg.day = V.lg.day ∧ V.lg.tp.length ≤ V2.lg.tp.length) w w')

theorem putE_cases (x : Tg) (day : Int) : (putE x day = 10 ∨ putE x day = 11) ∨ (putE x day = 0 ∧ x.holds = true) := by
  unfold putE
  cases h : x.holds
  · simp
  · by_cases e : x.t.day = day
    · simp [e]
    · simp [e]

theorem ven_bust (bv bm bo n K : Nat) (V : Ven) (M N : Int) (again : Bool) (w : World) (R : Rep w bv bm bo V) (hT : Tab w) (g : GV V n M) (av : AV V) (hM : M ≤ 1000000) (hn : n ≤ 200) (hK : LenOK V K) (hK2 : K + 300 < 1000000) :
    Calls Tryz.prog 39 #[.pointer (some ⟨bv, 0, none⟩), .int .i64 N, .bool again] w fun e w' => ∃ E, e = .returned (.int .i64 E) ∧ PutRes bv bm bo n (K + 101) V M E w w' := by
  have hK' := hK
  obtain ⟨k1, k2, k3, k4⟩ := hK'
  by_cases hr : N < 1 ∨ (V.lg.tr.length : Int) < N
  · refine (bust_err bv N 6 again none w (by decide) (fun W kW => toPut_none bv bm bo V.lg V.lm N W (R.log.kept0 kW) hr)).mono ?_
    rintro e w' ⟨rfl, kk⟩
    exact ⟨6, rfl, .inl ⟨.inl rfl, kk⟩⟩
  · obtain ⟨k, hk⟩ : ∃ k : Nat, N - 1 = (k : Int) := ⟨(N - 1).toNat, by omega⟩
    have hkl : k < V.lg.tr.length := by omega
    obtain ⟨x, hx⟩ : ∃ x, V.lg.tr[k]? = some x := ⟨_, List.getElem?_eq_getElem hkl⟩
    obtain ⟨tb, htb⟩ : ∃ tb, V.lm.tb[k]? = some tb := ⟨_, List.getElem?_eq_getElem (by rw [R.log.log.len]; exact hkl)⟩
    rcases putE_cases x V.lg.day with he | ⟨h0, hh⟩
    · have hne : putE x V.lg.day ≠ 0 := by omega
      refine (bust_err bv N (putE x V.lg.day) again none w hne (fun W kW => (toPut_at bv bm bo k tb V.lg V.lm N x W (R.log.kept0 kW) hk hx htb (by omega)).mono (fun e w' h => ?_))).mono ?_
      · rw [if_neg hne] at h; exact h
      · rintro e w' ⟨rfl, kk⟩
        exact ⟨_, rfl, .inl ⟨.inr he, kk⟩⟩
    · obtain ⟨f1, tw⟩ := av.fl.unhold av.told.num hx hh
      obtain ⟨⟨bx, b1, b2, b3⟩, ⟨sx, s1, s2, s3⟩, q1, q2⟩ := tw
      have nbs : x.t.buy ≠ x.t.sell := fun e => by
        rw [e, s1] at b1
        rw [Option.some.inj b1, b3] at s3
        omega
      have wfid : ∀ id y, V.oid id = some y → (Lit.int .i64 id).wf = true := fun id y h => by
        have := (g.oid id).1 ⟨y, h⟩
        exact WalkArith.wf_i64 (by omega)
      obtain ⟨hl, hhl⟩ : ∃ hl, held (V.lg.tr.set k ⟨x.t, false⟩) = hl := ⟨_, rfl⟩
      rw [hhl] at f1
      have nn : ∀ side id, 0 ≤ sumT (tq side id) hl := fun side id => sumT_nonneg (fun t ht => tq_nonneg (by have := (f1.tw t ht).qty.1; omega))
      obtain ⟨ex1, hex1⟩ : ∃ ex1 : Int → Int, ex1 = fun j => if j = x.t.sell then x.t.qty else 0 := ⟨_, rfl⟩
      have e11 : ex1 x.t.buy = exT x.t x.t.buy - x.t.qty := by
        rw [hex1]; simp [exT, nbs]
      have e12 : ∀ j, j ≠ x.t.buy → ex1 j = exT x.t j := fun j hj => by
        rw [hex1]; simp only [exT]; rw [if_neg hj]; omega
      have e21 : (fun _ => (0 : Int)) x.t.sell = ex1 x.t.sell - x.t.qty := by rw [hex1]; simp
      have e22 : ∀ j, j ≠ x.t.sell → (fun _ => (0 : Int)) j = ex1 j := fun j hj => by rw [hex1]; simp [hj]
      have fb1 : x.t.qty ≤ (V.om bx).filled := by
        have h1 := f1.eq _ _ b1
        have h2 := nn (V.om bx).side x.t.buy
        simp [exT, nbs] at h1
        omega
      refine (bust_ok bv bm bo k tb bx sx V N x again w R hT hk hx htb (by omega) (by omega) h0 b1 s1 (wfid _ _ b1) (wfid _ _ s1) (TbQ { V with lg := V.lg.busting k tb x.t, lm := V.lm } n M hl ex1) (TbQ { V with lg := V.lg.busting k tb x.t, lm := V.lm } n M hl (fun _ => 0)) (by omega) (fun w1 lm1 R1 => ?_) (fun V2 w2 hQ2 R2 ho2 hna2 hnt2 => ?_)).mono ?_
      · exact tb_good bv bm bo bx n { V with lg := V.lg.busting k tb x.t, lm := lm1 } M x.t.buy x.t.qty again hl (exT x.t) ex1 w1 R1 (g.relog _ _) hM hn b1 f1 q1 fb1 e11 e12 (by show 0 < V.lg.na + 1; omega) (by show V.lg.na + 1 ≤ 1000000; omega) (by show 1 + 3 < 1000000; omega)
      · obtain ⟨g2, f2, o2⟩ := hQ2
        have o2' : V2.oid = V.oid := o2
        have s2' : V2.oid x.t.sell = some sx := by rw [o2']; exact s1
        have fs : x.t.qty ≤ (V2.om sx).filled := by
          have h1 := f2.eq _ _ s2'
          have h2 := nn (V2.om sx).side x.t.sell
          rw [hex1] at h1
          simp only [if_pos] at h1
          omega
        have hh3 := tb_good bv bm bo sx n V2 M x.t.sell x.t.qty again hl ex1 (fun _ => 0) w2 R2 g2 hM hn s2' f2 q1 fs e21 e22 (by rw [hna2]; omega) (by rw [hna2]; omega) (by omega)
        refine hh3.mono (fun e w' h => ⟨h.1, ?_⟩)
        obtain ⟨V', hR', hQ', hrest⟩ := h.2
        exact ⟨V', hR', ⟨hQ'.1, hQ'.2.1, hQ'.2.2.trans o2⟩, hrest⟩
      · rintro e w' ⟨rfl, V3, ⟨g3, f3, o3⟩, o3', R3, lk, kc, hF⟩
        obtain ⟨l1, l2, l3, l4, l5⟩ := lk
        have ht : V3.lg.tr = V.lg.tr.set k ⟨x.t, false⟩ := l1
        have hp : V3.lg.tp.length = V.lg.tp.length + 1 := by rw [l2]; simp [Lg.busting, Lg.noted, Lg.told, Lg.unhold, Lg.begun]
        refine ⟨0, rfl, .inr ⟨rfl, V3, R3, ⟨⟨g3, ⟨by omega, by rw [ht, List.length_set]; omega, fun y hy => ?_, by rw [l4]; show V.lg.na + 1 ≤ _; omega⟩, ⟨?_, ?_, av.ty.snoc (r := ⟨(V.lg.tp.length : Int) + 1, 2, x.t⟩) (k3 x (List.mem_of_getElem? hx)) l2⟩⟩, l3, by omega⟩, kc, hF⟩⟩
        · rw [ht] at hy
          rcases List.mem_or_eq_of_mem_set hy with h | h
          · exact k3 y h
          · rw [h]; exact k3 x (List.mem_of_getElem? hx)
        · have := Lg.Told.busting av.told (tb := tb) hx hh
          unfold Lg.Told at this ⊢
          rw [l1, l2]; exact this
        · rw [ht, hhl]; exact f3

end Go.Proofs.YtigaphnafnpfnaaGreatDoor

