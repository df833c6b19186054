import Derived.Test.YtigaphnafnpfnaaGreatDoorHC1
import Derived.Test.YtigaphnafnpfnaaGreatDoorHE2
/- What a run of the market keeps: quantities, the heap, who is gone. Without memory. -/
set_option linter.unusedVariables false
set_option linter.unusedSimpArgs false
namespace Go.Proofs.YtigaphnafnpfnaaGreatDoor

/-- what was entered is what became of it -/
structure Qo (M : Int) (o : Ord) : Prop where
  sum : o.entered = o.opn + o.filled + o.canc + o.exp
  o0 : 0 ≤ o.opn
  f0 : 0 ≤ o.filled
  c0 : 0 ≤ o.canc
  e0 : 0 ≤ o.exp
  hi : o.entered ≤ M

theorem Qo.fill {M : Int} {o : Ord} (h : Qo M o) {q : Int} (h1 : 0 ≤ q) (h2 : q ≤ o.opn) (hM : M ≤ 1000000) : Qo M (fillO o q) ∧ (fillO o q).opn = o.opn - q ∧ (fillO o q).filled = o.filled + q := by
  obtain ⟨a, b, c, d, e, f⟩ := h
  have e1 : (fillO o q).opn = o.opn - q := by simp only [fillO]; exact wrap64_id (by omega) (by omega)
  have e2 : (fillO o q).filled = o.filled + q := by simp only [fillO]; exact wrap64_id (by omega) (by omega)
  refine ⟨⟨?_, by rw [e1]; omega, by rw [e2]; omega, d, e, f⟩, e1, e2⟩
  show o.entered = _
  rw [e1, e2, a]
  show _ = o.opn - q + (o.filled + q) + o.canc + o.exp
  omega

theorem Qo.canc {M : Int} {o : Ord} (h : Qo M o) (hM : M ≤ 1000000) : Qo M (cancO o) ∧ (cancO o).opn = 0 ∧ (cancO o).canc = o.canc + o.opn := by
  obtain ⟨a, b, c, d, e, f⟩ := h
  have e2 : (cancO o).canc = o.canc + o.opn := by simp only [cancO]; exact wrap64_id (by omega) (by omega)
  refine ⟨⟨?_, by show (0 : Int) ≤ 0; omega, c, by rw [e2]; omega, e, f⟩, rfl, e2⟩
  show o.entered = _
  rw [e2, a]
  show _ = 0 + o.filled + (o.canc + o.opn) + o.exp
  omega

/-- what stays of an order -/
def Stat (o o' : Ord) : Prop := o'.id = o.id ∧ o'.owner = o.owner ∧ o'.sym = o.sym ∧ o'.side = o.side ∧ o'.kind = o.kind ∧ o'.price = o.price ∧ o'.qty = o.qty ∧ o'.place = o.place ∧ o'.entered = o.entered ∧ o'.exp = o.exp

theorem Stat.refl (o : Ord) : Stat o o := ⟨rfl, rfl, rfl, rfl, rfl, rfl, rfl, rfl, rfl, rfl⟩
theorem Stat.trans {a b c : Ord} (h : Stat a b) (k : Stat b c) : Stat a c := by
  obtain ⟨a1, a2, a3, a4, a5, a6, a7, a8, a9, a10⟩ := h
  obtain ⟨b1, b2, b3, b4, b5, b6, b7, b8, b9, b10⟩ := k
  exact ⟨b1.trans a1, b2.trans a2, b3.trans a3, b4.trans a4, b5.trans a5, b6.trans a6, b7.trans a7, b8.trans a8, b9.trans a9, b10.trans a10⟩
theorem Stat.fill (o : Ord) (q : Int) : Stat o (fillO o q) := ⟨rfl, rfl, rfl, rfl, rfl, rfl, rfl, rfl, rfl, rfl⟩
theorem Stat.canc (o : Ord) : Stat o (cancO o) := ⟨rfl, rfl, rfl, rfl, rfl, rfl, rfl, rfl, rfl, rfl⟩

abbrev MemS (st : MS) (s x : Nat) : Prop := Mem (st.B.n s) (st.B.h s) x

structure Run (oc s : Nat) (M : Int) (st0 st : MS) : Prop where
  q : ∀ x, (x = oc ∨ MemS st0 s x) → Qo M (st.om x)
  mem : ∀ x, MemS st s x → MemS st0 s x
  gone : ∀ x, MemS st0 s x → ¬ MemS st s x → (st.om x).opn = 0
  heap : HeapOK (ltB st.om) (st.B.n s) (st.B.h s)
  far : ∀ x, x ≠ oc → ¬ MemS st0 s x → st.om x = st0.om x
  stat : ∀ x, Stat (st0.om x) (st.om x)
  fil : (st0.om oc).filled ≤ (st.om oc).filled
  trl : st0.tr ≤ st.tr
  eqv : (st.om oc).filled = (st0.om oc).filled ↔ st.tr = st0.tr
  canc : (st.om oc).canc = (st0.om oc).canc
  inv : Inv oc s st

theorem Run.trans {oc s : Nat} {M : Int} {a b c : MS} (h : Run oc s M a b) (k : Run oc s M b c) (iv : Inv oc s a) : Run oc s M a c := by
  have no : ∀ x, MemS a s x → x ≠ oc := fun x ⟨l, hl, e⟩ => by rw [e]; exact (iv.mem l hl).2.2.2
  refine ⟨fun x hx => ?_, fun x hx => h.mem x (k.mem x hx), fun x hx hn => ?_, k.heap, fun x h1 h2 => ?_, fun x => (h.stat x).trans (k.stat x), by have := h.fil; have := k.fil; omega, by have := h.trl; have := k.trl; omega, ?_, k.canc.trans h.canc, k.inv⟩
  · by_cases e : x = oc
    · exact k.q x (.inl e)
    · by_cases hm : MemS b s x
      · exact k.q x (.inr hm)
      · rw [k.far x e hm]; exact h.q x hx
  · by_cases hm : MemS b s x
    · exact k.gone x hm hn
    · rw [k.far x (no x hx) hm]; exact h.gone x hx hm
  · rw [k.far x h1 (fun hm => h2 (h.mem x hm)), h.far x h1 h2]
  · have a1 := h.fil; have a2 := k.fil; have a3 := h.trl; have a4 := k.trl; have a5 := h.eqv; have a6 := k.eqv
    constructor
    · intro e
      have e1 : (b.om oc).filled = (a.om oc).filled := by omega
      have e2 : (c.om oc).filled = (b.om oc).filled := by omega
      rw [a6.1 e2, a5.1 e1]
    · intro e
      have e1 : b.tr = a.tr := by omega
      have e2 : c.tr = b.tr := by omega
      rw [a6.2 e2, a5.2 e1]

theorem leave_iff {B : Bk} {om : Nat → Ord} {s i : Nat} (hinj : Inj (B.n s) (B.h s)) (hi : i < B.n s) (x : Nat) : Mem ((B.leave om s i).n s) ((B.leave om s i).h s) x ↔ Mem (B.n s) (B.h s) x ∧ x ≠ B.h s i := by
  have h0 : Inj (B.n s - 1 + 1) (B.h s) := by rw [show B.n s - 1 + 1 = B.n s by omega]; exact hinj
  have := mem_remove (lt := ltB om) (B.h s) i (n := B.n s - 1) (by omega) (h0.remove (by omega)) x
  rw [show B.n s - 1 + 1 = B.n s by omega] at this
  simp only [Bk.leave, upd_same]
  exact this

theorem leave_heap {B : Bk} {om om' : Nat → Ord} {s i : Nat} (hlt : ltB om' = ltB om) (hside : ∀ k, k < B.n s → (om (B.h s k)).side = (s : Int)) (ok : HeapOK (ltB om) (B.n s) (B.h s)) (hi : i < B.n s) : HeapOK (ltB om') ((B.leave om' s i).n s) ((B.leave om' s i).h s) := by
  simp only [Bk.leave, upd_same]
  rw [hlt]
  refine remove_ok (pre_side om (s : Int)) (B.h s) i (by omega) (fun k hk => hside k (by omega)) ?_
  rw [show B.n s - 1 + 1 = B.n s by omega]
  exact ok

theorem tradeOm_lt {om : Nat → Ord} {oc ow : Nat} (hne : ow ≠ oc) : ltB (tradeOm om oc ow) = ltB om := by
  unfold tradeOm
  simp only
  rw [ltB_upd, ltB_upd]
  · rfl
  · rfl
  · rfl
  · rw [upd_other _ _ hne]; rfl
  · rw [upd_other _ _ hne]; rfl
  · rw [upd_other _ _ hne]; rfl

theorem mstep_run {oc s : Nat} {M : Int} {st : MS} (hM : M ≤ 1000000) (iv : Inv oc s st) (hn : 0 < st.B.n s) (hp : 0 < (st.om oc).opn) (hh : HeapOK (ltB st.om) (st.B.n s) (st.B.h s)) (hq : ∀ x, (x = oc ∨ MemS st s x) → Qo M (st.om x)) : Run oc s M st (mstep oc s st) := by
  have iv' := (mstep_ok iv hn hp).1
  obtain ⟨B, om, lg⟩ := st
  simp only at hn hp hh
  have hr := iv.mem 0 hn
  simp only at hr
  obtain ⟨hs0, hpos, hmax, hne⟩ := hr
  have hrm : MemS ⟨B, om, lg⟩ s (B.h s 0) := ⟨0, hn, rfl⟩
  have hside : ∀ k, k < B.n s → (om (B.h s k)).side = (s : Int) := fun k hk => (iv.mem k hk).1
  have ivi : Inj (B.n s) (B.h s) := iv.inj
  have qr : Qo M (om (B.h s 0)) := hq _ (.inr hrm)
  have qc : Qo M (om oc) := hq _ (.inl rfl)
  unfold mstep at iv' ⊢
  simp only at iv' ⊢
  by_cases ho : (om (B.h s 0)).owner = (om oc).owner
  · rw [if_pos ho] at iv' ⊢
    obtain ⟨c1, c2, c3⟩ := qr.canc hM
    have hoc : upd om (B.h s 0) (cancO (om (B.h s 0))) oc = om oc := upd_other _ _ (fun e => hne e.symm)
    have hlt : ltB (upd om (B.h s 0) (cancO (om (B.h s 0)))) = ltB om := ltB_upd rfl rfl rfl
    refine ⟨fun x hx => ?_, fun x hx => ?_, fun x hx hnx => ?_, ?_, fun x h1 h2 => ?_, fun x => ?_, ?_, Int.le_refl _, ?_, ?_, iv'⟩
    · by_cases e : x = B.h s 0
      · simp only [e, upd_same]; exact c1
      · simp only [upd_other _ _ e]; exact hq x hx
    · exact ((leave_iff ivi hn x).1 hx).1
    · have e : x = B.h s 0 := by
        by_cases e : x = B.h s 0
        · exact e
        · exact absurd ((leave_iff ivi hn x).2 ⟨hx, e⟩) hnx
      simp only [e, upd_same]; exact c2
    · simp only
      have := leave_heap (om' := om) rfl hside hh hn
      rw [hlt]; exact this
    · exact upd_other _ _ (fun e => h2 (e ▸ hrm))
    · simp only
      by_cases e : x = B.h s 0
      · rw [e, upd_same]; exact Stat.canc _
      · rw [upd_other _ _ e]; exact Stat.refl _
    · simp only [hoc]; exact Int.le_refl _
    · exact ⟨fun _ => rfl, fun _ => by simp only [hoc]⟩
    · simp only [hoc]
  · rw [if_neg ho] at iv' ⊢
    obtain ⟨q, hqq⟩ : ∃ q, min (om oc).opn (om (B.h s 0)).opn = q := ⟨_, rfl⟩
    have q0 : 0 < q := by omega
    obtain ⟨c1, c2, c3⟩ := qc.fill (q := q) (by omega) (by omega) hM
    obtain ⟨d1, d2, d3⟩ := qr.fill (q := q) (by omega) (by omega) hM
    have toc : tradeOm om oc (B.h s 0) oc = fillO (om oc) q := by unfold tradeOm; rw [upd_other _ _ (fun e => hne e.symm), upd_same, hqq]
    have tow : tradeOm om oc (B.h s 0) (B.h s 0) = fillO (om (B.h s 0)) q := by unfold tradeOm; rw [upd_same, hqq]
    have tot : ∀ x, x ≠ oc → x ≠ B.h s 0 → tradeOm om oc (B.h s 0) x = om x := fun x h1 h2 => by unfold tradeOm; rw [upd_other _ _ h2, upd_other _ _ h1]
    have hlt := tradeOm_lt (om := om) hne
    have hmem : ∀ x, Mem ((tradeB B om oc (B.h s 0) s).n s) ((tradeB B om oc (B.h s 0) s).h s) x → Mem (B.n s) (B.h s) x := by
      intro x hx
      unfold tradeB at hx
      split at hx
      · exact ((leave_iff ivi hn x).1 hx).1
      · exact hx
    have hgone : ∀ x, Mem (B.n s) (B.h s) x → ¬ Mem ((tradeB B om oc (B.h s 0) s).n s) ((tradeB B om oc (B.h s 0) s).h s) x → (tradeOm om oc (B.h s 0) x).opn = 0 := by
      intro x hx hnx
      unfold tradeB at hnx
      split at hnx
      · rename_i hz
        have e : x = B.h s 0 := by
          by_cases e : x = B.h s 0
          · exact e
          · exact absurd ((leave_iff ivi hn x).2 ⟨hx, e⟩) hnx
        rw [e]; exact hz
      · exact absurd hx hnx
    have hheap : HeapOK (ltB (tradeOm om oc (B.h s 0))) ((tradeB B om oc (B.h s 0) s).n s) ((tradeB B om oc (B.h s 0) s).h s) := by
      unfold tradeB
      split
      · exact leave_heap hlt hside hh hn
      · rw [hlt]; exact hh
    have htr : MS.tr ⟨tradeB B om oc (B.h s 0) s, tradeOm om oc (B.h s 0), (tradeG lg om oc (B.h s 0)).addT (tradeT B om oc (B.h s 0))⟩ = MS.tr ⟨B, om, lg⟩ + 1 := by simp [MS.tr, Lg.addT, Lg.told, Lg.kept, Lg.noted, tradeG_tr]
    refine ⟨fun x hx => ?_, hmem, hgone, hheap, fun x h1 h2 => tot x h1 (fun e => h2 (e ▸ hrm)), fun x => ?_, ?_, ?_, ?_, ?_, iv'⟩
    · simp only
      by_cases e : x = oc
      · rw [e, toc]; exact c1
      · by_cases e2 : x = B.h s 0
        · rw [e2, tow]; exact d1
        · rw [tot x e e2]; exact hq x hx
    · simp only
      by_cases e : x = oc
      · rw [e, toc]; exact Stat.fill _ _
      · by_cases e2 : x = B.h s 0
        · rw [e2, tow]; exact Stat.fill _ _
        · rw [tot x e e2]; exact Stat.refl _
    · simp only [toc]; rw [c3]; omega
    · rw [htr]; omega
    · rw [htr]; simp only [toc]; rw [c3]
      constructor <;> intro h <;> omega
    · simp only [toc]; rfl

theorem matchF_run {oc s : Nat} {M : Int} (hM : M ≤ 1000000) : ∀ (f : Nat) (st : MS), Inv oc s st → HeapOK (ltB st.om) (st.B.n s) (st.B.h s) → (∀ x, (x = oc ∨ MemS st s x) → Qo M (st.om x)) → Run oc s M st (matchF oc s f st) := by
  intro f
  induction f with
  | zero => exact fun st iv hh hq => ⟨hq, fun _ h => h, fun _ h hn => absurd h hn, hh, fun _ _ _ => rfl, fun _ => Stat.refl _, Int.le_refl _, Int.le_refl _, ⟨fun _ => rfl, fun _ => rfl⟩, rfl, iv⟩
  | succ f ih =>
    intro st iv hh hq
    rw [matchF]
    split
    · exact ⟨hq, fun _ h => h, fun _ h hn => absurd h hn, hh, fun _ _ _ => rfl, fun _ => Stat.refl _, Int.le_refl _, Int.le_refl _, ⟨fun _ => rfl, fun _ => rfl⟩, rfl, iv⟩
    · rename_i hst
      obtain ⟨hn, hp⟩ := stops_false hst
      have r1 := mstep_run hM iv hn hp hh hq
      exact r1.trans (ih _ r1.inv r1.heap (fun x hx => r1.q x (hx.imp_right (r1.mem x)))) iv

/-- at the end nothing is good for it any more -/
theorem matchF_stops {oc s : Nat} : ∀ (f : Nat) (st : MS), Inv oc s st → mu oc s st ≤ f → stops oc s (matchF oc s f st) = true := by
  intro f
  induction f with
  | zero =>
    intro st iv hf
    have h0 : st.B.n s = 0 := by unfold mu at hf; omega
    simp [matchF, stops, firstG, h0]
  | succ f ih =>
    intro st iv hf
    rw [matchF]
    by_cases h : stops oc s st = true
    · rw [if_pos h]; exact h
    · rw [if_neg h]
      obtain ⟨hn, hp⟩ := stops_false h
      obtain ⟨iv', hmu, _⟩ := mstep_ok iv hn hp
      exact ih _ iv' (by omega)

end Go.Proofs.YtigaphnafnpfnaaGreatDoor

/- A good book, and one that comes. Without memory. -/
set_option linter.unusedVariables false
set_option linter.unusedSimpArgs false
namespace Go.Proofs.YtigaphnafnpfnaaGreatDoor

theorem HeapOK.cong {lt lt' : Nat → Nat → Bool} {n : Nat} {h : Nat → Nat} (ok : HeapOK lt n h) (he : ∀ j k, j < n → k < n → lt' (h j) (h k) = lt (h j) (h k)) : HeapOK lt' n h := by
  intro k h0 hk
  rw [he k (par k) hk (by unfold par; omega)]
  exact ok k h0 hk

theorem ltB_cong {om om' : Nat → Ord} {x y : Nat} (hx : (om' x).side = (om x).side ∧ (om' x).price = (om x).price ∧ (om' x).place = (om x).place) (hy : (om' y).price = (om y).price ∧ (om' y).place = (om y).place) : ltB om' x y = ltB om x y := by
  unfold ltB lessB rankI
  rw [hx.1, hx.2.1, hx.2.2, hy.1, hy.2]

/-- a book has just what is open of its symbol, in order, not crossed -/
structure GB (B : Bk) (om : Nat → Ord) (sym : ByteArray) (L : Nat → Prop) : Prop where
  bsym : B.sym = sym
  mem : ∀ s, s < 2 → ∀ x, Mem (B.n s) (B.h s) x ↔ (L x ∧ (om x).sym = sym ∧ (om x).side = (s : Int) ∧ 0 < (om x).opn)
  heap : ∀ s, s < 2 → HeapOK (ltB om) (B.n s) (B.h s)
  inj : ∀ s, s < 2 → Inj (B.n s) (B.h s)
  cross : ∀ x y, Mem (B.n 0) (B.h 0) x → Mem (B.n 1) (B.h 1) y → (om x).price < (om y).price

theorem GB.side {B : Bk} {om : Nat → Ord} {sym : ByteArray} {L : Nat → Prop} (h : GB B om sym L) {s k : Nat} (hs : s < 2) (hk : k < B.n s) : (om (B.h s k)).side = (s : Int) := ((h.mem s hs _).1 ⟨k, hk, rfl⟩).2.2.1

/-- orders that are none of the book's may turn -/
theorem GB.cong {B : Bk} {om om' : Nat → Ord} {sym : ByteArray} {L L' : Nat → Prop} (h : GB B om sym L) (hL : ∀ x, (L' x ∧ (om' x).sym = sym ∧ 0 < (om' x).opn) ↔ (L x ∧ (om x).sym = sym ∧ 0 < (om x).opn)) (he : ∀ x, L x → (om x).sym = sym → 0 < (om x).opn → (om' x).side = (om x).side ∧ (om' x).price = (om x).price ∧ (om' x).place = (om x).place) : GB B om' sym L' := by
  have hm : ∀ s, s < 2 → ∀ x, Mem (B.n s) (B.h s) x → (om' x).side = (om x).side ∧ (om' x).price = (om x).price ∧ (om' x).place = (om x).place := fun s hs x hx => by
    obtain ⟨a, b, _, d⟩ := (h.mem s hs x).1 hx
    exact he x a b d
  refine ⟨h.bsym, fun s hs x => ?_, fun s hs => (h.heap s hs).cong (fun j k hj hk => ?_), h.inj, fun x y hx hy => ?_⟩
  · rw [h.mem s hs x]
    constructor
    · rintro ⟨a, b, c, d⟩
      obtain ⟨a', b', d'⟩ := (hL x).2 ⟨a, b, d⟩
      exact ⟨a', b', by rw [(he x a b d).1]; exact c, d'⟩
    · rintro ⟨a, b, c, d⟩
      obtain ⟨a', b', d'⟩ := (hL x).1 ⟨a, b, d⟩
      exact ⟨a', b', by rw [← (he x a' b' d').1]; exact c, d'⟩
  · exact ltB_cong (hm s hs _ ⟨j, hj, rfl⟩) (hm s hs _ ⟨k, hk, rfl⟩).2
  · rw [(hm 0 (by omega) x hx).2.1, (hm 1 (by omega) y hy).2.1]
    exact h.cross x y hx hy

theorem goodB_false {kind side price p : Int} (h : goodB kind side price p = false) (hk : kind ≠ 5) : if side = 0 then price < p else p < price := by
  unfold goodB at h
  rw [if_neg hk] at h
  split at h
  · rename_i e; rw [if_pos e]; simpa using h
  · rename_i e; rw [if_neg e]; simpa using h

/-- One that comes: the book is good again; what it says of quantities. -/
theorem come_good {B : Bk} {om : Nat → Ord} {lg : Lg} {sym : ByteArray} {L : Nat → Prop} {M : Int} {oc s t g cap' : Nat} (hM : M ≤ 1000000) (hs : s < 2) (ht : t = 1 - s)
    (hL : L oc) (hsym : (om oc).sym = sym) (hside : (om oc).side = (t : Int)) (hq : ∀ x, L x → Qo M (om x)) (gb : GB B om sym (fun x => L x ∧ x ≠ oc)) :
    Inv oc s ⟨B, om, lg⟩ ∧ GB (comeB oc t g cap' (mF oc s ⟨B, om, lg⟩)) (comeOm oc (mF oc s ⟨B, om, lg⟩)) sym L ∧ (∀ x, L x → Qo M (comeOm oc (mF oc s ⟨B, om, lg⟩) x)) ∧
      Run oc s M ⟨B, om, lg⟩ (mF oc s ⟨B, om, lg⟩) ∧ (∀ x, x ≠ oc → Stat (om x) (comeOm oc (mF oc s ⟨B, om, lg⟩) x)) ∧ (∀ x, x ≠ oc → ((om x).sym ≠ sym ∨ ¬ 0 < (om x).opn ∨ ¬ L x) → comeOm oc (mF oc s ⟨B, om, lg⟩) x = om x) := by
  have t2 : t < 2 := by omega
  have hts : (t : Int) ≠ (s : Int) := by omega
  have iv : Inv oc s ⟨B, om, lg⟩ := by
    refine ⟨fun k hk => ?_, gb.inj s hs, (hq oc hL).o0, ?_, by show (om oc).side = _; rw [hside]; omega⟩
    · obtain ⟨⟨a, a'⟩, b, c, d⟩ := (gb.mem s hs _).1 ⟨k, hk, rfl⟩
      have q := hq _ a
      exact ⟨c, d, by have := q.sum; have := q.f0; have := q.c0; have := q.e0; have := q.hi; show (om (B.h s k)).opn ≤ _; omega, a'⟩
    · have q := hq oc hL
      have := q.sum; have := q.f0; have := q.c0; have := q.e0; have := q.hi
      show (om oc).opn ≤ _; omega
  have hmemL : ∀ x, Mem (B.n s) (B.h s) x → L x ∧ x ≠ oc := fun x hx => ((gb.mem s hs x).1 hx).1
  have run : Run oc s M ⟨B, om, lg⟩ (mF oc s ⟨B, om, lg⟩) := matchF_run hM _ _ iv (gb.heap s hs) (fun x hx => by
    rcases hx with rfl | hx
    · exact hq _ hL
    · exact hq x (hmemL x hx).1)
  have stp : stops oc s (mF oc s ⟨B, om, lg⟩) = true := matchF_stops _ _ iv (Nat.le_refl _)
  obtain ⟨f1, f2, f3, f4, f5⟩ := matchF_frame oc s (mu oc s ⟨B, om, lg⟩) ⟨B, om, lg⟩
  change ∀ t, t ≠ s → (mF oc s ⟨B, om, lg⟩).B.n t = B.n t ∧ (mF oc s ⟨B, om, lg⟩).B.h t = B.h t at f1
  change (mF oc s ⟨B, om, lg⟩).B.sym = B.sym at f4
  have fst := f1 t (by omega)
  generalize hst : mF oc s ⟨B, om, lg⟩ = st at *
  have rq := run.q; have rmem := run.mem; have rgone := run.gone; have rheap := run.heap; have rfar := run.far; have rstat := run.stat
  simp only at rq rmem rgone rfar rstat
  have qoc : Qo M (st.om oc) := rq oc (.inl rfl)
  have soc := rstat oc
  have q1 : ∀ x, L x → Qo M (st.om x) := fun x hx => by
    by_cases e : x = oc
    · rw [e]; exact qoc
    · by_cases hm : Mem (B.n s) (B.h s) x
      · exact rq x (.inr hm)
      · rw [rfar x e hm]; exact hq x hx
  -- what comeOm does
  have cfar : ∀ x, x ≠ oc → comeOm oc st x = st.om x := fun x h => comeOm_far oc st h
  have coc : Qo M (comeOm oc st oc) ∧ (comeOm oc st oc).sym = sym ∧ (comeOm oc st oc).side = (t : Int) ∧ (comeOm oc st oc).price = (st.om oc).price ∧ (waitsB (st.om oc) = true → (comeOm oc st oc).opn = (st.om oc).opn) ∧ (waitsB (st.om oc) = false → (comeOm oc st oc).opn = 0) := by
    unfold comeOm
    cases hw : waitsB (st.om oc)
    · simp only [Bool.false_eq_true, if_false, upd_same]
      exact ⟨(qoc.canc hM).1, soc.2.2.1.trans hsym, soc.2.2.2.1.trans hside, by first | rfl | trivial, fun h => by simp at h, fun _ => by first | rfl | trivial⟩
    · simp only [if_true, upd_same]
      exact ⟨⟨qoc.sum, qoc.o0, qoc.f0, qoc.c0, qoc.e0, qoc.hi⟩, soc.2.2.1.trans hsym, soc.2.2.2.1.trans hside, by first | rfl | trivial, fun _ => by first | rfl | trivial, fun h => by simp at h⟩
  obtain ⟨c1, c2, c3, c4, c5, c6⟩ := coc
  have memT : ∀ x, Mem (B.n t) (B.h t) x → (L x ∧ x ≠ oc) ∧ comeOm oc st x = om x := fun x hx => by
    obtain ⟨a, b, c, d⟩ := (gb.mem t t2 x).1 hx
    refine ⟨a, ?_⟩
    rw [cfar x a.2]
    exact rfar x a.2 (fun hm => hts ((((gb.mem t t2 x).1 hx).2.2.1).symm.trans ((gb.mem s hs x).1 hm).2.2.1))
  have memS1 : ∀ x, Mem (st.B.n s) (st.B.h s) x → (L x ∧ x ≠ oc) ∧ 0 < (st.om x).opn := fun x hx => by
    refine ⟨hmemL x (rmem x hx), ?_⟩
    obtain ⟨k, hk, e⟩ := hx
    rw [e]; exact (run.inv.mem k hk).2.1
  have inS : ∀ x, L x → x ≠ oc → (st.om x).sym = sym → (st.om x).side = (s : Int) → 0 < (st.om x).opn → Mem (st.B.n s) (st.B.h s) x := fun x h1 h2 h3 h4 h5 => by
    by_cases hm : Mem (B.n s) (B.h s) x
    · by_cases hm1 : Mem (st.B.n s) (st.B.h s) x
      · exact hm1
      · have := rgone x hm hm1; omega
    · rw [rfar x h2 hm] at h3 h4 h5
      exact absurd ((gb.mem s hs x).2 ⟨⟨h1, h2⟩, h3, h4, h5⟩) hm
  have inT : ∀ x, L x → x ≠ oc → (st.om x).sym = sym → (st.om x).side = (t : Int) → 0 < (st.om x).opn → Mem (B.n t) (B.h t) x := fun x h1 h2 h3 h4 h5 => by
    have hm : ¬ Mem (B.n s) (B.h s) x := fun hm => hts (((rstat x).2.2.2.1.symm.trans h4).symm.trans ((gb.mem s hs x).1 hm).2.2.1)
    rw [rfar x h2 hm] at h3 h4 h5
    exact (gb.mem t t2 x).2 ⟨⟨h1, h2⟩, h3, h4, h5⟩
  have ltS : HeapOK (ltB (comeOm oc st)) (st.B.n s) (st.B.h s) := rheap.cong (fun j k hj hk => by
    have h1 := (memS1 _ ⟨j, hj, rfl⟩).1.2
    have h2 := (memS1 _ ⟨k, hk, rfl⟩).1.2
    exact ltB_cong (by rw [cfar _ h1]; exact ⟨rfl, rfl, rfl⟩) (by rw [cfar _ h2]; exact ⟨rfl, rfl⟩))
  have ltT : HeapOK (ltB (comeOm oc st)) (B.n t) (B.h t) := (gb.heap t t2).cong (fun j k hj hk => by
    have h1 := (memT _ ⟨j, hj, rfl⟩).2
    have h2 := (memT _ ⟨k, hk, rfl⟩).2
    exact ltB_cong (by rw [h1]; exact ⟨rfl, rfl, rfl⟩) (by rw [h2]; exact ⟨rfl, rfl⟩))
  have priceS : ∀ x, Mem (st.B.n s) (st.B.h s) x → (comeOm oc st x).price = (om x).price := fun x hx => by
    rw [cfar x (memS1 x hx).1.2]; exact (rstat x).2.2.2.2.2.1
  have stat' : ∀ x, x ≠ oc → Stat (om x) (comeOm oc st x) := fun x hx => by rw [cfar x hx]; exact rstat x
  have keep' : ∀ x, x ≠ oc → ((om x).sym ≠ sym ∨ ¬ 0 < (om x).opn ∨ ¬ L x) → comeOm oc st x = om x := fun x hx h => by
    rw [cfar x hx]
    refine rfar x hx (fun hm => ?_)
    obtain ⟨⟨a, _⟩, b, _, d⟩ := (gb.mem s hs x).1 hm
    rcases h with h | h | h
    · exact h b
    · exact h d
    · exact h a
  have two : ∀ x, x < 2 → x = s ∨ x = t := by omega
  refine ⟨iv, ?_, fun x hx => ?_, run, stat', keep'⟩
  · cases hw : waitsB (st.om oc)
    · have hB : comeB oc t g cap' st = st.B := by unfold comeB; rw [hw]; rfl
      rw [hB]
      have o0 := c6 hw
      refine ⟨f4.trans gb.bsym, fun y hy x => ?_, fun y hy => ?_, fun y hy => ?_, fun x y hx hy => ?_⟩
      · rcases two y hy with rfl | rfl
        · constructor
          · intro hx
            obtain ⟨⟨a, b⟩, d⟩ := memS1 x hx
            have h0 := (gb.mem y hs x).1 (rmem x hx)
            exact ⟨a, by rw [cfar x b]; exact (rstat x).2.2.1.trans h0.2.1, by rw [cfar x b]; exact (rstat x).2.2.2.1.trans h0.2.2.1, by rw [cfar x b]; exact d⟩
          · rintro ⟨a, b, c, d⟩
            have hne : x ≠ oc := fun e => by rw [e, o0] at d; omega
            rw [cfar x hne] at b c d
            exact inS x a hne b c d
        · rw [fst.1, fst.2]
          constructor
          · intro hx
            obtain ⟨⟨a, b⟩, e⟩ := memT x hx
            have h0 := (gb.mem y t2 x).1 hx
            rw [e]
            exact ⟨a, h0.2⟩
          · rintro ⟨a, b, c, d⟩
            have hne : x ≠ oc := fun e => by rw [e, o0] at d; omega
            rw [cfar x hne] at b c d
            exact inT x a hne b c d
      · rcases two y hy with rfl | rfl
        · exact ltS
        · rw [fst.1, fst.2]; exact ltT
      · rcases two y hy with rfl | rfl
        · exact run.inv.inj
        · rw [fst.1, fst.2]; exact gb.inj y t2
      · have key : ∀ z, (z = 0 ∨ z = 1) → ∀ x, Mem (st.B.n z) (st.B.h z) x → Mem (B.n z) (B.h z) x ∧ (comeOm oc st x).price = (om x).price := fun z hz x hx => by
          rcases two z (by omega) with e | e
          · rw [e] at hx ⊢; exact ⟨rmem x hx, priceS x hx⟩
          · rw [e, fst.1, fst.2] at hx
            rw [e]; exact ⟨hx, by rw [(memT x hx).2]⟩
        obtain ⟨a1, a2⟩ := key 0 (.inl rfl) x hx
        obtain ⟨b1, b2⟩ := key 1 (.inr rfl) y hy
        rw [a2, b2]; exact gb.cross x y a1 b1
    · have hB : comeB oc t g cap' st = st.B.rest (comeOm oc st) t oc g cap' := by unfold comeB; rw [hw]; rfl
      rw [hB]
      have hop : 0 < (st.om oc).opn := by simp [waitsB] at hw; exact hw.1
      have hk5 : (st.om oc).kind ≠ 5 := by
        simp only [waitsB, restsB, Bool.and_eq_true, Bool.or_eq_true, beq_iff_eq] at hw
        omega
      have oo := c5 hw
      have nS : (st.B.rest (comeOm oc st) t oc g cap').n s = st.B.n s := by simp only [Bk.rest]; rw [upd_other _ _ (by omega)]
      have hS : (st.B.rest (comeOm oc st) t oc g cap').h s = st.B.h s := by simp only [Bk.rest]; rw [upd_other _ _ (by omega)]
      have nT : (st.B.rest (comeOm oc st) t oc g cap').n t = B.n t + 1 := by simp only [Bk.rest, upd_same, fst.1]
      have hT : (st.B.rest (comeOm oc st) t oc g cap').h t = upF (ltB (comeOm oc st)) (fun k => if k = B.n t then oc else B.h t k) (B.n t) := by simp only [Bk.rest, upd_same, fst.1, fst.2]
      have mT : ∀ x, Mem ((st.B.rest (comeOm oc st) t oc g cap').n t) ((st.B.rest (comeOm oc st) t oc g cap').h t) x ↔ Mem (B.n t) (B.h t) x ∨ x = oc := fun x => by rw [nT, hT]; exact mem_push _ _ _
      -- nothing of the other side is good for it
      have bad : ∀ y, Mem (st.B.n s) (st.B.h s) y → if (t : Int) = 0 then (comeOm oc st oc).price < (om y).price else (om y).price < (comeOm oc st oc).price := by
        intro y hy
        have hf : firstG st.B st.om (askOf (st.om oc)) s = none := by
          simp only [stops, Bool.or_eq_true, Bool.not_eq_true', decide_eq_false_iff_not] at stp
          rcases stp with h | h
          · exact absurd hop h
          · simpa using h
        obtain ⟨k, hk, e⟩ := hy
        have hn0 : st.B.n s ≠ 0 := by omega
        unfold firstG at hf
        rw [if_neg hn0] at hf
        have hg : goodB (askOf (st.om oc)).kind (askOf (st.om oc)).side (askOf (st.om oc)).price (st.om (st.B.h s 0)).price = false := by
          split at hf
          · simp at hf
          · rename_i h; simpa using h
        have hb := goodB_false hg hk5
        have hsd : (askOf (st.om oc)).side = (t : Int) := soc.2.2.2.1.trans hside
        rw [hsd] at hb
        have hsideS : ∀ k, k < st.B.n s → (st.om (st.B.h s k)).side = (s : Int) := fun k hk => (run.inv.mem k hk).1
        have hmin := root_min (pre_side st.om (s : Int)) rheap hsideS k hk
        have hless := (lessB_iff' _ _).1 hmin
        rw [hsideS k hk] at hless
        have hp0 : (st.om y).price = (om y).price := (rstat y).2.2.2.2.2.1
        rw [c4]
        rw [← e] at hless
        rw [hp0] at hless
        show if (t : Int) = 0 then (st.om oc).price < (om y).price else (om y).price < (st.om oc).price
        have hap : (askOf (st.om oc)).price = (st.om oc).price := rfl
        rw [hap] at hb
        by_cases e0 : (t : Int) = 0
        · rw [if_pos e0] at hb ⊢
          have es : ¬ (s : Int) = 0 := by omega
          rw [if_neg es] at hless
          omega
        · rw [if_neg e0] at hb ⊢
          have es : (s : Int) = 0 := by omega
          rw [if_pos es] at hless
          omega
      refine ⟨f4.trans gb.bsym, fun y hy x => ?_, fun y hy => ?_, fun y hy => ?_, fun x y hx hy => ?_⟩
      · rcases two y hy with e | e
        · rw [e, nS, hS]
          constructor
          · intro hx
            obtain ⟨⟨a, b⟩, d⟩ := memS1 x hx
            have h0 := (gb.mem s hs x).1 (rmem x hx)
            exact ⟨a, by rw [cfar x b]; exact (rstat x).2.2.1.trans h0.2.1, by rw [cfar x b]; exact (rstat x).2.2.2.1.trans h0.2.2.1, by rw [cfar x b]; exact d⟩
          · rintro ⟨a, b, c, d⟩
            have hne : x ≠ oc := fun e => by rw [e, c3] at c; exact hts c
            rw [cfar x hne] at b c d
            exact inS x a hne b c d
        · rw [e, mT x]
          constructor
          · rintro (hx | hx)
            · obtain ⟨⟨a, b⟩, e⟩ := memT x hx
              have h0 := (gb.mem t t2 x).1 hx
              rw [e]
              exact ⟨a, h0.2⟩
            · rw [hx]; exact ⟨hL, c2, c3, by rw [oo]; exact hop⟩
          · rintro ⟨a, b, c, d⟩
            by_cases hne : x = oc
            · exact .inr hne
            · rw [cfar x hne] at b c d
              exact .inl (inT x a hne b c d)
      · rcases two y hy with e | e
        · rw [e, nS, hS]; exact ltS
        · rw [e, nT, hT]
          refine push_ok (pre_side (comeOm oc st) (t : Int)) _ _ c3 (fun k hk => ?_) ltT
          rw [(memT _ ⟨k, hk, rfl⟩).2]; exact gb.side t2 hk
      · rcases two y hy with e | e
        · rw [e, nS, hS]; exact run.inv.inj
        · rw [e, nT, hT]
          refine Inj.up ?_ (by omega)
          intro a b ha hb e2
          simp only at e2
          have hno : ∀ k, k < B.n t → B.h t k ≠ oc := fun k hk => ((memT _ ⟨k, hk, rfl⟩).1).2
          by_cases ea : a = B.n t <;> by_cases eb : b = B.n t
          · omega
          · rw [if_pos ea, if_neg eb] at e2; exact absurd e2.symm (hno b (by omega))
          · rw [if_neg ea, if_pos eb] at e2; exact absurd e2 (hno a (by omega))
          · rw [if_neg ea, if_neg eb] at e2; exact gb.inj t t2 a b (by omega) (by omega) e2
      · have h01 : (s = 0 ∧ t = 1) ∨ (s = 1 ∧ t = 0) := by omega
        rcases h01 with ⟨rfl, rfl⟩ | ⟨rfl, rfl⟩
        · rw [nS, hS] at hx
          rw [mT y] at hy
          rcases hy with hy | hy
          · rw [priceS x hx, (memT y hy).2]; exact gb.cross x y (rmem x hx) hy
          · have := bad x hx
            rw [if_neg (by decide)] at this
            rw [hy, priceS x hx]; exact this
        · rw [mT x] at hx
          rw [nS, hS] at hy
          rcases hx with hx | hx
          · rw [priceS y hy, (memT x hx).2]; exact gb.cross x y hx (rmem y hy)
          · have := bad y hy
            rw [if_pos (by decide)] at this
            rw [hx, priceS y hy]; exact this
  · by_cases e : x = oc
    · rw [e]; exact c1
    · rw [cfar x e]; exact q1 x hx

end Go.Proofs.YtigaphnafnpfnaaGreatDoor

