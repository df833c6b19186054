/- What a run of the market keeps: quantities, the heap, who is gone. Without memory. -/
import Derived.Test.YtafhnopgndemcaaGreatC3
import Derived.Test.YtafhnopgndemcaaGreatE5
set_option linter.unusedVariables false
set_option linter.unusedSimpArgs false
namespace Go.Proofs.YtafhnopgndemcaaGreat

/-- what was entered is what became of it -/
structure Qo (M : Int) (o : Ord) : Prop where
  sum : o.entered = o.opn + o.filled + o.canc + o.exp
  o0 : 0 ≤ o.opn
  f0 : 0 ≤ o.filled
  c0 : 0 ≤ o.canc
  e0 : 0 ≤ o.exp
  hi : o.entered ≤ M

theorem Qo.fill {M : Int} {o : Ord} (h : Qo M o) {q : Int} (h1 : 0 ≤ q) (h2 : q ≤ o.opn) (hM : M ≤ 1000000) : Qo M (fillO o q) ∧ (fillO o q).opn = o.opn - q ∧ (fillO o q).filled = o.filled + q := by
  obtain ⟨a, b, c, d, e, f⟩ := h
  have e1 : (fillO o q).opn = o.opn - q := by simp only [fillO]; exact wrap64_id (by omega) (by omega)
  have e2 : (fillO o q).filled = o.filled + q := by simp only [fillO]; exact wrap64_id (by omega) (by omega)
  refine ⟨⟨?_, by rw [e1]; omega, by rw [e2]; omega, d, e, f⟩, e1, e2⟩
  show o.entered = _
  rw [e1, e2, a]
  show _ = o.opn - q + (o.filled + q) + o.canc + o.exp
  omega

theorem Qo.canc {M : Int} {o : Ord} (h : Qo M o) (hM : M ≤ 1000000) : Qo M (cancO o) ∧ (cancO o).opn = 0 ∧ (cancO o).canc = o.canc + o.opn := by
  obtain ⟨a, b, c, d, e, f⟩ := h
  have e2 : (cancO o).canc = o.canc + o.opn := by simp only [cancO]; exact wrap64_id (by omega) (by omega)
  refine ⟨⟨?_, by show (0 : Int) ≤ 0; omega, c, by rw [e2]; omega, e, f⟩, rfl, e2⟩
  show o.entered = _
  rw [e2, a]
  show _ = 0 + o.filled + (o.canc + o.opn) + o.exp
  omega

/-- what stays of an order -/
def Stat (o o' : Ord) : Prop := o'.id = o.id ∧ o'.owner = o.owner ∧ o'.sym = o.sym ∧ o'.side = o.side ∧ o'.kind = o.kind ∧ o'.price = o.price ∧ o'.qty = o.qty ∧ o'.place = o.place ∧ o'.entered = o.entered ∧ o'.exp = o.exp

theorem Stat.refl (o : Ord) : Stat o o := ⟨rfl, rfl, rfl, rfl, rfl, rfl, rfl, rfl, rfl, rfl⟩
theorem Stat.trans {a b c : Ord} (h : Stat a b) (k : Stat b c) : Stat a c := by
  obtain ⟨a1, a2, a3, a4, a5, a6, a7, a8, a9, a10⟩ := h
  obtain ⟨b1, b2, b3, b4, b5, b6, b7, b8, b9, b10⟩ := k
  exact ⟨b1.trans a1, b2.trans a2, b3.trans a3, b4.trans a4, b5.trans a5, b6.trans a6, b7.trans a7, b8.trans a8, b9.trans a9, b10.trans a10⟩
theorem Stat.fill (o : Ord) (q : Int) : Stat o (fillO o q) := ⟨rfl, rfl, rfl, rfl, rfl, rfl, rfl, rfl, rfl, rfl⟩
theorem Stat.canc (o : Ord) : Stat o (cancO o) := ⟨rfl, rfl, rfl, rfl, rfl, rfl, rfl, rfl, rfl, rfl⟩

abbrev MemS (st : MS) (s x : Nat) : Prop := Mem (st.B.n s) (st.B.h s) x

structure Run (oc s : Nat) (M : Int) (st0 st : MS) : Prop where
  q : ∀ x, (x = oc ∨ MemS st0 s x) → Qo M (st.om x)
  mem : ∀ x, MemS st s x → MemS st0 s x
  gone : ∀ x, MemS st0 s x → ¬ MemS st s x → (st.om x).opn = 0
  heap : HeapOK (ltB st.om) (st.B.n s) (st.B.h s)
  far : ∀ x, x ≠ oc → ¬ MemS st0 s x → st.om x = st0.om x
  stat : ∀ x, Stat (st0.om x) (st.om x)
  fil : (st0.om oc).filled ≤ (st.om oc).filled
  trl : st0.tr ≤ st.tr
  eqv : (st.om oc).filled = (st0.om oc).filled ↔ st.tr = st0.tr
  canc : (st.om oc).canc = (st0.om oc).canc
  inv : Inv oc s st

theorem Run.trans {oc s : Nat} {M : Int} {a b c : MS} (h : Run oc s M a b) (k : Run oc s M b c) (iv : Inv oc s a) : Run oc s M a c := by
  have no : ∀ x, MemS a s x → x ≠ oc := fun x ⟨l, hl, e⟩ => by rw [e]; exact (iv.mem l hl).2.2.2
  refine ⟨fun x hx => ?_, fun x hx => h.mem x (k.mem x hx), fun x hx hn => ?_, k.heap, fun x h1 h2 => ?_, fun x => (h.stat x).trans (k.stat x), by have := h.fil; have := k.fil; omega, by have := h.trl; have := k.trl; omega, ?_, k.canc.trans h.canc, k.inv⟩
  · by_cases e : x = oc
    · exact k.q x (.inl e)
    · by_cases hm : MemS b s x
      · exact k.q x (.inr hm)
      · rw [k.far x e hm]; exact h.q x hx
  · by_cases hm : MemS b s x
    · exact k.gone x hm hn
    · rw [k.far x (no x hx) hm]; exact h.gone x hx hm
  · rw [k.far x h1 (fun hm => h2 (h.mem x hm)), h.far x h1 h2]
  · have a1 := h.fil; have a2 := k.fil; have a3 := h.trl; have a4 := k.trl; have a5 := h.eqv; have a6 := k.eqv
    constructor
    · intro e
      have e1 : (b.om oc).filled = (a.om oc).filled := by omega
      have e2 : (c.om oc).filled = (b.om oc).filled := by omega
      rw [a6.1 e2, a5.1 e1]
    · intro e
      have e1 : b.tr = a.tr := by omega
      have e2 : c.tr = b.tr := by omega
      rw [a6.2 e2, a5.2 e1]

theorem leave_iff {B : Bk} {om : Nat → Ord} {s i : Nat} (hinj : Inj (B.n s) (B.h s)) (hi : i < B.n s) (x : Nat) : Mem ((B.leave om s i).n s) ((B.leave om s i).h s) x ↔ Mem (B.n s) (B.h s) x ∧ x ≠ B.h s i := by
  have h0 : Inj (B.n s - 1 + 1) (B.h s) := by rw [show B.n s - 1 + 1 = B.n s by omega]; exact hinj
  have := mem_remove (lt := ltB om) (B.h s) i (n := B.n s - 1) (by omega) (h0.remove (by omega)) x
  rw [show B.n s - 1 + 1 = B.n s by omega] at this
  simp only [Bk.leave, upd_same]
  exact this

theorem leave_heap {B : Bk} {om om' : Nat → Ord} {s i : Nat} (hlt : ltB om' = ltB om) (hside : ∀ k, k < B.n s → (om (B.h s k)).side = (s : Int)) (ok : HeapOK (ltB om) (B.n s) (B.h s)) (hi : i < B.n s) : HeapOK (ltB om') ((B.leave om' s i).n s) ((B.leave om' s i).h s) := by
  simp only [Bk.leave, upd_same]
  rw [hlt]
  refine remove_ok (pre_side om (s : Int)) (B.h s) i (by omega) (fun k hk => hside k (by omega)) ?_
  rw [show B.n s - 1 + 1 = B.n s by omega]
  exact ok

theorem tradeOm_lt {om : Nat → Ord} {oc ow : Nat} (hne : ow ≠ oc) : ltB (tradeOm om oc ow) = ltB om := by
  unfold tradeOm
  simp only
  rw [ltB_upd, ltB_upd]
  · rfl
  · rfl
  · rfl
  · rw [upd_other _ _ hne]; rfl
  · rw [upd_other _ _ hne]; rfl
  · rw [upd_other _ _ hne]; rfl

theorem mstep_run {oc s : Nat} {M : Int} {st : MS} (hM : M ≤ 1000000) (iv : Inv oc s st) (hn : 0 < st.B.n s) (hp : 0 < (st.om oc).opn) (hh : HeapOK (ltB st.om) (st.B.n s) (st.B.h s)) (hq : ∀ x, (x = oc ∨ MemS st s x) → Qo M (st.om x)) : Run oc s M st (mstep oc s st) := by
  have iv' := (mstep_ok iv hn hp).1
  obtain ⟨B, om, lg⟩ := st
  simp only at hn hp hh
  have hr := iv.mem 0 hn
  simp only at hr
  obtain ⟨hs0, hpos, hmax, hne⟩ := hr
  have hrm : MemS ⟨B, om, lg⟩ s (B.h s 0) := ⟨0, hn, rfl⟩
  have hside : ∀ k, k < B.n s → (om (B.h s k)).side = (s : Int) := fun k hk => (iv.mem k hk).1
  have ivi : Inj (B.n s) (B.h s) := iv.inj
  have qr : Qo M (om (B.h s 0)) := hq _ (.inr hrm)
  have qc : Qo M (om oc) := hq _ (.inl rfl)
  unfold mstep at iv' ⊢
  simp only at iv' ⊢
  by_cases ho : (om (B.h s 0)).owner = (om oc).owner
  · rw [if_pos ho] at iv' ⊢
    obtain ⟨c1, c2, c3⟩ := qr.canc hM
    have hoc : upd om (B.h s 0) (cancO (om (B.h s 0))) oc = om oc := upd_other _ _ (fun e => hne e.symm)
    have hlt : ltB (upd om (B.h s 0) (cancO (om (B.h s 0)))) = ltB om := ltB_upd rfl rfl rfl
    refine ⟨fun x hx => ?_, fun x hx => ?_, fun x hx hnx => ?_, ?_, fun x h1 h2 => ?_, fun x => ?_, ?_, Int.le_refl _, ?_, ?_, iv'⟩
    · by_cases e : x = B.h s 0
      · simp only [e, upd_same]; exact c1
      · simp only [upd_other _ _ e]; exact hq x hx
    · exact ((leave_iff ivi hn x).1 hx).1
    · have e : x = B.h s 0 := by
        by_cases e : x = B.h s 0
        · exact e
        · exact absurd ((leave_iff ivi hn x).2 ⟨hx, e⟩) hnx
      simp only [e, upd_same]; exact c2
    · simp only
      have := leave_heap (om' := om) rfl hside hh hn
      rw [hlt]; exact this
    · exact upd_other _ _ (fun e => h2 (e ▸ hrm))
    · simp only
      by_cases e : x = B.h s 0
      · rw [e, upd_same]; exact Stat.canc _
      · rw [upd_other _ _ e]; exact Stat.refl _
    · simp only [hoc]; exact Int.le_refl _
    · exact ⟨fun _ => rfl, fun _ => by simp only [hoc]⟩
    · simp only [hoc]
  · rw [if_neg ho] at iv' ⊢
    obtain ⟨q, hqq⟩ : ∃ q, min (om oc).opn (om (B.h s 0)).opn = q := ⟨_, rfl⟩
    have q0 : 0 < q := by omega
    obtain ⟨c1, c2, c3⟩ := qc.fill (q := q) (by omega) (by omega) hM
    obtain ⟨d1, d2, d3⟩ := qr.fill (q := q) (by omega) (by omega) hM
    have toc : tradeOm om oc (B.h s 0) oc = fillO (om oc) q := by unfold tradeOm; rw [upd_other _ _ (fun e => hne e.symm), upd_same, hqq]
    have tow : tradeOm om oc (B.h s 0) (B.h s 0) = fillO (om (B.h s 0)) q := by unfold tradeOm; rw [upd_same, hqq]
    have tot : ∀ x, x ≠ oc → x ≠ B.h s 0 → tradeOm om oc (B.h s 0) x = om x := fun x h1 h2 => by unfold tradeOm; rw [upd_other _ _ h2, upd_other _ _ h1]
    have hlt := tradeOm_lt (om := om) hne
    have hmem : ∀ x, Mem ((tradeB B om oc (B.h s 0) s).n s) ((tradeB B om oc (B.h s 0) s).h s) x → Mem (B.n s) (B.h s) x := by
      intro x hx
      unfold tradeB at hx
      split at hx
      · exact ((leave_iff ivi hn x).1 hx).1
      · exact hx
    have hgone : ∀ x, Mem (B.n s) (B.h s) x → ¬ Mem ((tradeB B om oc (B.h s 0) s).n s) ((tradeB B om oc (B.h s 0) s).h s) x → (tradeOm om oc (B.h s 0) x).opn = 0 := by
      intro x hx hnx
      unfold tradeB at hnx
      split at hnx
      · rename_i hz
        have e : x = B.h s 0 := by
          by_cases e : x = B.h s 0
          · exact e
          · exact absurd ((leave_iff ivi hn x).2 ⟨hx, e⟩) hnx
        rw [e]; exact hz
      · exact absurd hx hnx
    have hheap : HeapOK (ltB (tradeOm om oc (B.h s 0))) ((tradeB B om oc (B.h s 0) s).n s) ((tradeB B om oc (B.h s 0) s).h s) := by
      unfold tradeB
      split
      · exact leave_heap hlt hside hh hn
      · rw [hlt]; exact hh
    have htr : MS.tr ⟨tradeB B om oc (B.h s 0) s, tradeOm om oc (B.h s 0), (tradeG lg om oc (B.h s 0)).addT (tradeT B om oc (B.h s 0))⟩ = MS.tr ⟨B, om, lg⟩ + 1 := by simp [MS.tr, Lg.addT, Lg.told, Lg.kept, Lg.noted, tradeG_tr]
    refine ⟨fun x hx => ?_, hmem, hgone, hheap, fun x h1 h2 => tot x h1 (fun e => h2 (e ▸ hrm)), fun x => ?_, ?_, ?_, ?_, ?_, iv'⟩
    · simp only
      by_cases e : x = oc
      · rw [e, toc]; exact c1
      · by_cases e2 : x = B.h s 0
        · rw [e2, tow]; exact d1
        · rw [tot x e e2]; exact hq x hx
    · simp only
      by_cases e : x = oc
      · rw [e, toc]; exact Stat.fill _ _
      · by_cases e2 : x = B.h s 0
        · rw [e2, tow]; exact Stat.fill _ _
        · rw [tot x e e2]; exact Stat.refl _
    · simp only [toc]; rw [c3]; omega
    · rw [htr]; omega
    · rw [htr]; simp only [toc]; rw [c3]
      constructor <;> intro h <;> omega
    · simp only [toc]; rfl

theorem matchF_run {oc s : Nat} {M : Int} (hM : M ≤ 1000000) : ∀ (f : Nat) (st : MS), Inv oc s st → HeapOK (ltB st.om) (st.B.n s) (st.B.h s) → (∀ x, (x = oc ∨ MemS st s x) → Qo M (st.om x)) → Run oc s M st (matchF oc s f st) := by
  intro f
  induction f with
  | zero => exact fun st iv hh hq => ⟨hq, fun _ h => h, fun _ h hn => absurd h hn, hh, fun _ _ _ => rfl, fun _ => Stat.refl _, Int.le_refl _, Int.le_refl _, ⟨fun _ => rfl, fun _ => rfl⟩, rfl, iv⟩
  | succ f ih =>
    intro st iv hh hq
    rw [matchF]
    split
    · exact ⟨hq, fun _ h => h, fun _ h hn => absurd h hn, hh, fun _ _ _ => rfl, fun _ => Stat.refl _, Int.le_refl _, Int.le_refl _, ⟨fun _ => rfl, fun _ => rfl⟩, rfl, iv⟩
    · rename_i hst
      obtain ⟨hn, hp⟩ := stops_false hst
      have r1 := mstep_run hM iv hn hp hh hq
      exact r1.trans (ih _ r1.inv r1.heap (fun x hx => r1.q x (hx.imp_right (r1.mem x)))) iv

/-- at the end nothing is good for it any more -/
theorem matchF_stops {oc s : Nat} : ∀ (f : Nat) (st : MS), Inv oc s st → mu oc s st ≤ f → stops oc s (matchF oc s f st) = true := by
  intro f
  induction f with
  | zero =>
    intro st iv hf
    have h0 : st.B.n s = 0 := by unfold mu at hf; omega
    simp [matchF, stops, firstG, h0]
  | succ f ih =>
    intro st iv hf
    rw [matchF]
    by_cases h : stops oc s st = true
    · rw [if_pos h]; exact h
    · rw [if_neg h]
      obtain ⟨hn, hp⟩ := stops_false h
      obtain ⟨iv', hmu, _⟩ := mstep_ok iv hn hp
      exact ih _ iv' (by omega)

end Go.Proofs.YtafhnopgndemcaaGreat
