/- A venue of which one book, some orders and the log have turned -/
import Derived.Test.YtafhnopgndemcaaGreatF5
set_option linter.unusedVariables false
set_option linter.unusedSimpArgs false
namespace Go.Proofs.YtafhnopgndemcaaGreat
open Go.RowKit Go.Maps

def Ven.turnL (V : Ven) (i : Nat) (B' : Bk) (om' : Nat → Ord) (G' : Lg) (lm' : Lm) : Ven := { V with B := upd V.B i B', om := om', lg := G', lm := lm' }

/-- what a call leaves -/
def Next (bv bm bo : Nat) (V : Ven) (Q : Ven → Prop) (w w' : World) : Prop :=
  ∃ V2, Rep w' bv bm bo V2 ∧ Q V2 ∧ Chg (Foot bv bm bo V) w w' ∧ ∀ x, Foot bv bm bo V2 x → Foot bv bm bo V x ∨ w.heap.size ≤ x

theorem Next.of {w w' : World} {bv bm bo i : Nat} {V : Ven} (R : Rep w bv bm bo V) (hi : i < V.nb) {B' : Bk} {om' : Nat → Ord} {G' : Lg} {lm' : Lm} {S : Nat → Prop} (Q : Ven → Prop)
    (hm : Mk w' (V.bk i) B' om' (fun x => ∃ id, V.oid id = some x)) (hl : IsLog w' bv bm bo G' lm') (hf : ∀ x, lm'.F x → V.lm.F x ∨ w.heap.size ≤ x) (k : Chg S w w')
    (hS : ∀ x, S x → x = bv ∨ V.lm.F x ∨ x = V.bk i ∨ (∃ s, s < 2 ∧ SdB (V.B i) s x) ∨ ((∃ id, V.oid id = some x) ∧ Apart V i x))
    (hom : ∀ j, j < V.nb → j ≠ i → ∀ s, s < 2 → ∀ l, l < (V.B j).n s → om' ((V.B j).h s l) = V.om ((V.B j).h s l)) (hid : ∀ x, (om' x).id = (V.om x).id) (hsym : B'.sym = (V.B i).sym)
    (hsd : ∀ s, s < 2 → ∀ x, SdB B' s x → (∃ t, t < 2 ∧ SdB (V.B i) t x) ∨ ((∃ id, V.oid id = some x) ∧ Apart V i x) ∨ w.heap.size ≤ x) (hQ : Q (V.turnL i B' om' G' lm')) : Next bv bm bo V Q w w' := by
  have typ : ∀ x, S x → ∃ c t, Blk w x c t := fun x hx => by
    rcases hS x hx with rfl | h | h | h | ⟨h, _⟩
    · exact ⟨_, _, R.ven⟩
    · obtain ⟨c, t, hc, _⟩ := R.log.log.typ h; exact ⟨c, t, hc⟩
    · obtain ⟨c, t, hc, _⟩ := (R.mkt hi).typ (.inl h); exact ⟨c, t, hc⟩
    · obtain ⟨c, t, hc, _⟩ := (R.mkt hi).typ (.inr (.inr h)); exact ⟨c, t, hc⟩
    · obtain ⟨c, t, hc, _⟩ := (R.mkt hi).typ (.inr (.inl h)); exact ⟨c, t, hc⟩
  obtain ⟨fB, mB, fB1, fB2⟩ := R.books
  obtain ⟨fO, mO, fO1⟩ := R.orders
  have nB : ¬ S bm := fun h => by obtain ⟨c, t, hc⟩ := typ bm h; exact mB.ne hc rfl
  have nO : ¬ S bo := fun h => by obtain ⟨c, t, hc⟩ := typ bo h; exact mO.ne hc rfl
  have sdlt : ∀ j, j < V.nb → ∀ x, x < 2 → ∀ y, SdB (V.B j) x y → y < w.heap.size := fun j hj x hx y h => by
    rcases h with h | ⟨l, hl, rfl⟩
    · exact ((R.book j hj).side x hx).lt h
    · exact (((R.book j hj).side x hx).ords hl).lt
  have apart0 : ∀ s, s < 2 → ∀ x, SdB (V.B i) s x → Apart V i x := fun s hs x hx j hj hne t ht h => R.seps i j hi hj (fun e => hne e.symm) s t hs ht x hx h
  have sdT : ∀ j, j < V.nb → ∀ y, y < 2 → ∀ x c t, Blk w x c t → t ≠ 108 → t ≠ 110 → ¬ SdB (V.B j) y x := fun j hj y hy x c t hb h1 h2 h => by
    rcases h with h | ⟨l, hl, h⟩
    · exact ((R.book j hj).side y hy).ne hb h1 h
    · rw [h] at hb; exact Blk.ne hb (((R.book j hj).side y hy).ords hl) h2 rfl
  have far : ∀ j, j < V.nb → j ≠ i → IsBook w' (V.bk j) (V.B j) om' := fun j hj hne => by
    have h6 : IsBook w' (V.bk j) (V.B j) V.om := (R.book j hj).kept k (by
      rintro x (rfl | ⟨y, hy, h⟩) hx
      · rcases hS _ hx with h | h | h | ⟨s, hs, h⟩ | ⟨⟨id, h⟩, _⟩
        · exact Blk.ne (R.book j hj).blk R.ven (by decide) h
        · exact R.log.log.ne (R.book j hj).blk (by decide) (by decide) (by decide) (by decide) (by decide) h
        · exact R.sepb j i hj hi hne h
        · exact sdT i hi s hs _ _ _ (R.book j hj).blk (by decide) (by decide) h
        · obtain ⟨_, ix, ho⟩ := R.ords id _ h
          exact Blk.ne (R.book j hj).blk ho (by decide) rfl
      · rcases hS _ hx with e | e | e | ⟨s, hs, e⟩ | ⟨_, e⟩
        · rw [e] at h; exact sdT j hj y hy _ _ _ R.ven (by decide) (by decide) h
        · obtain ⟨c, t, hc, ht⟩ := R.log.log.typ e
          exact sdT j hj y hy _ _ _ hc (by rcases ht with rfl | rfl | rfl | rfl | rfl <;> decide) (by rcases ht with rfl | rfl | rfl | rfl | rfl <;> decide) h
        · rw [e] at h; exact sdT j hj y hy _ _ _ (R.book i hi).blk (by decide) (by decide) h
        · exact apart0 s hs x e j hj hne y hy h
        · exact e j hj hne y hy h)
    exact ⟨h6.blk, fun y hy => (h6.side y hy).om (fun l hl => hom j hj hne y hy l hl), h6.apart, h6.disj⟩
  have hRep : Rep w' bv bm bo (V.turnL i B' om' G' lm') := by
    refine ⟨hl, ⟨fB, mB.kept k nB, ?_, ?_⟩, ⟨fO, mO.kept k nO, fO1⟩, R.mne, ?_, ?_, ?_, R.sepb, ?_, R.no200⟩
    · intro j hj
      by_cases e : j = i
      · subst e; simp only [Ven.turnL, upd_same, hsym]; exact fB1 j hj
      · simp only [Ven.turnL, upd_other _ _ e]; exact fB1 j hj
    · intro s' b' h
      obtain ⟨j, hj, e1, e2⟩ := fB2 s' b' h
      refine ⟨j, hj, e1, ?_⟩
      by_cases e : j = i
      · subst e; simp only [Ven.turnL, upd_same, hsym]; exact e2
      · simp only [Ven.turnL, upd_other _ _ e]; exact e2
    · intro j hj
      by_cases e : j = i
      · subst e; simp only [Ven.turnL, upd_same]; exact hm.book
      · simp only [Ven.turnL, upd_other _ _ e]; exact far j hj e
    · intro id x hx
      simp only [Ven.turnL] at hx ⊢
      rw [hid]
      exact ⟨(R.ords id x hx).1, hm.ords x ⟨id, hx⟩⟩
    · intro j hj x hx l hl
      simp only [Ven.turnL] at hj hl ⊢
      by_cases e : j = i
      · subst e
        simp only [upd_same] at hl ⊢
        exact hm.mem x hx l hl
      · simp only [upd_other _ _ e] at hl ⊢
        exact R.mem j hj x hx l hl
    · intro p q hp hq hne x y hx hy z h1 h2
      have half : ∀ q, q < V.nb → q ≠ i → ∀ x y, x < 2 → y < 2 → ∀ z, SdB B' x z → SdB (V.B q) y z → False := by
        intro q hq hne x y hx hy z h1 h2
        rcases hsd x hx z h1 with ⟨t, ht, h⟩ | ⟨_, h⟩ | h
        · exact apart0 t ht z h q hq hne y hy h2
        · exact h q hq hne y hy h2
        · have := sdlt q hq y hy z h2; omega
      simp only [Ven.turnL] at h1 h2
      by_cases e : p = i
      · rw [e, upd_same] at h1
        rw [upd_other _ _ (show q ≠ i by omega)] at h2
        exact half q hq (by omega) x y hx hy z h1 h2
      · rw [upd_other _ _ e] at h1
        by_cases e2 : q = i
        · rw [e2, upd_same] at h2
          exact half p hp e y x hy hx z h2 h1
        · rw [upd_other _ _ e2] at h2
          exact R.seps p q hp hq hne x y hx hy z h1 h2
  refine ⟨_, hRep, hQ, k.mono (fun x hx => ?_), fun x hx => ?_⟩
  · rcases hS x hx with h | h | h | ⟨s, hs, h⟩ | ⟨h, _⟩
    · exact .inl h
    · exact .inr (.inr (.inr (.inr (.inr h))))
    · exact .inr (.inr (.inr (.inl ⟨i, hi, .inl h⟩)))
    · exact .inr (.inr (.inr (.inl ⟨i, hi, .inr ⟨s, hs, h⟩⟩)))
    · exact .inr (.inr (.inr (.inr (.inl h))))
  · rcases hx with h | h | h | ⟨j, hj, h⟩ | h | h
    · exact .inl (.inl h)
    · exact .inl (.inr (.inl h))
    · exact .inl (.inr (.inr (.inl h)))
    · rcases h with h | ⟨s, hs, h⟩
      · exact .inl (.inr (.inr (.inr (.inl ⟨j, hj, .inl h⟩))))
      · by_cases e : j = i
        · subst e
          simp only [Ven.turnL, upd_same] at h
          rcases hsd s hs x h with ⟨t, ht, h⟩ | ⟨h, _⟩ | h
          · exact .inl (.inr (.inr (.inr (.inl ⟨j, hj, .inr ⟨t, ht, h⟩⟩))))
          · exact .inl (.inr (.inr (.inr (.inr (.inl h)))))
          · exact .inr h
        · simp only [Ven.turnL, upd_other _ _ e] at h
          exact .inl (.inr (.inr (.inr (.inl ⟨j, hj, .inr ⟨s, hs, h⟩⟩))))
    · exact .inl (.inr (.inr (.inr (.inr (.inl h)))))
    · rcases hf x h with h | h
      · exact .inl (.inr (.inr (.inr (.inr (.inr h)))))
      · exact .inr h

theorem Next.keep {w w' w'' : World} {bv bm bo : Nat} {V : Ven} {Q : Ven → Prop} (h : Next bv bm bo V Q w w') {x : Nat} {c : Array Value} (hb : Blk w' x c 83) (hx : w.heap.size ≤ x) (k : Chg (fun y => y = x) w' w'') : Next bv bm bo V Q w w'' := by
  obtain ⟨V2, R2, q2, k2, f2⟩ := h
  have nf : ¬ Foot bv bm bo V2 x := R2.foot hb (by decide) (by decide) (by decide) (by decide) (by decide) (by decide) (by decide)
  obtain ⟨gB, nB, g1, g2⟩ := R2.books
  obtain ⟨gO, nO, g3⟩ := R2.orders
  have nf' : ∀ y, Foot bv bm bo V2 y → ¬ y = x := fun y h e => nf (e ▸ h)
  refine ⟨V2, ⟨R2.log.kept k (nf' _ (.inl rfl)) (fun y hy => nf' y (.inr (.inr (.inr (.inr (.inr hy)))))), ⟨gB, nB.kept k (nf' _ (.inr (.inl rfl))), g1, g2⟩, ⟨gO, nO.kept k (nf' _ (.inr (.inr (.inl rfl)))), g3⟩, R2.mne,
    fun j hj => (R2.book j hj).kept k (fun y hy => nf' y (by
      rcases hy with h | ⟨z, hz, h⟩
      · exact .inr (.inr (.inr (.inl ⟨j, hj, .inl h⟩)))
      · exact .inr (.inr (.inr (.inl ⟨j, hj, .inr ⟨z, hz, h⟩⟩))))),
    fun id y h => ⟨(R2.ords id y h).1, (R2.ords id y h).2.elim fun ix ho => ⟨ix, k.blk ho (nf' y (.inr (.inr (.inr (.inr (.inl ⟨id, h⟩))))))⟩⟩, R2.mem, R2.sepb, R2.seps, R2.no200⟩, q2, k2.from (k.mono (fun y h => .inr (by omega))), f2⟩

end Go.Proofs.YtafhnopgndemcaaGreat
