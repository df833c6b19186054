import Derived.Test.YtigaphnafnpfnaaGreatDoorPVX9
import Derived.Test.YtigaphnafnpfnaaGreatDoorPVX1
import Derived.Test.YtigaphnafnpfnaaGreatDoorPVJ3
set_option linter.unusedVariables false
set_option linter.unusedSimpArgs false
namespace Go.Proofs.YtigaphnafnpfnaaGreatDoor
open Go.RowKit Go.Maps
attribute [local go_sem ↓] Go.wp_at_zero Go.wp_at_succ

/-- what come leaves of the orders: ids, owners .. stay; others than the members of the other side stay whole -/
theorem mstep_om {oc s : Nat} {st : MS} : (∀ x, ((mstep oc s st).om x).id = (st.om x).id ∧ ((mstep oc s st).om x).side = (st.om x).side ∧ ((mstep oc s st).om x).sym = (st.om x).sym ∧ ((mstep oc s st).om x).price = (st.om x).price ∧ ((mstep oc s st).om x).place = (st.om x).place ∧ ((mstep oc s st).om x).owner = (st.om x).owner ∧ ((mstep oc s st).om x).kind = (st.om x).kind ∧ ((mstep oc s st).om x).qty = (st.om x).qty) ∧ (∀ x, x ≠ oc → x ≠ st.B.h s 0 → (mstep oc s st).om x = st.om x) := by
  unfold mstep
  split
  · refine ⟨fun x => ?_, fun x _ h => upd_other _ _ h⟩
    simp only
    by_cases e : x = st.B.h s 0
    · rw [e, upd_same]; exact ⟨rfl, rfl, rfl, rfl, rfl, rfl, rfl, rfl⟩
    · rw [upd_other _ _ e]; exact ⟨rfl, rfl, rfl, rfl, rfl, rfl, rfl, rfl⟩
  · refine ⟨fun x => ?_, fun x h1 h2 => ?_⟩
    · simp only [tradeOm]
      by_cases e : x = st.B.h s 0
      · rw [e, upd_same]; exact ⟨rfl, rfl, rfl, rfl, rfl, rfl, rfl, rfl⟩
      · rw [upd_other _ _ e]
        by_cases e2 : x = oc
        · rw [e2, upd_same]; exact ⟨rfl, rfl, rfl, rfl, rfl, rfl, rfl, rfl⟩
        · rw [upd_other _ _ e2]; exact ⟨rfl, rfl, rfl, rfl, rfl, rfl, rfl, rfl⟩
    · simp only [tradeOm]
      rw [upd_other _ _ h2, upd_other _ _ h1]

theorem stops_false {oc s : Nat} {st : MS} (h : ¬ stops oc s st = true) : 0 < st.B.n s ∧ 0 < (st.om oc).opn := by
  simp only [stops, Bool.or_eq_true, Bool.not_eq_true', decide_eq_false_iff_not, not_or, Decidable.not_not] at h
  obtain ⟨h1, h2⟩ := h
  cases hf : firstG st.B st.om (askOf (st.om oc)) s
  · rw [hf] at h2; simp at h2
  · exact ⟨(firstG_some hf).1, h1⟩

/-- all that a run of the market keeps -/
theorem matchF_om {oc s : Nat} : ∀ (f : Nat) (st : MS), Inv oc s st →
    (∀ x, ((matchF oc s f st).om x).id = (st.om x).id ∧ ((matchF oc s f st).om x).side = (st.om x).side ∧ ((matchF oc s f st).om x).sym = (st.om x).sym ∧ ((matchF oc s f st).om x).price = (st.om x).price ∧ ((matchF oc s f st).om x).place = (st.om x).place ∧ ((matchF oc s f st).om x).owner = (st.om x).owner ∧ ((matchF oc s f st).om x).kind = (st.om x).kind ∧ ((matchF oc s f st).om x).qty = (st.om x).qty) ∧
    (∀ x, x ≠ oc → ¬ SdB st.B s x → (matchF oc s f st).om x = st.om x) ∧ (∀ b, SdB (matchF oc s f st).B s b → SdB st.B s b) ∧ Inv oc s (matchF oc s f st) := by
  intro f
  induction f with
  | zero => exact fun st iv => ⟨fun _ => ⟨rfl, rfl, rfl, rfl, rfl, rfl, rfl, rfl⟩, fun _ _ _ => rfl, fun _ h => h, iv⟩
  | succ f ih =>
    intro st iv
    rw [matchF]
    split
    · exact ⟨fun _ => ⟨rfl, rfl, rfl, rfl, rfl, rfl, rfl, rfl⟩, fun _ _ _ => rfl, fun _ h => h, iv⟩
    · rename_i hst
      obtain ⟨hn, hp⟩ := stops_false hst
      obtain ⟨iv', _, sub⟩ := mstep_ok iv hn hp
      obtain ⟨a1, a2, a3, a4⟩ := ih (mstep oc s st) iv'
      obtain ⟨b1, b2⟩ := mstep_om (oc := oc) (s := s) (st := st)
      refine ⟨fun x => ?_, fun x h1 h2 => ?_, fun b hb => sub b (a3 b hb), a4⟩
      · obtain ⟨c1, c2, c3, c4, c5, c6, c7, c8⟩ := a1 x
        obtain ⟨d1, d2, d3, d4, d5, d6, d7, d8⟩ := b1 x
        exact ⟨c1.trans d1, c2.trans d2, c3.trans d3, c4.trans d4, c5.trans d5, c6.trans d6, c7.trans d7, c8.trans d8⟩
      · rw [a2 x h1 (fun h => h2 (sub x h)), b2 x h1 (fun e => h2 (.inr ⟨0, hn, e⟩))]

/-- what is told and noted where an order comes -/
def Lg.opened (G : Lg) (id : Int) : Lg := G.begun.noted [.entered id]

/-- the venue behind an order that came -/
def Ven.enter (V : Ven) (i b s t g cap' : Nat) (o : Ask) (lm' : Lm) : Ven :=
  { V with B := upd V.B i (comeB b t g cap' (mF b s ⟨V.B i, upd V.om b (newOrd o), V.lg.opened o.id⟩)), om := comeOm b (mF b s ⟨V.B i, upd V.om b (newOrd o), V.lg.opened o.id⟩),
           oid := fun id => if id = o.id then some b else V.oid id, no := V.no + 1, lg := comeG b (mF b s ⟨V.B i, upd V.om b (newOrd o), V.lg.opened o.id⟩), lm := lm' }

theorem comeOm_id (oc : Nat) (st : MS) (x : Nat) : (comeOm oc st x).id = (st.om x).id := by
  unfold comeOm
  split
  · by_cases e : x = oc
    · rw [e, upd_same]
    · rw [upd_other _ _ e]
  · by_cases e : x = oc
    · rw [e, upd_same]; rfl
    · rw [upd_other _ _ e]

theorem comeOm_far (oc : Nat) (st : MS) {x : Nat} (h : x ≠ oc) : comeOm oc st x = st.om x := by
  unfold comeOm
  split <;> rw [upd_other _ _ h]

theorem comeB_sd {oc t g cap' : Nat} {st : MS} {x b : Nat} (h : SdB (comeB oc t g cap' st) x b) : SdB st.B x b ∨ b = oc ∨ b = g := by
  unfold comeB at h
  split at h
  · by_cases e : x = t
    · subst e
      rcases h with h | ⟨k, hk, h⟩
      · simp only [Bk.rest, upd_same, adB, Option.some.injEq] at h
        exact .inr (.inr h.symm)
      · simp only [Bk.rest, upd_same] at hk h
        rcases (mem_push (lt := ltB (comeOm oc st)) (st.B.h x) oc _).1 ⟨k, hk, rfl⟩ with h' | h'
        · obtain ⟨k', hk', e'⟩ := h'
          exact .inl (.inr ⟨k', hk', by rw [h, e']⟩)
        · exact .inr (.inl (by rw [h, h']))
    · left
      unfold SdB at h ⊢
      simp only [Bk.rest, upd_other _ _ e] at h
      exact h
  · exact .inl h

theorem comeB_sym {oc t g cap' : Nat} {st : MS} : (comeB oc t g cap' st).sym = st.B.sym := by
  unfold comeB; split <;> rfl

/-- From the market of one book to the whole venue. -/
theorem Rep.enter {w w5 w' : World} {bv bm bo : Nat} {V : Ven} (R : Rep w bv bm bo V) {i b s t g cap' : Nat} {o : Ask} {L : Nat → Prop} (hi : i < V.nb) (hs : s < 2) (ht : t = 1 - s) (hno : V.no < 200) (hfree : V.oid o.id = none)
    (hb : w.heap.size ≤ b) (hbo : IsOrd w5 b (newOrd o) 0) {lm5 : Lm} (hv5 : IsLog w5 bv bm bo (V.lg.opened o.id) lm5) (hF5 : ∀ x, lm5.F x → V.lm.F x ∨ w.heap.size ≤ x) (k5 : Chg (fun x => x = bo ∨ x = bv ∨ V.lm.F x) w w5) (m5 : ∃ fO, MapP w5 3 bo fO (V.no + 1) ∧ (∀ id, fO (.int .i64 id) = if id = o.id then some b else V.oid id)) (iv : Inv b s ⟨V.B i, upd V.om b (newOrd o), V.lg.opened o.id⟩) (hL : L = fun x => x = b ∨ ∃ id, V.oid id = some x)
    (m : Mk w' (V.bk i) (comeB b t g cap' (mF b s ⟨V.B i, upd V.om b (newOrd o), V.lg.opened o.id⟩)) (comeOm b (mF b s ⟨V.B i, upd V.om b (newOrd o), V.lg.opened o.id⟩)) L) {lm' : Lm} (hv : IsLog w' bv bm bo (comeG b (mF b s ⟨V.B i, upd V.om b (newOrd o), V.lg.opened o.id⟩)) lm')
    (k : Chg (fun x => x = bv ∨ lm5.F x ∨ x = V.bk i ∨ x = b ∨ SdB (V.B i) s x ∨ SdB (V.B i) t x) w5 w') (hg : adB ((V.B i).sl t) = some g ∨ w5.heap.size ≤ g) : Rep w' bv bm bo (V.enter i b s t g cap' o lm') := by
  obtain ⟨a1, a2, a3, a4⟩ := matchF_om (mu b s ⟨V.B i, upd V.om b (newOrd o), V.lg.opened o.id⟩) ⟨V.B i, upd V.om b (newOrd o), V.lg.opened o.id⟩ iv
  obtain ⟨f1, f2, f3, f4, f5⟩ := matchF_frame b s (mu b s ⟨V.B i, upd V.om b (newOrd o), V.lg.opened o.id⟩) ⟨V.B i, upd V.om b (newOrd o), V.lg.opened o.id⟩
  change ∀ x, ((mF b s ⟨V.B i, upd V.om b (newOrd o), V.lg.opened o.id⟩).om x).id = _ ∧ _ at a1
  change ∀ x, x ≠ b → ¬ SdB (V.B i) s x → (mF b s ⟨V.B i, upd V.om b (newOrd o), V.lg.opened o.id⟩).om x = upd V.om b (newOrd o) x at a2
  change ∀ x, SdB (mF b s ⟨V.B i, upd V.om b (newOrd o), V.lg.opened o.id⟩).B s x → SdB (V.B i) s x at a3
  change ∀ t, t ≠ s → (mF b s ⟨V.B i, upd V.om b (newOrd o), V.lg.opened o.id⟩).B.n t = (V.B i).n t ∧ (mF b s ⟨V.B i, upd V.om b (newOrd o), V.lg.opened o.id⟩).B.h t = (V.B i).h t at f1
  change (mF b s ⟨V.B i, upd V.om b (newOrd o), V.lg.opened o.id⟩).B.sl = (V.B i).sl at f2
  change (mF b s ⟨V.B i, upd V.om b (newOrd o), V.lg.opened o.id⟩).B.sym = (V.B i).sym at f4
  simp only at a1
  unfold Ven.enter
  generalize mF b s ⟨V.B i, upd V.om b (newOrd o), V.lg.opened o.id⟩ = st1 at *
  have t2 : t < 2 := by omega
  have two : ∀ x, x < 2 → x = s ∨ x = t := by omega
  -- blocks of the market
  have sdlt : ∀ j, j < V.nb → ∀ x, x < 2 → ∀ y, SdB (V.B j) x y → y < w.heap.size := fun j hj x hx y h => by
    rcases h with h | ⟨l, hl, rfl⟩
    · exact ((R.book j hj).side x hx).lt h
    · exact (((R.book j hj).side x hx).ords hl).lt
  have sdold : ∀ x, x < 2 → ∀ y, SdB st1.B x y → SdB (V.B i) x y := fun x hx y h => by
    rcases two x hx with rfl | rfl
    · exact a3 y h
    · by_cases e : x = s
      · rw [e] at h ⊢; exact a3 y h
      · unfold SdB at h ⊢
        rw [f2, (f1 x e).1, (f1 x e).2] at h
        exact h
  have ofar : ∀ x, x ≠ b → ¬ SdB (V.B i) s x → comeOm b st1 x = V.om x := fun x h1 h2 => by rw [comeOm_far _ _ h1, a2 x h1 h2, upd_other _ _ h1]
  -- of another book
  have bfar : ∀ j, j < V.nb → j ≠ i → IsBook w' (V.bk j) (V.B j) (comeOm b st1) := fun j hj hne => by
    have hbk := R.book j hj
    have h5 : IsBook w5 (V.bk j) (V.B j) V.om := hbk.kept k5 (by
      obtain ⟨fO, mO, _⟩ := R.orders
      have key : ∀ {x c t}, Blk w x c t → (t = 158 ∨ t = 114 ∨ t = 116) → ¬ (x = bo ∨ x = bv ∨ V.lm.F x) := by
        rintro x c t hx ht (e | e | e)
        · exact mO.ne hx e.symm
        · exact Blk.ne hx R.ven (by rcases ht with rfl | rfl | rfl <;> decide) e
        · exact R.log.log.ne hx (by rcases ht with rfl | rfl | rfl <;> decide) (by rcases ht with rfl | rfl | rfl <;> decide) (by rcases ht with rfl | rfl | rfl <;> decide) (by rcases ht with rfl | rfl | rfl <;> decide) (by rcases ht with rfl | rfl | rfl <;> decide) e
      rintro x (rfl | ⟨y, hy, h⟩)
      · exact key hbk.blk (.inl rfl)
      · rcases h with h | ⟨l, hl, rfl⟩
        · rcases (hbk.side y hy) with ⟨h0, _⟩ | ⟨ab, hab, hsd⟩
          · rw [h0] at h; simp [adB] at h
          · obtain ⟨cs, hcs, _⟩ := hsd.arr
            rw [hab] at h
            simp [adB] at h
            rw [h] at hcs
            exact key hcs (.inr (.inl rfl))
        · exact key ((hbk.side y hy).ords hl) (.inr (.inr rfl)))
    have nS : ∀ x, (x = V.bk j ∨ ∃ y, y < 2 ∧ SdB (V.B j) y x) → ¬ (x = bv ∨ lm5.F x ∨ x = V.bk i ∨ x = b ∨ SdB (V.B i) s x ∨ SdB (V.B i) t x) := by
      have hbi := (R.book i hi).blk
      rintro x (rfl | ⟨y, hy, h⟩) (e | e | e | e | e | e)
      · exact Blk.ne hbk.blk R.ven (by decide) e
      · rcases hF5 _ e with e | e
        · exact R.log.log.ne hbk.blk (by decide) (by decide) (by decide) (by decide) (by decide) e
        · have := hbk.blk.lt; omega
      · exact R.sepb j i hj hi hne e
      · have := hbk.blk.lt; omega
      · rcases e with e | ⟨l, hl, e⟩
        · exact ((R.book i hi).side s hs).ne hbk.blk (by decide) e
        · exact Blk.ne hbk.blk (((R.book i hi).side s hs).ords hl) (by decide) e
      · rcases e with e | ⟨l, hl, e⟩
        · exact ((R.book i hi).side t t2).ne hbk.blk (by decide) e
        · exact Blk.ne hbk.blk (((R.book i hi).side t t2).ords hl) (by decide) e
      · rw [e] at h
        rcases h with h | ⟨l, hl, h⟩
        · exact (hbk.side y hy).ne R.ven (by decide) h
        · exact Blk.ne R.ven ((hbk.side y hy).ords hl) (by decide) h
      · have hxl := sdlt j hj y hy x h
        have e : V.lm.F x := (hF5 x e).elim id (fun h => by omega)
        obtain ⟨c, t', hc, ht'⟩ := R.log.log.typ e
        rcases h with h | ⟨l, hl, h⟩
        · exact (hbk.side y hy).ne hc (by rcases ht' with rfl | rfl | rfl | rfl | rfl | rfl <;> decide) h
        · subst h
          exact Blk.ne hc ((hbk.side y hy).ords hl) (by rcases ht' with rfl | rfl | rfl | rfl | rfl | rfl <;> decide) rfl
      · rw [e] at h
        rcases h with h | ⟨l, hl, h⟩
        · exact (hbk.side y hy).ne hbi (by decide) h
        · exact Blk.ne hbi ((hbk.side y hy).ords hl) (by decide) h
      · have := sdlt j hj y hy x h; omega
      · exact R.seps j i hj hi hne y s hy hs x h e
      · exact R.seps j i hj hi hne y t hy t2 x h e
    have h6 : IsBook w' (V.bk j) (V.B j) V.om := h5.kept k (fun x h => nS x (by
      rcases h with h | ⟨y, hy, h⟩
      · exact .inl h
      · exact .inr ⟨y, hy, h⟩))
    refine ⟨h6.blk, fun y hy => (h6.side y hy).om (fun l hl => ?_), h6.apart, h6.disj⟩
    have hsd : SdB (V.B j) y ((V.B j).h y l) := .inr ⟨l, hl, rfl⟩
    refine ofar _ ?_ (R.seps j i hj hi hne y s hy hs _ hsd)
    have := sdlt j hj y hy _ hsd
    omega
  have hgl : ∀ x, x < w.heap.size → (adB ((V.B i).sl t) = some x ∨ x ≠ g) := fun x hx => by
    rcases hg with h | h
    · by_cases e : x = g
      · exact .inl (by rw [e]; exact h)
      · exact .inr e
    · right
      have := k5.size
      omega
  obtain ⟨fB, mB, fB1, fB2⟩ := R.books
  obtain ⟨fO5, mO5, fO51⟩ := m5
  have hmB5 : MapP w5 9 bm fB V.nb := mB.kept k5 (by
    rintro (e | e | e)
    · exact R.mne e
    · exact mB.ne R.ven e
    · obtain ⟨c, t', hc, _⟩ := R.log.log.typ e
      exact mB.ne hc rfl)
  have notS : ∀ z, (∀ b' c t', Blk w5 b' c t' → z ≠ b') → ¬ (z = bv ∨ lm5.F z ∨ z = V.bk i ∨ z = b ∨ SdB (V.B i) s z ∨ SdB (V.B i) t z) := by
    intro z hz
    have bov : ∀ {b' c t'}, Blk w b' c t' → b' ≠ bo → (t' = 158 ∨ t' = 114 ∨ t' = 116) → Blk w5 b' c t' := fun h hne ht => k5.blk h (by
      rintro (e | e | e)
      · exact hne e
      · exact Blk.ne h R.ven (by rcases ht with rfl | rfl | rfl <;> decide) e
      · exact R.log.log.ne h (by rcases ht with rfl | rfl | rfl <;> decide) (by rcases ht with rfl | rfl | rfl <;> decide) (by rcases ht with rfl | rfl | rfl <;> decide) (by rcases ht with rfl | rfl | rfl <;> decide) (by rcases ht with rfl | rfl | rfl <;> decide) e)
    obtain ⟨fO, mO, _⟩ := R.orders
    have sdne : ∀ x, x < 2 → ¬ SdB (V.B i) x z := by
      rintro x hx (e | ⟨l, hl, e⟩)
      · rcases ((R.book i hi).side x hx) with ⟨h0, _⟩ | ⟨ab, hab, hsd⟩
        · rw [h0] at e; simp [adB] at e
        · obtain ⟨cs, hcs, _⟩ := hsd.arr
          rw [hab] at e
          simp [adB] at e
          exact hz ab _ _ (bov hcs (Ne.symm (mO.ne hcs)) (by simp)) e.symm
      · have h := ((R.book i hi).side x hx).ords hl
        exact hz _ _ _ (bov h (Ne.symm (mO.ne h)) (by simp)) e
    rintro (e | e | e | e | e | e)
    · exact hz bv _ _ hv5.ven e
    · obtain ⟨c, t', hc, _⟩ := hv5.log.typ e
      exact hz z _ _ hc rfl
    · exact hz _ _ _ (bov (R.book i hi).blk (Ne.symm (mO.ne (R.book i hi).blk)) (by simp)) e
    · exact hz b _ _ hbo e
    · exact sdne s hs e
    · exact sdne t t2 e
  refine ⟨hv, ⟨fB, hmB5.kept k (notS bm (fun b' c t' h => hmB5.ne h)), ?_, ?_⟩, ⟨fO5, mO5.kept k (notS bo (fun b' c t' h => mO5.ne h)), fO51⟩, R.mne, ?_, ?_, ?_, R.sepb, ?_, by show V.no + 1 ≤ 200; omega⟩
  · intro j hj
    by_cases e : j = i
    · subst e; simp only [upd_same, comeB_sym, f4]; exact fB1 j hj
    · simp only [upd_other _ _ e]; exact fB1 j hj
  · intro s' b' h
    obtain ⟨j, hj, e1, e2⟩ := fB2 s' b' h
    refine ⟨j, hj, e1, ?_⟩
    by_cases e : j = i
    · subst e; simp only [upd_same, comeB_sym, f4]; exact e2
    · simp only [upd_other _ _ e]; exact e2
  · intro j hj
    by_cases e : j = i
    · subst e; simp only [upd_same]; exact m.book
    · simp only [upd_other _ _ e]; exact bfar j hj e
  · intro id x hx
    simp only at hx ⊢
    rw [comeOm_id, (a1 x).1]
    by_cases e : id = o.id
    · rw [if_pos e] at hx
      simp only [Option.some.injEq] at hx
      rw [← hx, upd_same]
      exact ⟨e.symm, m.ords b (by rw [hL]; exact .inl rfl)⟩
    · rw [if_neg e] at hx
      obtain ⟨h1, ix, h2⟩ := R.ords id x hx
      have := h2.lt
      rw [upd_other _ _ (by omega)]
      exact ⟨h1, m.ords x (by rw [hL]; exact .inr ⟨id, hx⟩)⟩
  · intro j hj x hx l hl
    simp only at hj hl ⊢
    by_cases e : j = i
    · subst e
      simp only [upd_same] at hl ⊢
      have := m.mem x hx l hl
      rw [hL] at this
      rcases this with h | ⟨id, h⟩
      · exact ⟨o.id, by rw [if_pos rfl, h]⟩
      · by_cases e : id = o.id
        · rw [e, hfree] at h; simp at h
        · exact ⟨id, by rw [if_neg e]; exact h⟩
    · simp only [upd_other _ _ e] at hl ⊢
      obtain ⟨id, h⟩ := R.mem j hj x hx l hl
      by_cases e : id = o.id
      · rw [e, hfree] at h; simp at h
      · exact ⟨id, by rw [if_neg e]; exact h⟩
  · intro p q hp hq hne x y hx hy z h1 h2
    have half : ∀ p q, p < V.nb → q < V.nb → p ≠ q → p = i → ∀ x y, x < 2 → y < 2 → ∀ z, SdB (comeB b t g cap' st1) x z → SdB (V.B q) y z → False := by
      intro p q hp hq hne e x y hx hy z h1 h2
      have hz := sdlt q hq y hy z h2
      rcases comeB_sd h1 with h | h | h
      · exact R.seps i q hi hq (by omega) x y hx hy z (sdold x hx z h) h2
      · omega
      · rcases hgl z hz with h' | h'
        · exact R.seps i q hi hq (by omega) t y t2 hy z (.inl h') h2
        · exact h' h
    by_cases e : p = i
    · simp only [e, upd_same] at h1
      simp only [upd_other _ _ (show q ≠ i by omega)] at h2
      exact half p q hp hq hne e x y hx hy z h1 h2
    · simp only [upd_other _ _ e] at h1
      by_cases e2 : q = i
      · simp only [e2, upd_same] at h2
        exact half q p hq hp (fun h => hne h.symm) e2 y x hy hx z h2 h1
      · simp only [upd_other _ _ e2] at h2
        exact R.seps p q hp hq hne x y hx hy z h1 h2

end Go.Proofs.YtigaphnafnpfnaaGreatDoor

set_option linter.unusedVariables false
set_option linter.unusedSimpArgs false
/- An act is opened with its line. -/
namespace Go.Proofs.YtigaphnafnpfnaaGreatDoor
open Go.RowKit
attribute [local go_sem ↓] Go.wp_at_zero Go.wp_at_succ

theorem lineF_ge (f : Nat → Int) (word : ByteArray) : ∀ k, word.size ≤ (lineF f word k).size
  | 0 => Nat.le_refl _
  | k + 1 => by
    have := lineF_ge f word k
    simp only [lineF, ByteArray.size_append]
    omega

theorem enterL_size (id owner : Int) (sym : ByteArray) (side kind price qty : Int) (hs : sym.size ≤ 100) (h1 : i64B id) (h2 : i64B owner) (h3 : i64B side) (h4 : i64B kind) (h5 : i64B price) (h6 : i64B qty) :
    0 < (enterL id owner sym side kind price qty).size ∧ (enterL id owner sym side kind price qty).size ≤ 290 := by
  have z1 := lineF_size (two id owner) wEnter 2 (fun i hi => by match i, hi with | 0, _ => exact h1 | 1, _ => exact h2)
  have z2 := lineF_size (four side kind price qty) sym 4 (fun i hi => by match i, hi with | 0, _ => exact h3 | 1, _ => exact h4 | 2, _ => exact h5 | 3, _ => exact h6)
  have g1 := lineF_ge (two id owner) wEnter 2
  have zE : wEnter.size = 5 := by decide
  rw [zE] at z1 g1
  have e : (ByteArray.mk #[32]).size = 1 := rfl
  simp only [enterL, ByteArray.size_append, e]
  omega

/-- an act is opened, in a world that has but grown -/
theorem begin_from (bv bm bo : Nat) (G : Lg) (m : Lm) (line : ByteArray) (w : World) (hL : IsLog w bv bm bo G m) (hna : G.na < 3000000) (h0 : 0 < line.size) (hl : line.size ≤ 290) :
    ∀ W, Chg Non w W → Calls Tryz.prog 51 #[.pointer (some ⟨bv, 0, none⟩), .string line] W fun e w' => e = .returned (.tuple #[]) ∧
      ∃ m', IsLog w' bv bm bo G.begun m' ∧ (∀ b, m'.F b → m.F b ∨ w.heap.size ≤ b) ∧ Chg (fun b => b = bv ∨ m.F b) w w' ∧ m'.tb = m.tb ∧ Chg (fun b => b = bv ∨ m.av.ownBlock = some b ∨ m.jv.ownBlock = some b) w w' := by
  intro W k
  refine (begin_act bv bm bo G m line W (hL.kept0 k) hna h0 hl).mono ?_
  rintro e w' ⟨rfl, m', h1, h2, h3, h4⟩
  have k2 : Chg (fun b => b = bv ∨ m.av.ownBlock = some b ∨ m.jv.ownBlock = some b) w w' := k.of_non.trans h3
  exact ⟨rfl, m', h1, fun b hb => (h2 b hb).imp_right (fun h => Nat.le_trans k.size h), k2.mono (fun b h => h.imp_right (fun h => h.elim (fun h => .inr (.inr (.inr (.inl h)))) (fun h => .inr (.inl (.inr h))))), h4, k2⟩

/-- the line of an order, in a world that has but grown -/
theorem lineE_from (id owner : Int) (sym : ByteArray) (side kind price qty : Int) (w : World) (hT : Tab w) (hs : sym.size ≤ 100) (h1 : i64B id) (h2 : i64B owner) (h3 : i64B side) (h4 : i64B kind) (h5 : i64B price) (h6 : i64B qty) :
    ∀ W, Chg Non w W → Calls Tryz.prog 113 #[.agg #[.int .i64 id, .int .i64 owner, .string sym, .int .i64 side, .int .i64 kind, .int .i64 price, .int .i64 qty]] W fun e w' => e = .returned (.string (enterL id owner sym side kind price qty)) ∧ Chg Non w w' := by
  intro W k
  refine (lineOfEnter_any id owner sym side kind price qty W (hT.kept0 k) (by omega) h1 h2 h3 h4 h5 h6).mono ?_
  rintro e w' ⟨rfl, k2⟩
  exact ⟨rfl, k.trans k2⟩

theorem i64_of {n : Int} (h : -1000000 ≤ n ∧ n ≤ 1000000) : i64B n := ⟨by omega, by omega⟩

end Go.Proofs.YtigaphnafnpfnaaGreatDoor

/- refusal, where the order is one that must not cross, or must be filled whole -/
set_option linter.unusedVariables false
set_option linter.unusedSimpArgs false
namespace Go.Proofs.YtigaphnafnpfnaaGreatDoor
open Go.RowKit Go.Maps
attribute [local go_sem ↓] Go.wp_at_zero Go.wp_at_succ

set_option maxRecDepth 100000 in
set_option maxHeartbeats 4000000 in
theorem refusal_whole (bv bm bo i s : Nat) (V : Ven) (o : Ask) (w : World) (R : Rep w bv bm bo V) (hi : i < V.nb) (hsym : (V.B i).sym = o.sym) (hlen : o.sym.size ≤ maxLen)
    (h1 : numB o.id = true) (h2 : V.oid o.id = none) (h3 : ownB' o.owner = true) (h4 : sideB o.side = true) (h5 : kindB o.kind = true) (h6 : numB o.qty = true) (h7 : priceB o.kind o.price = true) (h8 : V.no < 200) (h9 : o.kind = 3) (hs : s < 2) (hside : o.side = 1 - (s : Int)) (hop : ∀ k, k < (V.B i).n s → 0 ≤ (V.om ((V.B i).h s k)).opn ∧ (V.om ((V.B i).h s k)).opn ≤ 1000000000000000) :
    Calls Tryz.prog 111 #[.pointer (some ⟨bv, 0, none⟩), o.val] w fun e w' => e = .returned (.int .i64 (if supF V.om ((V.B i).h s) o ((V.B i).n s) < o.qty then 9 else 0)) ∧ Chg Non w w' := by
  obtain ⟨fB, mB, fB1, fB2⟩ := R.books
  obtain ⟨fO, mO, fO1⟩ := R.orders
  obtain ⟨id, owner, sym, side, kind, price, qty⟩ := o
  simp only at hsym hlen h1 h2 h3 h4 h5 h6 h7 h9 hside
  simp only [Ask.val]
  have hid : (Lit.int .i64 id).wf = true := by
    simp [numB] at h1
    exact WalkArith.wf_i64 (by omega)
  have hlb : fB (sl sym) = some (V.bk i) := by rw [← hsym]; exact fB1 i hi
  have hlo : fO (.int .i64 id) = none := by rw [fO1, h2]
  obtain ⟨w1, hw1⟩ : ∃ w1, w1 = w.alloc (.cells #[.int .i64 id, .int .i64 owner, .string sym, .int .i64 side, .int .i64 kind, .int .i64 price, .int .i64 qty] 52) := ⟨_, rfl⟩
  have k1 : Chg Non w w1 := by rw [hw1]; exact (Chg.refl Non w).alloc _
  have hbx : Blk w1 w.heap.size #[.int .i64 id, .int .i64 owner, .string sym, .int .i64 side, .int .i64 kind, .int .i64 price, .int .i64 qty] 52 := by rw [hw1]; exact Blk.new w _ _
  have L1 : ∀ q, (Instr.lookup 94 (.map (some bm)) (.string sym) false).run Tryz.prog (w1.drewN q) = .ok (.pointer (some ⟨V.bk i, 0, none⟩)) (w1.drewN q) := fun q => by
    rw [(mB.kept (k1.drewN q) (fun x => x)).look law9 Tryz.underlying94 (zero70 _) (WideMaps.keyOf_string_mk Tryz.underlying9 hlen)]
    show _ = Result.ok (ptrO (some (V.bk i))) _
    rw [← hlb]; rfl
  have L2 : ∀ q, (Instr.lookup 95 (.map (some bo)) (.int .i64 id) false).run Tryz.prog (w1.drewN q) = .ok (.pointer none) (w1.drewN q) := fun q => by
    rw [(mO.kept (k1.drewN q) (fun x => x)).look law3 Tryz.underlying95 (zero80 _) (keyOf_int_mk Tryz.underlying3 hid)]
    show _ = Result.ok (ptrO none) _
    rw [← hlo]
  have L3 : ∀ q, (Builtin.len_ #[95] 3 #[.map (some bo)]).run Tryz.prog (w1.drewN q) = .ok (.int .i64 V.no) (w1.drewN q) := fun q => (mO.kept (k1.drewN q) (fun x => x)).len Tryz.underlying95 _
  have v0 : w1.cell? ⟨bv, 0, none⟩ = some (.map (some bm)) := (k1.blk R.ven (fun x => x)).cell 0
  have v1 : w1.cell? ⟨bv, 1, none⟩ = some (.map (some bo)) := (k1.blk R.ven (fun x => x)).cell 1
  have x0 : w1.cell? ⟨w.heap.size, 0, none⟩ = some (.int .i64 id) := hbx.cell 0
  have x1 : w1.cell? ⟨w.heap.size, 1, none⟩ = some (.int .i64 owner) := hbx.cell 1
  have x2 : w1.cell? ⟨w.heap.size, 2, none⟩ = some (.string sym) := hbx.cell 2
  have x3 : w1.cell? ⟨w.heap.size, 3, none⟩ = some (.int .i64 side) := hbx.cell 3
  have x4 : w1.cell? ⟨w.heap.size, 4, none⟩ = some (.int .i64 kind) := hbx.cell 4
  have x5 : w1.cell? ⟨w.heap.size, 5, none⟩ = some (.int .i64 price) := hbx.cell 5
  have x6 : w1.cell? ⟨w.heap.size, 6, none⟩ = some (.int .i64 qty) := hbx.cell 6
  have e3 : (kind == 3) = true := by rw [h9]; rfl
  have e4 : (kind == 4) = false := by rw [h9]; rfl
  have HF := hide (fun (W : World) (hW : IsBook W (V.bk i) (V.B i) V.om) => supply_any (V.bk i) s (V.B i) V.om ⟨id, owner, sym, side, kind, price, qty⟩ W hW hs hside hop)
  have HBK := hide (R.book i hi)
  have e8 : decide ((200 : Int) ≤ (V.no : Int)) = false := by simp; omega
  have HW := hide hw1
  have HK := hide k1
  clear hop hside hw1 k1 hbx h9 hlb hlo fB1 fB2 fO1 mB mO hid
  have HSH : Hid (∃ z, z = supF V.om ((V.B i).h s) ⟨id, owner, sym, side, kind, price, qty⟩ ((V.B i).n s)) := ⟨_, rfl⟩
  obtain ⟨z, hz⟩ := unhide HSH
  rw [← hz] at HF ⊢
  have HF2 : Hid (∀ W, (∃ q, W = w1.drewN q) → Calls Tryz.prog 147 #[.pointer (some ⟨V.bk i, 0, none⟩), .agg #[.int .i64 id, .int .i64 owner, .string sym, .int .i64 side, .int .i64 kind, .int .i64 price, .int .i64 qty]] W fun e w' => e = .returned (.int .i64 z) ∧ Chg Non W w') := by
    rintro W ⟨q, rfl⟩
    exact unhide HF _ ((unhide HBK).kept ((unhide HK).drewN q) (fun _ _ x => x))
  clear HF HSH hz
  go_enter Tryz.func111, Tryz.ntmps111
  go_wp2
  rw [← unhide HW]
  go_quiet (fail)
  go_wp2_with (first | (go_at_call 68; refine (isNumber_any _ _).mono ?_; rintro e w' ⟨rfl, rfl⟩) | (go_at_call 144; refine (isOwner_any _ _).mono ?_; rintro e w' ⟨rfl, rfl⟩) | (go_at_call 47; refine (isSide_any _ _).mono ?_; rintro e w' ⟨rfl, rfl⟩) | (go_at_call 145; refine (isKind_any _ _).mono ?_; rintro e w' ⟨rfl, rfl⟩) | (go_at_call 146; refine (isPriceOf_any _ _ _).mono ?_; rintro e w' ⟨rfl, rfl⟩))
  go_quiet (fail)
  go_wp2_with (first | (go_at_call 68; refine (isNumber_any _ _).mono ?_; rintro e w' ⟨rfl, rfl⟩) | (go_at_call 144; refine (isOwner_any _ _).mono ?_; rintro e w' ⟨rfl, rfl⟩) | (go_at_call 47; refine (isSide_any _ _).mono ?_; rintro e w' ⟨rfl, rfl⟩) | (go_at_call 145; refine (isKind_any _ _).mono ?_; rintro e w' ⟨rfl, rfl⟩) | (go_at_call 146; refine (isPriceOf_any _ _ _).mono ?_; rintro e w' ⟨rfl, rfl⟩))
  obtain ⟨H, hH⟩ : ∃ H, w.heap.size = H := ⟨_, rfl⟩
  rw [hH] at x0 x1 x2 x3 x4 x5 x6 ⊢
  go_region_held3 (fun w' => w'.cell? ⟨H, 0, none⟩ = some (.int .i64 id) ∧ w'.cell? ⟨H, 1, none⟩ = some (.int .i64 owner) ∧ w'.cell? ⟨H, 2, none⟩ = some (.string sym) ∧ w'.cell? ⟨H, 3, none⟩ = some (.int .i64 side) ∧ w'.cell? ⟨H, 4, none⟩ = some (.int .i64 kind) ∧ w'.cell? ⟨H, 5, none⟩ = some (.int .i64 price) ∧ w'.cell? ⟨H, 6, none⟩ = some (.int .i64 qty)) (go_keep)
    (first | (go_at_call 147; refine (unhide HF2 _ ⟨_, rfl⟩).mono ?_; rintro e w3 ⟨rfl, hc3⟩; have k0 := hc3.cell (p := ⟨H, 0, none⟩) x0 (fun x => x); have k1 := hc3.cell (p := ⟨H, 1, none⟩) x1 (fun x => x); have k2 := hc3.cell (p := ⟨H, 2, none⟩) x2 (fun x => x); have k3 := hc3.cell (p := ⟨H, 3, none⟩) x3 (fun x => x); have k4 := hc3.cell (p := ⟨H, 4, none⟩) x4 (fun x => x); have k5 := hc3.cell (p := ⟨H, 5, none⟩) x5 (fun x => x); have k6 := hc3.cell (p := ⟨H, 6, none⟩) x6 (fun x => x)))
  go_wp2
  all_goals (go_ret; exact ⟨rfl, Chg.trans ((unhide HK).drewN _) (Chg.trans (by repeat (first | exact Chg.refl _ _ | refine Chg.drewN ?_ _ | refine Chg.drew ?_)) hc3)⟩)

#print axioms refusal_whole
end Go.Proofs.YtigaphnafnpfnaaGreatDoor

set_option linter.unusedVariables false
set_option linter.unusedSimpArgs false
namespace Go.Proofs.YtigaphnafnpfnaaGreatDoor
open Go.RowKit
attribute [local go_sem ↓] Go.wp_at_zero Go.wp_at_succ

/-- the line of a bust -/
def bustL (trade : Int) (again : Bool) : ByteArray := lineF (two trade (if again then 1 else 0)) wBust 2

theorem lineOfBust_any (trade : Int) (again : Bool) (w : World) (hT : Tab w) (h : i64B trade) :
    Calls Tryz.prog 72 #[.int .i64 trade, .bool again] w fun e w' => e = .returned (.string (bustL trade again)) ∧ Chg Non w w' := by
  have key : ∀ z : Int, i64B z → Calls Tryz.prog 65 #[.string ⟨#[98, 117, 115, 116]⟩, .slice (some ⟨w.heap.size, 0, none⟩) 2 2] (w.alloc (.cells #[.int .i64 trade, .int .i64 z] 3)) fun e w' => e = .returned (.string (lineF (two trade z) wBust 2)) ∧ Chg Non w w' := by
    intro z hz
    have k0 : Chg Non w (w.alloc (.cells #[.int .i64 trade, .int .i64 z] 3)) := (Chg.refl Non w).alloc _
    have b0 := Blk.new w #[.int .i64 trade, .int .i64 z] 3
    refine (lineOf_any wBust (two trade z) w.heap.size 2 2 _ (hT.kept0 k0) (by omega) (by decide) ?_ ?_).mono ?_
    · intro i hi
      match i, hi with
      | 0, _ => exact b0.cell 0
      | 1, _ => exact b0.cell 1
    · intro i hi
      match i, hi with
      | 0, _ => exact h
      | 1, _ => exact hz
    · rintro e w' ⟨rfl, k2⟩
      exact ⟨rfl, k0.trans k2⟩
  have K1 := hide (key 1 ⟨by omega, by omega⟩)
  have K0 := hide (key 0 ⟨by omega, by omega⟩)
  clear key hT
  cases again
  · go_enter Tryz.func72, Tryz.ntmps72
    go_wp2_with (go_at_call 65; refine (unhide K0).mono ?_; rintro e w' ⟨rfl, hk⟩; have HK := hide hk; clear hk)
    go_ret
    exact ⟨rfl, unhide HK⟩
  · go_enter Tryz.func72, Tryz.ntmps72
    go_wp2_with (go_at_call 65; refine (unhide K1).mono ?_; rintro e w' ⟨rfl, hk⟩; have HK := hide hk; clear hk)
    go_ret
    exact ⟨rfl, unhide HK⟩

theorem bustL_size (trade : Int) (again : Bool) (h : i64B trade) : 0 < (bustL trade again).size ∧ (bustL trade again).size ≤ 290 := by
  have z1 := lineF_size (two trade (if again then 1 else 0)) wBust 2 (fun i hi => by
    match i, hi with
    | 0, _ => exact h
    | 1, _ => show i64B (if again then 1 else 0); cases again <;> exact ⟨by simp, by simp⟩)
  have g1 := lineF_ge (two trade (if again then 1 else 0)) wBust 2
  have zE : wBust.size = 4 := by decide
  rw [zE] at z1 g1
  unfold bustL
  omega

theorem lineB_from (trade : Int) (again : Bool) (w : World) (hT : Tab w) (h : i64B trade) :
    ∀ W, Chg Non w W → Calls Tryz.prog 72 #[.int .i64 trade, .bool again] W fun e w' => e = .returned (.string (bustL trade again)) ∧ Chg Non w w' := by
  intro W k
  refine (lineOfBust_any trade again W (hT.kept0 k) h).mono ?_
  rintro e w' ⟨rfl, k2⟩
  exact ⟨rfl, k.trans k2⟩

def three (a b c : Int) (i : Nat) : Int := if i = 0 then a else if i = 1 then b else c

/-- a word and some numbers, in a world that has but grown -/
theorem lines_from (word : ByteArray) (f : Nat → Int) (m : Nat) (w : World) (hT : Tab w) (h0 : 0 < word.size) (hw : word.size ≤ 100) (hm : m ≤ 8) (hf : ∀ i, i < m → i64B (f i)) :
    (0 < (lineF f word m).size ∧ (lineF f word m).size ≤ 290) ∧ ∀ W, Chg Non w W → ∀ sb cap, (∀ i, i < m → W.cell? ⟨sb, i, none⟩ = some (.int .i64 (f i))) →
      Calls Tryz.prog 65 #[.string word, .slice (some ⟨sb, 0, none⟩) m cap] W fun e w' => e = .returned (.string (lineF f word m)) ∧ Chg Non w w' := by
  refine ⟨?_, fun W k sb cap hc => ?_⟩
  · have z1 := lineF_size f word m hf
    have g1 := lineF_ge f word m
    omega
  · refine (lineOf_any word f sb m cap W (hT.kept0 k) (by omega) (by omega) hc hf).mono ?_
    rintro e w' ⟨rfl, k2⟩
    exact ⟨rfl, k.trans k2⟩

theorem Tab.below {w w' : World} (h : Tab w) (b : Below w.heap.size w w') : Tab w' :=
  h.kept (S := fun k => w.heap.size ≤ k) ⟨b.os, b.tape, b.output, b.size, fun k hk _ => b.block k hk⟩ (fun x => by have := h.lt; omega)

end Go.Proofs.YtigaphnafnpfnaaGreatDoor

