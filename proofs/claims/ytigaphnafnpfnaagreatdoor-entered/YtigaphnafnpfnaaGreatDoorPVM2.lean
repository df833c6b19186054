import Derived.Test.YtigaphnafnpfnaaGreatDoorPVM1
import Derived.Test.YtigaphnafnpfnaaGreatDoorPVX10
import Derived.Test.YtigaphnafnpfnaaGreatDoorPVB2
import Derived.Deep.CutRange
/- A good book, and one that comes. Without memory. -/
set_option linter.unusedVariables false
set_option linter.unusedSimpArgs false
namespace Go.Proofs.YtigaphnafnpfnaaGreatDoor

theorem HeapOK.cong {lt lt' : Nat → Nat → Bool} {n : Nat} {h : Nat → Nat} (ok : HeapOK lt n h) (he : ∀ j k, j < n → k < n → lt' (h j) (h k) = lt (h j) (h k)) : HeapOK lt' n h := by
  intro k h0 hk
  rw [he k (par k) hk (by unfold par; omega)]
  exact ok k h0 hk

theorem ltB_cong {om om' : Nat → Ord} {x y : Nat} (hx : (om' x).side = (om x).side ∧ (om' x).price = (om x).price ∧ (om' x).place = (om x).place) (hy : (om' y).price = (om y).price ∧ (om' y).place = (om y).place) : ltB om' x y = ltB om x y := by
  unfold ltB lessB rankI
  rw [hx.1, hx.2.1, hx.2.2, hy.1, hy.2]

/-- a book has just what is open of its symbol, in order, not crossed -/
structure GB (B : Bk) (om : Nat → Ord) (sym : ByteArray) (L : Nat → Prop) : Prop where
  bsym : B.sym = sym
  mem : ∀ s, s < 2 → ∀ x, Mem (B.n s) (B.h s) x ↔ (L x ∧ (om x).sym = sym ∧ (om x).side = (s : Int) ∧ 0 < (om x).opn)
  heap : ∀ s, s < 2 → HeapOK (ltB om) (B.n s) (B.h s)
  inj : ∀ s, s < 2 → Inj (B.n s) (B.h s)
  cross : ∀ x y, Mem (B.n 0) (B.h 0) x → Mem (B.n 1) (B.h 1) y → (om x).price < (om y).price

theorem GB.side {B : Bk} {om : Nat → Ord} {sym : ByteArray} {L : Nat → Prop} (h : GB B om sym L) {s k : Nat} (hs : s < 2) (hk : k < B.n s) : (om (B.h s k)).side = (s : Int) := ((h.mem s hs _).1 ⟨k, hk, rfl⟩).2.2.1

/-- orders that are none of the book's may turn -/
theorem GB.cong {B : Bk} {om om' : Nat → Ord} {sym : ByteArray} {L L' : Nat → Prop} (h : GB B om sym L) (hL : ∀ x, (L' x ∧ (om' x).sym = sym ∧ 0 < (om' x).opn) ↔ (L x ∧ (om x).sym = sym ∧ 0 < (om x).opn)) (he : ∀ x, L x → (om x).sym = sym → 0 < (om x).opn → (om' x).side = (om x).side ∧ (om' x).price = (om x).price ∧ (om' x).place = (om x).place) : GB B om' sym L' := by
  have hm : ∀ s, s < 2 → ∀ x, Mem (B.n s) (B.h s) x → (om' x).side = (om x).side ∧ (om' x).price = (om x).price ∧ (om' x).place = (om x).place := fun s hs x hx => by
    obtain ⟨a, b, _, d⟩ := (h.mem s hs x).1 hx
    exact he x a b d
  refine ⟨h.bsym, fun s hs x => ?_, fun s hs => (h.heap s hs).cong (fun j k hj hk => ?_), h.inj, fun x y hx hy => ?_⟩
  · rw [h.mem s hs x]
    constructor
    · rintro ⟨a, b, c, d⟩
      obtain ⟨a', b', d'⟩ := (hL x).2 ⟨a, b, d⟩
      exact ⟨a', b', by rw [(he x a b d).1]; exact c, d'⟩
    · rintro ⟨a, b, c, d⟩
      obtain ⟨a', b', d'⟩ := (hL x).1 ⟨a, b, d⟩
      exact ⟨a', b', by rw [← (he x a' b' d').1]; exact c, d'⟩
  · exact ltB_cong (hm s hs _ ⟨j, hj, rfl⟩) (hm s hs _ ⟨k, hk, rfl⟩).2
  · rw [(hm 0 (by omega) x hx).2.1, (hm 1 (by omega) y hy).2.1]
    exact h.cross x y hx hy

theorem goodB_false {kind side price p : Int} (h : goodB kind side price p = false) (hk : kind ≠ 5) : if side = 0 then price < p else p < price := by
  unfold goodB at h
  rw [if_neg hk] at h
  split at h
  · rename_i e; rw [if_pos e]; simpa using h
  · rename_i e; rw [if_neg e]; simpa using h

/-- One that comes: the book is good again; what it says of quantities. -/
theorem come_good {B : Bk} {om : Nat → Ord} {lg : Lg} {sym : ByteArray} {L : Nat → Prop} {M : Int} {oc s t g cap' : Nat} (hM : M ≤ 1000000000000000) (hs : s < 2) (ht : t = 1 - s)
    (hL : L oc) (hsym : (om oc).sym = sym) (hside : (om oc).side = (t : Int)) (hq : ∀ x, L x → Qo M (om x)) (gb : GB B om sym (fun x => L x ∧ x ≠ oc)) :
    Inv oc s ⟨B, om, lg⟩ ∧ GB (comeB oc t g cap' (mF oc s ⟨B, om, lg⟩)) (comeOm oc (mF oc s ⟨B, om, lg⟩)) sym L ∧ (∀ x, L x → Qo M (comeOm oc (mF oc s ⟨B, om, lg⟩) x)) ∧
      Run oc s M ⟨B, om, lg⟩ (mF oc s ⟨B, om, lg⟩) ∧ (∀ x, x ≠ oc → Stat (om x) (comeOm oc (mF oc s ⟨B, om, lg⟩) x)) ∧ (∀ x, x ≠ oc → ((om x).sym ≠ sym ∨ ¬ 0 < (om x).opn ∨ ¬ L x) → comeOm oc (mF oc s ⟨B, om, lg⟩) x = om x) := by
  have t2 : t < 2 := by omega
  have hts : (t : Int) ≠ (s : Int) := by omega
  have iv : Inv oc s ⟨B, om, lg⟩ := by
    refine ⟨fun k hk => ?_, gb.inj s hs, (hq oc hL).o0, ?_, by show (om oc).side = _; rw [hside]; omega⟩
    · obtain ⟨⟨a, a'⟩, b, c, d⟩ := (gb.mem s hs _).1 ⟨k, hk, rfl⟩
      have q := hq _ a
      exact ⟨c, d, by have := q.sum; have := q.f0; have := q.c0; have := q.e0; have := q.hi; show (om (B.h s k)).opn ≤ _; omega, a'⟩
    · have q := hq oc hL
      have := q.sum; have := q.f0; have := q.c0; have := q.e0; have := q.hi
      show (om oc).opn ≤ _; omega
  have hmemL : ∀ x, Mem (B.n s) (B.h s) x → L x ∧ x ≠ oc := fun x hx => ((gb.mem s hs x).1 hx).1
  have run : Run oc s M ⟨B, om, lg⟩ (mF oc s ⟨B, om, lg⟩) := matchF_run hM _ _ iv (gb.heap s hs) (fun x hx => by
    rcases hx with rfl | hx
    · exact hq _ hL
    · exact hq x (hmemL x hx).1)
  have stp : stops oc s (mF oc s ⟨B, om, lg⟩) = true := matchF_stops _ _ iv (Nat.le_refl _)
  obtain ⟨f1, f2, f3, f4, f5⟩ := matchF_frame oc s (mu oc s ⟨B, om, lg⟩) ⟨B, om, lg⟩
  change ∀ t, t ≠ s → (mF oc s ⟨B, om, lg⟩).B.n t = B.n t ∧ (mF oc s ⟨B, om, lg⟩).B.h t = B.h t at f1
  change (mF oc s ⟨B, om, lg⟩).B.sym = B.sym at f4
  have fst := f1 t (by omega)
  generalize hst : mF oc s ⟨B, om, lg⟩ = st at *
  have rq := run.q; have rmem := run.mem; have rgone := run.gone; have rheap := run.heap; have rfar := run.far; have rstat := run.stat
  simp only at rq rmem rgone rfar rstat
  have qoc : Qo M (st.om oc) := rq oc (.inl rfl)
  have soc := rstat oc
  have q1 : ∀ x, L x → Qo M (st.om x) := fun x hx => by
    by_cases e : x = oc
    · rw [e]; exact qoc
    · by_cases hm : Mem (B.n s) (B.h s) x
      · exact rq x (.inr hm)
      · rw [rfar x e hm]; exact hq x hx
  -- what comeOm does
  have cfar : ∀ x, x ≠ oc → comeOm oc st x = st.om x := fun x h => comeOm_far oc st h
  have coc : Qo M (comeOm oc st oc) ∧ (comeOm oc st oc).sym = sym ∧ (comeOm oc st oc).side = (t : Int) ∧ (comeOm oc st oc).price = (st.om oc).price ∧ (waitsB (st.om oc) = true → (comeOm oc st oc).opn = (st.om oc).opn) ∧ (waitsB (st.om oc) = false → (comeOm oc st oc).opn = 0) := by
    unfold comeOm
    cases hw : waitsB (st.om oc)
    · simp only [Bool.false_eq_true, if_false, upd_same]
      exact ⟨(qoc.canc hM).1, soc.2.2.1.trans hsym, soc.2.2.2.1.trans hside, by first | rfl | trivial, fun h => by simp at h, fun _ => by first | rfl | trivial⟩
    · simp only [if_true, upd_same]
      exact ⟨⟨qoc.sum, qoc.o0, qoc.f0, qoc.c0, qoc.e0, qoc.hi⟩, soc.2.2.1.trans hsym, soc.2.2.2.1.trans hside, by first | rfl | trivial, fun _ => by first | rfl | trivial, fun h => by simp at h⟩
  obtain ⟨c1, c2, c3, c4, c5, c6⟩ := coc
  have memT : ∀ x, Mem (B.n t) (B.h t) x → (L x ∧ x ≠ oc) ∧ comeOm oc st x = om x := fun x hx => by
    obtain ⟨a, b, c, d⟩ := (gb.mem t t2 x).1 hx
    refine ⟨a, ?_⟩
    rw [cfar x a.2]
    exact rfar x a.2 (fun hm => hts ((((gb.mem t t2 x).1 hx).2.2.1).symm.trans ((gb.mem s hs x).1 hm).2.2.1))
  have memS1 : ∀ x, Mem (st.B.n s) (st.B.h s) x → (L x ∧ x ≠ oc) ∧ 0 < (st.om x).opn := fun x hx => by
    refine ⟨hmemL x (rmem x hx), ?_⟩
    obtain ⟨k, hk, e⟩ := hx
    rw [e]; exact (run.inv.mem k hk).2.1
  have inS : ∀ x, L x → x ≠ oc → (st.om x).sym = sym → (st.om x).side = (s : Int) → 0 < (st.om x).opn → Mem (st.B.n s) (st.B.h s) x := fun x h1 h2 h3 h4 h5 => by
    by_cases hm : Mem (B.n s) (B.h s) x
    · by_cases hm1 : Mem (st.B.n s) (st.B.h s) x
      · exact hm1
      · have := rgone x hm hm1; omega
    · rw [rfar x h2 hm] at h3 h4 h5
      exact absurd ((gb.mem s hs x).2 ⟨⟨h1, h2⟩, h3, h4, h5⟩) hm
  have inT : ∀ x, L x → x ≠ oc → (st.om x).sym = sym → (st.om x).side = (t : Int) → 0 < (st.om x).opn → Mem (B.n t) (B.h t) x := fun x h1 h2 h3 h4 h5 => by
    have hm : ¬ Mem (B.n s) (B.h s) x := fun hm => hts (((rstat x).2.2.2.1.symm.trans h4).symm.trans ((gb.mem s hs x).1 hm).2.2.1)
    rw [rfar x h2 hm] at h3 h4 h5
    exact (gb.mem t t2 x).2 ⟨⟨h1, h2⟩, h3, h4, h5⟩
  have ltS : HeapOK (ltB (comeOm oc st)) (st.B.n s) (st.B.h s) := rheap.cong (fun j k hj hk => by
    have h1 := (memS1 _ ⟨j, hj, rfl⟩).1.2
    have h2 := (memS1 _ ⟨k, hk, rfl⟩).1.2
    exact ltB_cong (by rw [cfar _ h1]; exact ⟨rfl, rfl, rfl⟩) (by rw [cfar _ h2]; exact ⟨rfl, rfl⟩))
  have ltT : HeapOK (ltB (comeOm oc st)) (B.n t) (B.h t) := (gb.heap t t2).cong (fun j k hj hk => by
    have h1 := (memT _ ⟨j, hj, rfl⟩).2
    have h2 := (memT _ ⟨k, hk, rfl⟩).2
    exact ltB_cong (by rw [h1]; exact ⟨rfl, rfl, rfl⟩) (by rw [h2]; exact ⟨rfl, rfl⟩))
  have priceS : ∀ x, Mem (st.B.n s) (st.B.h s) x → (comeOm oc st x).price = (om x).price := fun x hx => by
    rw [cfar x (memS1 x hx).1.2]; exact (rstat x).2.2.2.2.2.1
  have stat' : ∀ x, x ≠ oc → Stat (om x) (comeOm oc st x) := fun x hx => by rw [cfar x hx]; exact rstat x
  have keep' : ∀ x, x ≠ oc → ((om x).sym ≠ sym ∨ ¬ 0 < (om x).opn ∨ ¬ L x) → comeOm oc st x = om x := fun x hx h => by
    rw [cfar x hx]
    refine rfar x hx (fun hm => ?_)
    obtain ⟨⟨a, _⟩, b, _, d⟩ := (gb.mem s hs x).1 hm
    rcases h with h | h | h
    · exact h b
    · exact h d
    · exact h a
  have two : ∀ x, x < 2 → x = s ∨ x = t := by omega
  refine ⟨iv, ?_, fun x hx => ?_, run, stat', keep'⟩
  · cases hw : waitsB (st.om oc)
    · have hB : comeB oc t g cap' st = st.B := by unfold comeB; rw [hw]; rfl
      rw [hB]
      have o0 := c6 hw
      refine ⟨f4.trans gb.bsym, fun y hy x => ?_, fun y hy => ?_, fun y hy => ?_, fun x y hx hy => ?_⟩
      · rcases two y hy with rfl | rfl
        · constructor
          · intro hx
            obtain ⟨⟨a, b⟩, d⟩ := memS1 x hx
            have h0 := (gb.mem y hs x).1 (rmem x hx)
            exact ⟨a, by rw [cfar x b]; exact (rstat x).2.2.1.trans h0.2.1, by rw [cfar x b]; exact (rstat x).2.2.2.1.trans h0.2.2.1, by rw [cfar x b]; exact d⟩
          · rintro ⟨a, b, c, d⟩
            have hne : x ≠ oc := fun e => by rw [e, o0] at d; omega
            rw [cfar x hne] at b c d
            exact inS x a hne b c d
        · rw [fst.1, fst.2]
          constructor
          · intro hx
            obtain ⟨⟨a, b⟩, e⟩ := memT x hx
            have h0 := (gb.mem y t2 x).1 hx
            rw [e]
            exact ⟨a, h0.2⟩
          · rintro ⟨a, b, c, d⟩
            have hne : x ≠ oc := fun e => by rw [e, o0] at d; omega
            rw [cfar x hne] at b c d
            exact inT x a hne b c d
      · rcases two y hy with rfl | rfl
        · exact ltS
        · rw [fst.1, fst.2]; exact ltT
      · rcases two y hy with rfl | rfl
        · exact run.inv.inj
        · rw [fst.1, fst.2]; exact gb.inj y t2
      · have key : ∀ z, (z = 0 ∨ z = 1) → ∀ x, Mem (st.B.n z) (st.B.h z) x → Mem (B.n z) (B.h z) x ∧ (comeOm oc st x).price = (om x).price := fun z hz x hx => by
          rcases two z (by omega) with e | e
          · rw [e] at hx ⊢; exact ⟨rmem x hx, priceS x hx⟩
          · rw [e, fst.1, fst.2] at hx
            rw [e]; exact ⟨hx, by rw [(memT x hx).2]⟩
        obtain ⟨a1, a2⟩ := key 0 (.inl rfl) x hx
        obtain ⟨b1, b2⟩ := key 1 (.inr rfl) y hy
        rw [a2, b2]; exact gb.cross x y a1 b1
    · have hB : comeB oc t g cap' st = st.B.rest (comeOm oc st) t oc g cap' := by unfold comeB; rw [hw]; rfl
      rw [hB]
      have hop : 0 < (st.om oc).opn := by simp [waitsB] at hw; exact hw.1
      have hk5 : (st.om oc).kind ≠ 5 := by
        simp only [waitsB, restsB, Bool.and_eq_true, Bool.or_eq_true, beq_iff_eq] at hw
        omega
      have oo := c5 hw
      have nS : (st.B.rest (comeOm oc st) t oc g cap').n s = st.B.n s := by simp only [Bk.rest]; rw [upd_other _ _ (by omega)]
      have hS : (st.B.rest (comeOm oc st) t oc g cap').h s = st.B.h s := by simp only [Bk.rest]; rw [upd_other _ _ (by omega)]
      have nT : (st.B.rest (comeOm oc st) t oc g cap').n t = B.n t + 1 := by simp only [Bk.rest, upd_same, fst.1]
      have hT : (st.B.rest (comeOm oc st) t oc g cap').h t = upF (ltB (comeOm oc st)) (fun k => if k = B.n t then oc else B.h t k) (B.n t) := by simp only [Bk.rest, upd_same, fst.1, fst.2]
      have mT : ∀ x, Mem ((st.B.rest (comeOm oc st) t oc g cap').n t) ((st.B.rest (comeOm oc st) t oc g cap').h t) x ↔ Mem (B.n t) (B.h t) x ∨ x = oc := fun x => by rw [nT, hT]; exact mem_push _ _ _
      -- nothing of the other side is good for it
      have bad : ∀ y, Mem (st.B.n s) (st.B.h s) y → if (t : Int) = 0 then (comeOm oc st oc).price < (om y).price else (om y).price < (comeOm oc st oc).price := by
        intro y hy
        have hf : firstG st.B st.om (askOf (st.om oc)) s = none := by
          simp only [stops, Bool.or_eq_true, Bool.not_eq_true', decide_eq_false_iff_not] at stp
          rcases stp with h | h
          · exact absurd hop h
          · simpa using h
        obtain ⟨k, hk, e⟩ := hy
        have hn0 : st.B.n s ≠ 0 := by omega
        unfold firstG at hf
        rw [if_neg hn0] at hf
        have hg : goodB (askOf (st.om oc)).kind (askOf (st.om oc)).side (askOf (st.om oc)).price (st.om (st.B.h s 0)).price = false := by
          split at hf
          · simp at hf
          · rename_i h; simpa using h
        have hb := goodB_false hg hk5
        have hsd : (askOf (st.om oc)).side = (t : Int) := soc.2.2.2.1.trans hside
        rw [hsd] at hb
        have hsideS : ∀ k, k < st.B.n s → (st.om (st.B.h s k)).side = (s : Int) := fun k hk => (run.inv.mem k hk).1
        have hmin := root_min (pre_side st.om (s : Int)) rheap hsideS k hk
        have hless := (lessB_iff' _ _).1 hmin
        rw [hsideS k hk] at hless
        have hp0 : (st.om y).price = (om y).price := (rstat y).2.2.2.2.2.1
        rw [c4]
        rw [← e] at hless
        rw [hp0] at hless
        show if (t : Int) = 0 then (st.om oc).price < (om y).price else (om y).price < (st.om oc).price
        have hap : (askOf (st.om oc)).price = (st.om oc).price := rfl
        rw [hap] at hb
        by_cases e0 : (t : Int) = 0
        · rw [if_pos e0] at hb ⊢
          have es : ¬ (s : Int) = 0 := by omega
          rw [if_neg es] at hless
          omega
        · rw [if_neg e0] at hb ⊢
          have es : (s : Int) = 0 := by omega
          rw [if_pos es] at hless
          omega
      refine ⟨f4.trans gb.bsym, fun y hy x => ?_, fun y hy => ?_, fun y hy => ?_, fun x y hx hy => ?_⟩
      · rcases two y hy with e | e
        · rw [e, nS, hS]
          constructor
          · intro hx
            obtain ⟨⟨a, b⟩, d⟩ := memS1 x hx
            have h0 := (gb.mem s hs x).1 (rmem x hx)
            exact ⟨a, by rw [cfar x b]; exact (rstat x).2.2.1.trans h0.2.1, by rw [cfar x b]; exact (rstat x).2.2.2.1.trans h0.2.2.1, by rw [cfar x b]; exact d⟩
          · rintro ⟨a, b, c, d⟩
            have hne : x ≠ oc := fun e => by rw [e, c3] at c; exact hts c
            rw [cfar x hne] at b c d
            exact inS x a hne b c d
        · rw [e, mT x]
          constructor
          · rintro (hx | hx)
            · obtain ⟨⟨a, b⟩, e⟩ := memT x hx
              have h0 := (gb.mem t t2 x).1 hx
              rw [e]
              exact ⟨a, h0.2⟩
            · rw [hx]; exact ⟨hL, c2, c3, by rw [oo]; exact hop⟩
          · rintro ⟨a, b, c, d⟩
            by_cases hne : x = oc
            · exact .inr hne
            · rw [cfar x hne] at b c d
              exact .inl (inT x a hne b c d)
      · rcases two y hy with e | e
        · rw [e, nS, hS]; exact ltS
        · rw [e, nT, hT]
          refine push_ok (pre_side (comeOm oc st) (t : Int)) _ _ c3 (fun k hk => ?_) ltT
          rw [(memT _ ⟨k, hk, rfl⟩).2]; exact gb.side t2 hk
      · rcases two y hy with e | e
        · rw [e, nS, hS]; exact run.inv.inj
        · rw [e, nT, hT]
          refine Inj.up ?_ (by omega)
          intro a b ha hb e2
          simp only at e2
          have hno : ∀ k, k < B.n t → B.h t k ≠ oc := fun k hk => ((memT _ ⟨k, hk, rfl⟩).1).2
          by_cases ea : a = B.n t <;> by_cases eb : b = B.n t
          · omega
          · rw [if_pos ea, if_neg eb] at e2; exact absurd e2.symm (hno b (by omega))
          · rw [if_neg ea, if_pos eb] at e2; exact absurd e2 (hno a (by omega))
          · rw [if_neg ea, if_neg eb] at e2; exact gb.inj t t2 a b (by omega) (by omega) e2
      · have h01 : (s = 0 ∧ t = 1) ∨ (s = 1 ∧ t = 0) := by omega
        rcases h01 with ⟨rfl, rfl⟩ | ⟨rfl, rfl⟩
        · rw [nS, hS] at hx
          rw [mT y] at hy
          rcases hy with hy | hy
          · rw [priceS x hx, (memT y hy).2]; exact gb.cross x y (rmem x hx) hy
          · have := bad x hx
            rw [if_neg (by decide)] at this
            rw [hy, priceS x hx]; exact this
        · rw [mT x] at hx
          rw [nS, hS] at hy
          rcases hx with hx | hx
          · rw [priceS y hy, (memT x hx).2]; exact gb.cross x y hx (rmem y hy)
          · have := bad y hy
            rw [if_pos (by decide)] at this
            rw [hx, priceS y hy]; exact this
  · by_cases e : x = oc
    · rw [e]; exact c1
    · rw [cfar x e]; exact q1 x hx

end Go.Proofs.YtigaphnafnpfnaaGreatDoor

set_option linter.unusedVariables false
set_option linter.unusedSimpArgs false
/- The program's side of a book and the document's list: who is first. Without memory. -/
namespace Go.Proofs.YtigaphnafnpfnaaGreatDoor

/-- an order without its place -/
def noP (o : Ord) : Ord := { o with place := 0 }
theorem noP_f {a b : Ord} (h : noP a = noP b) : a.id = b.id ∧ a.owner = b.owner ∧ a.sym = b.sym ∧ a.side = b.side ∧ a.kind = b.kind ∧ a.price = b.price ∧ a.qty = b.qty ∧ a.entered = b.entered ∧ a.opn = b.opn ∧ a.filled = b.filled ∧ a.canc = b.canc ∧ a.exp = b.exp := by
  obtain ⟨a1, a2, a3, a4, a5, a6, a7, a8, a9, a10, a11, a12, a13⟩ := a
  obtain ⟨b1, b2, b3, b4, b5, b6, b7, b8, b9, b10, b11, b12, b13⟩ := b
  simp only [noP, Ord.mk.injEq] at h
  obtain ⟨h1, h2, h3, h4, h5, h6, h7, h8, h9, h10, h11, h12, _⟩ := h
  exact ⟨h1, h2, h3, h4, h5, h6, h7, h8, h9, h10, h11, h12⟩
theorem noP_ask {a b : Ord} (h : noP a = noP b) : askOf a = askOf b := by
  obtain ⟨h1, h2, h3, h4, h5, h6, h7, _⟩ := noP_f h
  simp only [askOf, h1, h2, h3, h4, h5, h6, h7]

theorem less_trans {a b c : Ord} (h1 : a.side = b.side) (h2 : b.side = c.side) (hab : lessB a b = false) (hcb : lessB c b = true) : lessB a c = false := by
  rw [lessB_iff'] at hab ⊢
  rw [lessB_iff] at hcb
  rw [h1, h2] at hab ⊢
  split at hab <;> split at hcb <;> (try split) <;> omega

theorem bestX_none (l : List Ord) (o : Ask) : ∀ n, bestX l o n = none ↔ ∀ k, k < n → goodR o (nthO l k) = false
  | 0 => by simp [bestX]
  | n + 1 => by
    have ih := bestX_none l o n
    unfold bestX
    by_cases hg : goodR o (nthO l n) = true
    · rw [if_pos hg]
      constructor
      · intro h
        split at h
        · simp at h
        · split at h <;> simp at h
      · intro h
        have := h n (by omega)
        rw [hg] at this
        exact absurd this (by decide)
    · rw [if_neg hg, ih]
      constructor
      · intro h k hk
        by_cases e : k = n
        · subst e; simpa using hg
        · exact h k (by omega)
      · intro h k hk; exact h k (by omega)

theorem bestX_min (l : List Ord) (o : Ask) (s : Int) (hs : ∀ k, goodR o (nthO l k) = true → (nthO l k).side = s) : ∀ n b, bestX l o n = some b → ∀ k, k < n → goodR o (nthO l k) = true → lessB (nthO l k) (nthO l b) = false
  | 0, b, h, k, hk, _ => by omega
  | n + 1, b, h, k, hk, hgk => by
    unfold bestX at h
    by_cases hg : goodR o (nthO l n) = true
    · rw [if_pos hg] at h
      cases hb : bestX l o n with
      | none =>
        rw [hb] at h
        simp at h
        subst h
        have := (bestX_none l o n).1 hb
        by_cases e : k = n
        · subst e
          rw [lessB_iff']
          split <;> omega
        · have := this k (by omega)
          rw [hgk] at this
          exact absurd this (by decide)
      | some b' =>
        rw [hb] at h
        simp only at h
        have hgb := bestX_good l o n b' hb
        by_cases hl : lessB (nthO l n) (nthO l b') = true
        · rw [if_pos hl] at h
          simp at h
          subst h
          by_cases e : k = n
          · subst e
            rw [lessB_iff']
            split <;> omega
          · exact less_trans (by rw [hs k hgk, hs b' hgb]) (by rw [hs b' hgb, hs n hg]) (bestX_min l o s hs n b' hb k (by omega) hgk) hl
        · rw [if_neg hl] at h
          simp at h
          subst h
          by_cases e : k = n
          · subst e; simpa using hl
          · exact bestX_min l o s hs n b' hb k (by omega) hgk
    · rw [if_neg hg] at h
      by_cases e : k = n
      · subst e; exact absurd hgk hg
      · exact bestX_min l o s hs n b h k (by omega) hgk

/-- one comes: the program's book and orders, the document's list -/
structure SimC (p : Nat → Nat) (oc i s : Nat) (B : Bk) (om : Nat → Ord) (l : List Ord) (sym : ByteArray) : Prop where
  il : i < l.length
  pi : p i = oc
  inj : ∀ a b, a < l.length → b < l.length → p a = p b → a = b
  same : ∀ k, k < l.length → k ≠ i → noP (om (p k)) = noP (nthO l k)
  self : noP { om oc with opn := 0 } = noP (nthO l i)
  place : ∀ a b, a < l.length → b < l.length → a ≠ i → b ≠ i → (nthO l a).sym = (nthO l b).sym → 0 < (nthO l a).opn → 0 < (nthO l b).opn → ((om (p a)).place < (om (p b)).place ↔ (nthO l a).place < (nthO l b).place)
  dist : ∀ a b, a < l.length → b < l.length → a ≠ i → b ≠ i → a ≠ b → (nthO l a).sym = (nthO l b).sym → 0 < (nthO l a).opn → 0 < (nthO l b).opn → (nthO l a).place ≠ (nthO l b).place
  mem : ∀ x, Mem (B.n s) (B.h s) x ↔ ∃ k, k < l.length ∧ k ≠ i ∧ p k = x ∧ (nthO l k).sym = sym ∧ (nthO l k).side = (s : Int) ∧ 0 < (nthO l k).opn
  osym : (nthO l i).sym = sym
  oside : (nthO l i).side = 1 - (s : Int)
  side : ∀ k, k < l.length → (nthO l k).side = 0 ∨ (nthO l k).side = 1
  opn : ∀ k, k < l.length → 0 ≤ (nthO l k).opn

section
variable {p : Nat → Nat} {oc i s : Nat} {B : Bk} {om : Nat → Ord} {l : List Ord} {sym : ByteArray}

theorem SimC.ask (h : SimC p oc i s B om l sym) : askOf (om oc) = askOf (nthO l i) := by
  have := noP_ask h.self
  rw [← this]
  rfl

theorem nthO_out {l : List Ord} {k : Nat} (h : ¬ k < l.length) : (nthO l k).opn = 0 := by
  unfold nthO
  rw [List.getD_eq_getElem?_getD, List.getElem?_eq_none (by omega)]
  rfl

theorem SimC.good (h : SimC p oc i s B om l sym) (hs : s < 2) (k : Nat) : goodR (askOf (nthO l i)) (nthO l k) = true ↔ (k < l.length ∧ k ≠ i ∧ (nthO l k).sym = sym ∧ (nthO l k).side = (s : Int) ∧ 0 < (nthO l k).opn ∧ goodB (nthO l i).kind (nthO l i).side (nthO l i).price (nthO l k).price = true) := by
  unfold goodR
  simp only [Bool.and_eq_true, Bool.not_eq_true', beq_eq_false_iff_ne, ne_eq, decide_eq_true_eq]
  simp only [askOf]
  rw [h.osym]
  constructor
  · rintro ⟨⟨⟨h1, h2⟩, h3⟩, h4⟩
    have hk : k < l.length := by
      by_cases hk : k < l.length
      · exact hk
      · exact absurd (nthO_out hk) h1
    have := h.opn k hk
    have := h.side k hk
    have := h.oside
    exact ⟨hk, fun e => by subst e; exact h3 rfl, h2, by omega, by omega, h4⟩
  · rintro ⟨h1, h2, h3, h4, h5, h6⟩
    have := h.oside
    exact ⟨⟨⟨by omega, h3⟩, by rw [h4, this]; omega⟩, h6⟩

theorem SimC.less (h : SimC p oc i s B om l sym) {a b : Nat} (ha : a < l.length) (hb : b < l.length) (hai : a ≠ i) (hbi : b ≠ i) (hsy : (nthO l a).sym = (nthO l b).sym) (h1 : 0 < (nthO l a).opn) (h2 : 0 < (nthO l b).opn) : lessB (om (p a)) (om (p b)) = lessB (nthO l a) (nthO l b) := by
  obtain ⟨_, _, _, s1, _, p1, _⟩ := noP_f (h.same a ha hai)
  obtain ⟨_, _, _, s2, _, p2, _⟩ := noP_f (h.same b hb hbi)
  have pl := h.place a b ha hb hai hbi hsy h1 h2
  rw [Bool.eq_iff_iff, lessB_iff, lessB_iff, s1, p1, p2]
  exact or_congr Iff.rfl (and_congr Iff.rfl pl)

/-- the first of the program's side is the document's best -/
theorem SimC.best (h : SimC p oc i s B om l sym) (hs : s < 2) (hh : HeapOK (ltB om) (B.n s) (B.h s)) : (bestR l (askOf (nthO l i))).map p = firstG B om (askOf (om oc)) s := by
  have hsd : ∀ k, goodR (askOf (nthO l i)) (nthO l k) = true → (nthO l k).side = (s : Int) := fun k hk => ((h.good hs k).1 hk).2.2.2.1
  have memk : ∀ k, goodR (askOf (nthO l i)) (nthO l k) = true → Mem (B.n s) (B.h s) (p k) := fun k hk => by
    obtain ⟨a, b, c, d, e, _⟩ := (h.good hs k).1 hk
    exact (h.mem _).2 ⟨k, a, b, rfl, c, d, e⟩
  have hsideS : ∀ k, k < B.n s → (om (B.h s k)).side = (s : Int) := fun k hk => by
    obtain ⟨j, j1, j2, j3, _, j5, _⟩ := (h.mem _).1 ⟨k, hk, rfl⟩
    rw [← j3, (noP_f (h.same j j1 j2)).2.2.2.1]
    exact j5
  have hmin := root_min (pre_side om (s : Int)) hh hsideS
  by_cases hn : B.n s = 0
  · have : bestR l (askOf (nthO l i)) = none := by
      unfold bestR
      rw [bestX_none]
      intro k hk
      cases hg : goodR (askOf (nthO l i)) (nthO l k)
      · rfl
      · obtain ⟨j, hj, _⟩ := memk k hg
        omega
    rw [this]
    unfold firstG
    rw [if_pos hn]
    rfl
  · obtain ⟨r, r1, r2, r3, r4, r5, r6⟩ := (h.mem _).1 ⟨0, by omega, rfl⟩
    have hpr : (om (B.h s 0)).price = (nthO l r).price := by rw [← r3]; exact (noP_f (h.same r r1 r2)).2.2.2.2.2.1
    have hmr : ∀ k, goodR (askOf (nthO l i)) (nthO l k) = true → lessB (nthO l k) (nthO l r) = false := fun k hk => by
      obtain ⟨a, b, c, d, e, _⟩ := (h.good hs k).1 hk
      rw [← h.less a r1 b r2 (by rw [c, r4]) e r6]
      obtain ⟨j, hj, e2⟩ := memk k hk
      have := hmin j hj
      rw [← e2, ← r3] at this
      exact this
    have hask := h.ask
    unfold firstG
    rw [if_neg hn, hask, hpr]
    by_cases hg : goodB (nthO l i).kind (nthO l i).side (nthO l i).price (nthO l r).price = true
    · rw [if_pos (show goodB (askOf (nthO l i)).kind (askOf (nthO l i)).side (askOf (nthO l i)).price (nthO l r).price = true from hg)]
      have hgr : goodR (askOf (nthO l i)) (nthO l r) = true := (h.good hs r).2 ⟨r1, r2, r4, r5, r6, hg⟩
      cases hb : bestR l (askOf (nthO l i)) with
      | none =>
        have := (bestX_none l _ _).1 hb r r1
        rw [hgr] at this
        exact absurd this (by decide)
      | some b =>
        have hgb := bestX_good l _ _ b hb
        have m1 := bestX_min l _ (s : Int) hsd _ b hb r r1 hgr
        have m2 := hmr b hgb
        obtain ⟨b1, b2, b3, b4, b5, _⟩ := (h.good hs b).1 hgb
        have e : b = r := by
          by_cases e : b = r
          · exact e
          · have := h.dist b r b1 r1 b2 r2 e (by rw [b3, r4]) b5 r6
            rw [lessB_iff'] at m1 m2
            rw [r5] at m1
            rw [b4] at m2
            split at m1 <;> split at m2 <;> omega
        subst e
        simp [r3]
    · rw [if_neg (show ¬ goodB (askOf (nthO l i)).kind (askOf (nthO l i)).side (askOf (nthO l i)).price (nthO l r).price = true from hg)]
      have : bestR l (askOf (nthO l i)) = none := by
        unfold bestR
        rw [bestX_none]
        intro k hk
        cases hgk : goodR (askOf (nthO l i)) (nthO l k)
        · rfl
        · exfalso
          apply hg
          obtain ⟨a, b, c, d, e, f⟩ := (h.good hs k).1 hgk
          have m2 := hmr k hgk
          rw [lessB_iff'] at m2
          have os := h.oside
          unfold goodB at f ⊢
          rw [d] at m2
          split at f
          · rename_i h5; rw [if_pos h5]
          · rename_i h5
            rw [if_neg h5]
            split at f
            · rename_i h6
              rw [if_pos h6]
              simp only [decide_eq_true_eq] at f ⊢
              rw [if_neg (by omega)] at m2
              omega
            · rename_i h6
              rw [if_neg h6]
              simp only [decide_eq_true_eq] at f ⊢
              rw [if_pos (by omega)] at m2
              omega
      rw [this]
      rfl
end

end Go.Proofs.YtigaphnafnpfnaaGreatDoor

set_option linter.unusedVariables false
set_option linter.unusedSimpArgs false
/- The tape: records, numbered. -/
namespace Go.Proofs.YtigaphnafnpfnaaGreatDoor

/-- a record of the tape, numbered -/
def recs : List Rc → List Rc → List Rc
  | R, [] => R
  | R, r :: t => recs (R ++ [{ r with num := (R.length : Int) + 1 }]) t
theorem recs_snoc : ∀ (R t : List Rc) (r : Rc), recs R (t ++ [r]) = recs R t ++ [{ r with num := ((recs R t).length : Int) + 1 }]
  | R, [], r => rfl
  | R, x :: t, r => by show recs _ (t ++ [r]) = recs _ t ++ _; rw [recs_snoc]; rfl
theorem recs_len : ∀ (R t : List Rc), (recs R t).length = R.length + t.length
  | R, [] => rfl
  | R, x :: t => by show (recs _ t).length = _; rw [recs_len]; simp; omega

end Go.Proofs.YtigaphnafnpfnaaGreatDoor

set_option linter.unusedVariables false
set_option linter.unusedSimpArgs false
/- One round of the market: the program's and the document's. Without memory. -/
namespace Go.Proofs.YtigaphnafnpfnaaGreatDoor
open Go.RowKit

theorem SimC.turn {p : Nat → Nat} {oc i s : Nat} {B B' : Bk} {om om' : Nat → Ord} {l l' : List Ord} {sym : ByteArray} (h : SimC p oc i s B om l sym) (hl : l'.length = l.length)
    (same : ∀ k, k < l.length → k ≠ i → noP (om' (p k)) = noP (nthO l' k)) (self : noP { om' oc with opn := 0 } = noP (nthO l' i))
    (stat : ∀ k, k < l.length → (nthO l' k).sym = (nthO l k).sym ∧ (nthO l' k).side = (nthO l k).side ∧ (nthO l' k).place = (nthO l k).place ∧ 0 ≤ (nthO l' k).opn ∧ (0 < (nthO l' k).opn → 0 < (nthO l k).opn) ∧ (om' (p k)).place = (om (p k)).place)
    (mem : ∀ x, Mem (B'.n s) (B'.h s) x ↔ ∃ k, k < l.length ∧ k ≠ i ∧ p k = x ∧ (nthO l k).sym = sym ∧ (nthO l k).side = (s : Int) ∧ 0 < (nthO l' k).opn) : SimC p oc i s B' om' l' sym := by
  refine ⟨by rw [hl]; exact h.il, h.pi, fun a b ha hb => h.inj a b (by omega) (by omega), fun k hk => same k (by omega), self, fun a b ha hb hai hbi hsy h1 h2 => ?_, fun a b ha hb hai hbi hab hsy h1 h2 => ?_, fun x => ?_, ?_, ?_, fun k hk => ?_, fun k hk => ?_⟩
  · obtain ⟨a1, a2, a3, a4, a5, a6⟩ := stat a (by omega)
    obtain ⟨b1, b2, b3, b4, b5, b6⟩ := stat b (by omega)
    rw [a6, b6, a3, b3]
    exact h.place a b (by omega) (by omega) hai hbi (by rw [← a1, ← b1]; exact hsy) (a5 h1) (b5 h2)
  · obtain ⟨a1, a2, a3, a4, a5, a6⟩ := stat a (by omega)
    obtain ⟨b1, b2, b3, b4, b5, b6⟩ := stat b (by omega)
    rw [a3, b3]
    exact h.dist a b (by omega) (by omega) hai hbi hab (by rw [← a1, ← b1]; exact hsy) (a5 h1) (b5 h2)
  · rw [mem x, hl]
    constructor
    · rintro ⟨k, k1, k2, k3, k4, k5, k6⟩
      obtain ⟨a1, a2, _⟩ := stat k k1
      exact ⟨k, k1, k2, k3, by rw [a1]; exact k4, by rw [a2]; exact k5, k6⟩
    · rintro ⟨k, k1, k2, k3, k4, k5, k6⟩
      obtain ⟨a1, a2, _⟩ := stat k k1
      exact ⟨k, k1, k2, k3, by rw [← a1]; exact k4, by rw [← a2]; exact k5, k6⟩
  · rw [(stat i h.il).1]; exact h.osym
  · rw [(stat i h.il).2.1]; exact h.oside
  · rw [(stat k (by omega)).2.1]; exact h.side k (by omega)
  · exact (stat k (by omega)).2.2.2.1

/-- the program's run of the market and the document's -/
structure SimR (p : Nat → Nat) (oc i s : Nat) (sym : ByteArray) (R0 : List Rc) (tr0 f0 : Int) (st : MS) (c : RC) : Prop where
  sim : SimC p oc i s st.B st.om c.S.l sym
  left : c.left = (st.om oc).opn
  tr : st.lg.tr = c.S.t
  tp : st.lg.tp = recs R0 c.S.told
  day : st.lg.day = c.S.day
  bsym : st.B.sym = sym
  filled : c.filled = (st.om oc).filled - f0
  count : c.count = st.tr - tr0
  first : c.first = if st.tr = tr0 then 0 else tr0 + 1
  le : tr0 ≤ st.tr
  g0 : 0 ≤ f0
  g1 : f0 ≤ 1000000000000000

theorem nthO_upd {l : List Ord} {k : Nat} {o : Ord} (hk : k < l.length) (a : Nat) : nthO (l.set k o) a = if a = k then o else nthO l a := by
  by_cases e : a = k
  · subst e; rw [if_pos rfl, nthO_set_same hk]
  · rw [if_neg e, nthO_set_ne (fun x => e x.symm)]

theorem firstG_root {B : Bk} {om : Nat → Ord} {o : Ask} {s x : Nat} (h : firstG B om o s = some x) : 0 < B.n s ∧ x = B.h s 0 := by
  unfold firstG at h
  split at h
  · simp at h
  · split at h
    · simp at h; exact ⟨by omega, h.symm⟩
    · simp at h

theorem SimR.step {p : Nat → Nat} {oc i s : Nat} {sym : ByteArray} {R0 : List Rc} {tr0 f0 M : Int} {st : MS} {c : RC} (h : SimR p oc i s sym R0 tr0 f0 st c) (hM : M ≤ 1000000000000000) (hs : s < 2) (iv : Inv oc s st) (hh : HeapOK (ltB st.om) (st.B.n s) (st.B.h s)) (hq : ∀ x, (x = oc ∨ MemS st s x) → Qo M (st.om x)) (hp : 0 < (st.om oc).opn) {k : Nat} (hk : c.best i = some k) (htr : st.tr < 1000000000) (htr0 : 0 ≤ tr0) :
    SimR p oc i s sym R0 tr0 f0 (mstep oc s st) (c.step i k) := by
  obtain ⟨hsim, hleft, htrl, htp, hday, hbs, hfil, hcnt, hfst, hle, hf0, hf1⟩ := h
  have hb := hsim.best hs hh
  have hk' : bestR c.S.l (askOf (nthO c.S.l i)) = some k := hk
  rw [hk'] at hb
  simp only [Option.map_some] at hb
  obtain ⟨hn, hpk⟩ := firstG_root hb.symm
  have hgk := (hsim.good hs k).1 (bestX_good _ _ _ _ hk')
  obtain ⟨k1, k2, k3, k4, k5, k6⟩ := hgk
  have il := hsim.il
  have hsame := noP_f (hsim.same k k1 k2)
  obtain ⟨e1, e2, e3, e4, e5, e6, e7, e8, e9, e10, e11, e12⟩ := hsame
  have hself := noP_f hsim.self
  obtain ⟨s1, s2, s3, s4, s5, s6, s7, s8, s9, s10, s11, s12⟩ := hself
  simp only at s1 s2 s3 s4 s5 s6 s7 s8 s9 s10 s11 s12
  have hr : st.B.h s 0 = p k := hpk.symm
  have hne : p k ≠ oc := fun e => k2 (hsim.inj k i k1 il (by rw [e, hsim.pi]))
  have qr : Qo M (st.om (p k)) := hq _ (.inr ⟨0, hn, hpk⟩)
  have qc : Qo M (st.om oc) := hq _ (.inl rfl)
  have pne : ∀ a, a < c.S.l.length → a ≠ k → p a ≠ p k := fun a ha e e2 => e (hsim.inj a k ha k1 e2)
  have pni : ∀ a, a < c.S.l.length → a ≠ i → p a ≠ oc := fun a ha e e2 => e (hsim.inj a i ha il (by rw [e2, hsim.pi]))
  unfold mstep RC.step
  rw [hr, e2]
  have ow : (st.om oc).owner = (nthO c.S.l i).owner := s2
  rw [ow]
  by_cases ho : (nthO c.S.l k).owner = (nthO c.S.l i).owner
  · rw [if_pos ho, if_pos ho]
    have hoc : upd st.om (p k) (cancO (st.om (p k))) oc = st.om oc := upd_other _ _ (fun e => hne e.symm)
    refine ⟨?_, by simp only [hoc]; exact hleft, htrl, htp, hday, hbs, by simp only [hoc]; exact hfil, hcnt, hfst, hle, hf0, hf1⟩
    simp only [RS.setO]
    refine hsim.turn (by simp) (fun a ha hai => ?_) ?_ (fun a ha => ?_) (fun x => ?_)
    · rw [nthO_upd k1]
      by_cases e : a = k
      · subst e
        rw [upd_same, if_pos rfl]
        have := hsim.same a ha hai
        show cancO (noP (st.om (p a))) = noP _
        rw [this]
        rfl
      · rw [upd_other _ _ (pne a ha e), if_neg e]
        exact hsim.same a ha hai
    · rw [hoc, nthO_upd k1, if_neg (fun e => k2 e.symm)]
      exact hsim.self
    · rw [nthO_upd k1]
      by_cases e : a = k
      · subst e
        rw [if_pos rfl, upd_same]
        exact ⟨rfl, rfl, rfl, Int.le_refl _, fun h => absurd h (by simp), rfl⟩
      · rw [if_neg e, upd_other _ _ (pne a ha e)]
        exact ⟨rfl, rfl, rfl, hsim.opn a ha, fun h => h, rfl⟩
    · rw [leave_iff iv.inj hn x, hsim.mem x, hr]
      constructor
      · rintro ⟨⟨a, a1, a2, a3, a4, a5, a6⟩, hx⟩
        refine ⟨a, a1, a2, a3, a4, a5, ?_⟩
        rw [nthO_upd k1, if_neg (fun e => by subst e; exact hx a3.symm)]
        exact a6
      · rintro ⟨a, a1, a2, a3, a4, a5, a6⟩
        rw [nthO_upd k1] at a6
        by_cases e : a = k
        · rw [if_pos e] at a6; simp at a6
        · rw [if_neg e] at a6
          exact ⟨⟨a, a1, a2, a3, a4, a5, a6⟩, by rw [← a3]; exact pne a a1 e⟩
  · rw [if_neg ho, if_neg ho]
    obtain ⟨q, hqq⟩ : ∃ q, min (st.om oc).opn (st.om (p k)).opn = q := ⟨_, rfl⟩
    have hmu : c.much k = q := by
      unfold RC.much
      rw [hleft, ← e9]
      split <;> omega
    have q0 : 0 < q := by have := qr.o0; rw [e9] at hqq; omega
    obtain ⟨c1, c2, c3⟩ := qc.fill (q := q) (by omega) (by omega) hM
    obtain ⟨d1, d2, d3⟩ := qr.fill (q := q) (by omega) (by omega) hM
    have toc : tradeOm st.om oc (p k) oc = fillO (st.om oc) q := by unfold tradeOm; rw [upd_other _ _ (fun e => hne e.symm), upd_same, hqq]
    have tow : tradeOm st.om oc (p k) (p k) = fillO (st.om (p k)) q := by unfold tradeOm; rw [upd_same, hqq]
    have tot : ∀ x, x ≠ oc → x ≠ p k → tradeOm st.om oc (p k) x = st.om x := fun x h1 h2 => by unfold tradeOm; rw [upd_other _ _ h2, upd_other _ _ h1]
    have hno : ∀ a, nthO (c.S.fills i k q).l a = if a = i then { nthO c.S.l i with filled := wrap64 ((nthO c.S.l i).filled + q) } else if a = k then { nthO c.S.l k with opn := wrap64 ((nthO c.S.l k).opn - q), filled := wrap64 ((nthO c.S.l k).filled + q) } else nthO c.S.l a := fun a => by
      simp only [RS.fills, RS.setO]
      rw [nthO_upd (by simpa using il), nthO_upd k1]
    have htr1 : MS.tr ⟨tradeB st.B st.om oc (p k) s, tradeOm st.om oc (p k), (tradeG st.lg st.om oc (p k)).addT (tradeT st.B st.om oc (p k))⟩ = st.tr + 1 := by simp [MS.tr, Lg.addT, Lg.told, Lg.kept, Lg.noted, tradeG_tr]
    have hT : (tradeG st.lg st.om oc (p k)).stamp (tradeT st.B st.om oc (p k)) = c.S.tr i k q := by
      simp only [Lg.stamp, tradeT, RS.tr, tradeG_tr, tradeG_day]
      rw [htrl, hday, hbs, e6, hqq, s4, e1, s1, hsim.osym]
    have hn0 : 0 ≤ st.tr := by unfold MS.tr; omega
    have w1 : wrap64 (c.count + 1) = c.count + 1 := wrap64_id (by omega) (by omega)
    have hlen : (c.S.t.length : Int) = st.tr := by unfold MS.tr; rw [htrl]
    refine ⟨?_, ?_, ?_, ?_, ?_, ?_, ?_, ?_, ?_, ?_, hf0, hf1⟩
    · simp only [RS.trades]
      rw [hmu]
      refine hsim.turn (by simp [RS.fills, RS.setO]) (fun a ha hai => ?_) ?_ (fun a ha => ?_) (fun x => ?_)
      · rw [hno a, if_neg hai]
        by_cases e : a = k
        · subst e
          rw [if_pos rfl, tow]
          have := hsim.same a ha hai
          show fillO (noP (st.om (p a))) q = noP _
          rw [this]
          rfl
        · rw [if_neg e, tot _ (pni a ha hai) (pne a ha e)]
          exact hsim.same a ha hai
      · rw [hno i, if_pos rfl, toc]
        have := hsim.self
        show ({ noP { st.om oc with opn := 0 } with filled := wrap64 ((noP { st.om oc with opn := 0 }).filled + q) } : Ord) = noP _
        rw [this]
        rfl
      · rw [hno a]
        by_cases ei : a = i
        · subst ei
          rw [if_pos rfl, hsim.pi, toc]
          exact ⟨rfl, rfl, rfl, hsim.opn a ha, fun h => h, rfl⟩
        · rw [if_neg ei]
          by_cases e : a = k
          · subst e
            rw [if_pos rfl, tow]
            refine ⟨rfl, rfl, rfl, ?_, fun _ => k5, rfl⟩
            have := d1.o0
            rw [d2, e9] at this
            show 0 ≤ wrap64 ((nthO c.S.l a).opn - q)
            rw [wrap64_id (by have := qr.hi; have := qr.sum; have := qr.f0; have := qr.c0; have := qr.e0; omega) (by have := qr.hi; have := qr.sum; have := qr.f0; have := qr.c0; have := qr.e0; omega)]
            exact this
          · rw [if_neg e, tot _ (pni a ha ei) (pne a ha e)]
            exact ⟨rfl, rfl, rfl, hsim.opn a ha, fun h => h, rfl⟩
      · have hko : (nthO (c.S.fills i k q).l k).opn = (st.om (p k)).opn - q := by
          rw [hno k, if_neg k2, if_pos rfl]
          show wrap64 ((nthO c.S.l k).opn - q) = _
          rw [← e9]
          exact d2
        have hbase : ∀ x, (∃ a, a < c.S.l.length ∧ a ≠ i ∧ p a = x ∧ (nthO c.S.l a).sym = sym ∧ (nthO c.S.l a).side = (s : Int) ∧ 0 < (nthO (c.S.fills i k q).l a).opn) ↔ (Mem (st.B.n s) (st.B.h s) x ∧ (x = p k → 0 < (st.om (p k)).opn - q)) := fun x => by
          rw [hsim.mem x]
          constructor
          · rintro ⟨a, a1, a2, a3, a4, a5, a6⟩
            by_cases e : a = k
            · subst e
              rw [hko] at a6
              exact ⟨⟨a, a1, a2, a3, a4, a5, k5⟩, fun _ => a6⟩
            · rw [hno a, if_neg a2, if_neg e] at a6
              exact ⟨⟨a, a1, a2, a3, a4, a5, a6⟩, fun e2 => absurd (by rw [a3]; exact e2) (pne a a1 e)⟩
          · rintro ⟨⟨a, a1, a2, a3, a4, a5, a6⟩, hx⟩
            refine ⟨a, a1, a2, a3, a4, a5, ?_⟩
            by_cases e : a = k
            · subst e; rw [hko]; exact hx a3.symm
            · rw [hno a, if_neg a2, if_neg e]; exact a6
        rw [hbase x]
        unfold tradeB
        rw [tow, d2]
        by_cases ez : (st.om (p k)).opn - q = 0
        · rw [if_pos ez, leave_iff iv.inj hn x, hr]
          constructor
          · rintro ⟨a, b⟩; exact ⟨a, fun e => absurd e b⟩
          · rintro ⟨a, b⟩; exact ⟨a, fun e => by have := b e; omega⟩
        · rw [if_neg ez]
          constructor
          · intro a; exact ⟨a, fun _ => by omega⟩
          · rintro ⟨a, _⟩; exact a
    · simp only [toc, c2]
      rw [hmu, hleft]
      exact wrap64_id (by have := qc.hi; have := qc.sum; have := qc.f0; have := qc.c0; have := qc.e0; omega) (by have := qc.hi; have := qc.sum; have := qc.f0; have := qc.c0; have := qc.e0; omega)
    · simp only [Lg.addT, Lg.told, Lg.kept, Lg.noted, tradeG_tr, RS.trades]
      rw [htrl, hmu, ← hT]
    · simp only [Lg.addT, Lg.told, Lg.kept, Lg.noted, RS.trades]
      rw [recs_snoc, tradeG_tp, htp, hmu, ← hT]
    · simp only [Lg.addT, Lg.told, Lg.kept, Lg.noted, tradeG_day, RS.trades]
      exact hday
    · show (tradeB st.B st.om oc (p k) s).sym = sym
      unfold tradeB
      split
      · exact hbs
      · exact hbs
    · simp only [toc, c3]
      rw [hmu, hfil]
      rw [wrap64_id (by have := qc.hi; have := qc.sum; have := qc.f0; have := qc.c0; have := qc.e0; have := qc.o0; omega) (by have := qc.hi; have := qc.sum; have := qc.f0; have := qc.c0; have := qc.e0; have := qc.o0; omega)]
      omega
    · show wrap64 (c.count + 1) = _ - tr0
      rw [htr1, w1]; omega
    · show (if wrap64 (c.count + 1) = 1 then (c.S.t.length : Int) + 1 else c.first) = _
      rw [htr1, w1, if_neg (c := st.tr + 1 = tr0) (by omega)]
      by_cases e : st.tr = tr0
      · rw [if_pos (by omega), hlen, e]
      · rw [if_neg (by omega), hfst, if_neg e]
    · rw [htr1]; omega

end Go.Proofs.YtigaphnafnpfnaaGreatDoor

set_option linter.unusedVariables false
set_option linter.unusedSimpArgs false
namespace Go.Proofs.YtigaphnafnpfnaaGreatDoor
open Go.RowKit Go.Maps Go.Lib
attribute [local go_sem ↓] Go.wp_at_zero Go.wp_at_succ

theorem sl_inj {s s' : ByteArray} (h : sl s = sl s') : s = s' := by
  simp only [sl, Lit.string.injEq] at h
  exact ByteArray.ext (Array.ext' h)

/-- the venue behind a List -/
def Ven.listed (V : Ven) (s : ByteArray) (b : Nat) (lm' : Lm) : Ven := { V.list s b with lg := V.lg.begun.noted [.listed s], lm := lm' }

set_option maxHeartbeats 2000000 in
set_option maxRecDepth 100000 in
theorem list_ok (bv bm bo : Nat) (V : Ven) (s : ByteArray) (w : World) (R : Rep w bv bm bo V) (hn : NameSays s true) (hlen : s.size ≤ 100) (hfree : ∀ i, i < V.nb → (V.B i).sym ≠ s) (hnb : V.nb < 6) (hna : V.lg.na < 3000000) :
    Calls Tryz.prog 27 #[.pointer (some ⟨bv, 0, none⟩), .string s] w fun e w' => ∃ b lm', e = .returned (.int .i64 0) ∧ w.heap.size ≤ b ∧ Rep w' bv bm bo (V.listed s b lm') ∧ Chg (fun x => x = bm ∨ x = bv ∨ V.lm.F x) w w' ∧ (∀ x, lm'.F x → V.lm.F x ∨ w.heap.size ≤ x) := by
  have hml : s.size ≤ maxLen := by unfold maxLen; omega
  obtain ⟨fB, mB, fB1, fB2⟩ := R.books
  have hl : fB (sl s) = none := by
    cases h : fB (sl s) with
    | none => rfl
    | some b =>
      obtain ⟨i, hi, _, h2⟩ := fB2 s b h
      exact absurd h2 (hfree i hi)
  have hK : ∀ w', Chg Non w w' → (Instr.lookup 94 (.map (some bm)) (.string s) false).run Tryz.prog w' = .ok (.pointer none) w' ∧ w'.cell? ⟨bv, 0, none⟩ = some (.map (some bm)) ∧ (∀ ty, (Builtin.len_ #[94] ty #[.map (some bm)]).run Tryz.prog w' = .ok (.int .i64 V.nb) w') := fun w' k => by
    refine ⟨?_, (k.blk R.ven (fun x => x)).cell 0, fun ty => (mB.kept k (fun x => x)).len Tryz.underlying94 ty⟩
    rw [(mB.kept k (fun x => x)).look law9 Tryz.underlying94 (zero70 _) (WideMaps.keyOf_string_mk Tryz.underlying9 hml)]
    show _ = Result.ok (ptrO none) _
    rw [← hl]; rfl
  have mbS : ¬ (bm = bv ∨ V.lm.F bm) := by
    rintro (e | e)
    · exact mB.ne R.ven e
    · obtain ⟨c, t', hc, _⟩ := R.log.log.typ e
      exact mB.ne hc rfl
  have outF : ∀ x, w.heap.size ≤ x → ¬ (x = bv ∨ V.lm.F x) := by
    rintro x hx (e | e)
    · have := R.ven.lt; omega
    · have := R.log.log.lt e; omega
  have hU : ∀ w' b, Chg (fun x => x = bv ∨ V.lm.F x) w w' → ∃ w'', (Instr.mapUpdate 94 (.map (some bm)) (.string s) (.pointer (some ⟨b, 0, none⟩))).run Tryz.prog w' = .ok () w'' ∧ MapP w'' 9 bm (putF fB (sl s) b) (V.nb + 1) ∧ Chg (fun i => i = bm) w' w'' := fun w' b k =>
    (mB.kept k mbS).put law9 Tryz.underlying94 (by unfold maxLen; omega) (WideMaps.keyOf_string_mk Tryz.underlying9 hml) trivial hl
  have hbeg : ∀ w', Chg Non w w' → Calls Tryz.prog 51 #[.pointer (some ⟨bv, 0, none⟩), .string (⟨#[108, 105, 115, 116, 32]⟩ ++ s)] w' fun e w'' => e = .returned (.tuple #[]) ∧ ∃ m', IsLog w'' bv bm bo V.lg.begun m' ∧ (∀ b, m'.F b → V.lm.F b ∨ w'.heap.size ≤ b) ∧ Chg (fun b => b = bv ∨ V.lm.F b) w' w'' := fun w' k => begin_any bv bm bo V.lg V.lm _ w' (R.log.kept0 k) hna (by rw [ByteArray.size_append]; show 0 < 5 + s.size; omega) (by rw [ByteArray.size_append]; show 5 + s.size ≤ 290; omega)
  have fin : ∀ b wb lmb w3 w4 w5 lm5, IsLog wb bv bm bo V.lg.begun lmb → Chg (fun x => x = bv ∨ V.lm.F x) w wb → (∀ x, lmb.F x → V.lm.F x ∨ w.heap.size ≤ x) → wb.heap.size ≤ b → Chg Non wb w3 → Blk w3 b (newBk s).cells 158 → MapP w4 9 bm (putF fB (sl s) b) (V.nb + 1) → Chg (fun i => i = bm) w3 w4 →
      IsLog w5 bv bm bo (V.lg.begun.noted [.listed s]) lm5 → (∀ x, lm5.F x → lmb.F x ∨ w4.heap.size ≤ x) → Chg (fun x => lmb.F x) w4 w5 →
      w.heap.size ≤ b ∧ Rep w5 bv bm bo (V.listed s b lm5) ∧ Chg (fun x => x = bm ∨ x = bv ∨ V.lm.F x) w w5 ∧ (∀ x, lm5.F x → V.lm.F x ∨ w.heap.size ≤ x) := by
    intro b wb lmb w3 w4 w5 lm5 hLb kb hFb hb k3 hblk m4 k4 hL5 hF5 k5
    have Rb : Rep wb bv bm bo { V with lg := V.lg.begun, lm := lmb } := R.turnLog hLb kb
    have kk := k3.of_non.trans k4
    have mBb := mB.kept kb mbS
    have R4 : Rep w4 bv bm bo (Ven.list { V with lg := V.lg.begun, lm := lmb } s b) := Rb.list hb (k4.blk hblk (Ne.symm ((mBb.kept k3 (fun x => x)).ne hblk))) kk hfree ⟨_, m4, putF_same trivial, fB, mBb, fB1, fB2, fun s' h => putF_other trivial (fun e => h (sl_inj e))⟩
    have R5 := R4.turnLog hL5 (k5.mono (fun x h => .inr h))
    have kw4 : Chg (fun x => x = bm ∨ x = bv ∨ V.lm.F x) w w4 := (kb.mono (fun x h => .inr h)).trans (kk.mono (fun x h => .inl h))
    refine ⟨Nat.le_trans kb.size hb, R5, kw4.from (k5.mono (fun x h => (hFb x h).imp_left (fun h => .inr (.inr h)))), fun x hx => ?_⟩
    rcases hF5 x hx with h | h
    · exact hFb x h
    · exact .inr (Nat.le_trans kw4.size h)
  have hV : ∀ wb lmb w3 w4, IsLog wb bv bm bo V.lg.begun lmb → Chg (fun x => x = bv ∨ V.lm.F x) w wb → Chg Non wb w3 → Chg (fun i => i = bm) w3 w4 → w3.cell? ⟨bv, 0, none⟩ = some (.map (some bm)) ∧ w4.cell? ⟨bv, 0, none⟩ = some (.map (some bm)) ∧ IsLog w4 bv bm bo V.lg.begun lmb ∧ (∀ {b c t}, Blk w3 b c t → Blk w4 b c t) := fun wb lmb w3 w4 hLb kb k3 k4 => by
    have m3 := (mB.kept kb mbS).kept k3 (fun x => x)
    have bl : ∀ {b c t}, Blk w3 b c t → Blk w4 b c t := fun h => k4.blk h (Ne.symm (m3.ne h))
    have h3 := k3.blk hLb.ven (fun x => x)
    refine ⟨h3.cell 0, (bl h3).cell 0, (hLb.kept0 k3).kept k4 (Ne.symm (m3.ne h3)) (fun y hy e => ?_), bl⟩
    obtain ⟨c, t', hc, _⟩ := (hLb.kept0 k3).log.typ hy
    exact m3.ne hc e.symm
  have HV := hide hV
  have HK := hide hK
  have HU := hide hU
  have HF := hide fin
  have HBg := hide hbeg
  have HO := hide outF
  have e6 : decide ((6 : Int) ≤ (V.nb : Int)) = false := by simp; omega
  clear hV hK hU fin hl mB fB1 fB2 R hfree hnb hbeg outF mbS
  have c1 := cat_run (P := Tryz.prog) ⟨#[108, 105, 115, 116, 32]⟩ s (by show 5 + s.size ≤ 1000000; omega)
  go_enter Tryz.func27, Tryz.ntmps27
  go_wp2_with fail
  refine (hn _).mono ?_
  rintro e w1 ⟨rfl, k1⟩
  have b1 := k1.blk (Blk.new w #[.pointer (some ⟨bv, 0, none⟩)] 35) (fun x => x)
  have k01 := ((Chg.refl Non w).alloc (.cells #[.pointer (some ⟨bv, 0, none⟩)] 35)).trans k1
  have xb1 : w1.cell? ⟨w.heap.size, 0, none⟩ = some (.pointer (some ⟨bv, 0, none⟩)) := b1.cell 0
  obtain ⟨L1, v0, L3⟩ := unhide HK w1 k01
  clear k1
  go_wp2_with fail
  refine (clone_any s w1 (by omega)).mono ?_
  rintro e w2 ⟨rfl, k2⟩
  clear L1 v0 L3 xb1
  have k12 := k01.trans k2
  have b2 := k2.blk b1 (fun x => x)
  have xb2 : w2.cell? ⟨w.heap.size, 0, none⟩ = some (.pointer (some ⟨bv, 0, none⟩)) := b2.cell 0
  obtain ⟨w2a, hw2a⟩ : ∃ w2a, w2a = w2.alloc (.cells #[.string s] 9) := ⟨_, rfl⟩
  have k2a : Chg Non w w2a := by rw [hw2a]; exact k12.alloc _
  have b2a : Blk w2a w.heap.size #[.pointer (some ⟨bv, 0, none⟩)] 35 := by rw [hw2a]; exact b2.alloc _
  have o2a : Blk w2a w2.heap.size #[.string s] 9 := by rw [hw2a]; exact Blk.new _ _ _
  have HW := hide hw2a
  have HBeg := hide (unhide HBg w2a k2a)
  have l2 := b2.lt
  have k12s := k12.size
  clear hw2a
  go_wp2_with fail
  rw [← unhide HW]
  refine (unhide HBeg).mono ?_
  rintro e wb ⟨rfl, lmb, hLb, hFb, kb⟩
  have bb := kb.blk b2a (unhide HO _ (Nat.le_refl _))
  have ob := kb.blk o2a (unhide HO _ (by omega))
  have kkb := k2a.of_non.trans kb
  have hFb' : ∀ x, lmb.F x → V.lm.F x ∨ w.heap.size ≤ x := fun x h => (hFb x h).imp_right (fun h => Nat.le_trans k2a.size h)
  have xb : wb.cell? ⟨w.heap.size, 0, none⟩ = some (.pointer (some ⟨bv, 0, none⟩)) := bb.cell 0
  have ox : wb.cell? ⟨w2.heap.size, 0, none⟩ = some (.string s) := ob.cell 0
  have vb : wb.cell? ⟨bv, 0, none⟩ = some (.map (some bm)) := hLb.ven.cell 0
  have HLb := hide hLb
  have HKb := hide kkb
  have HFb := hide hFb'
  have HBb := hide bb
  have HOb := hide ob
  clear hLb kkb hFb hFb' kb k2a k12 k01 k2 b1 b2 b2a o2a HW HBeg bb ob xb2
  go_wp2
  go_region_held3 (fun w' => w'.cell? ⟨bv, 0, none⟩ = some (.map (some bm)) ∧ w'.cell? ⟨w.heap.size, 0, none⟩ = some (.pointer (some ⟨bv, 0, none⟩)) ∧ w'.cell? ⟨w2.heap.size, 0, none⟩ = some (.string s)) (go_keep)
    (first | (go_at_call 52; refine (bookNew_any s _).mono ?_; rintro e w3 ⟨rfl, hb3, k3⟩; have k3' : Chg Non wb w3 := ((Chg.refl Non wb).drew).trans k3; obtain ⟨w4, hU4, m4, k4⟩ := unhide HU w3 wb.heap.size ((unhide HKb).trans k3'.of_non); obtain ⟨v3, v4, HL4, bl⟩ := unhide HV wb lmb w3 w4 (unhide HLb) (unhide HKb) k3' k4; have q3 := k3'.blk (unhide HBb) (fun x => x); have p3 := k3'.blk (unhide HOb) (fun x => x); have xb3 : w3.cell? ⟨w.heap.size, 0, none⟩ = some (.pointer (some ⟨bv, 0, none⟩)) := q3.cell 0; have ox3 : w3.cell? ⟨w2.heap.size, 0, none⟩ = some (.string s) := p3.cell 0; have xb4 : w4.cell? ⟨w.heap.size, 0, none⟩ = some (.pointer (some ⟨bv, 0, none⟩)) := (bl q3).cell 0; have ox4 : w4.cell? ⟨w2.heap.size, 0, none⟩ = some (.string s) := (bl p3).cell 0))
  have HNt := hide (note1 bv bm bo V.lg.begun lmb (.listed s) (.func 54) #[.pointer (some ⟨w.heap.size, 0, none⟩), .pointer (some ⟨w2.heap.size, 0, none⟩)] w4 HL4 (by show 0 < V.lg.na + 1; omega) (by show V.lg.na + 1 ≤ 3000000; omega) (by show 0 + 1 < 1000000000; omega))
  clear HL4
  go_wp2_with fail
  refine (unhide HNt).mono ?_
  rintro e w5 ⟨rfl, lm5, hL5, hF5, k5⟩
  go_wp2
  go_ret
  exact ⟨wb.heap.size, lm5, rfl, unhide HF _ wb lmb w3 w4 w5 lm5 (unhide HLb) (unhide HKb) (unhide HFb) (Nat.le_refl _) k3' hb3 m4 k4 hL5 hF5 k5⟩

end Go.Proofs.YtigaphnafnpfnaaGreatDoor

set_option linter.unusedVariables false
set_option linter.unusedSimpArgs false
/- The document's venue: a record more. -/
namespace Go.Proofs.YtigaphnafnpfnaaGreatDoor
open Go.RowKit
attribute [local go_sem ↓] Go.wp_at_zero Go.wp_at_succ

/-- the blocks of the document's venue -/
def RF (rb : Nat) (av rv : Value) (b : Nat) : Prop := b = rb ∨ av.ownBlock = some b ∨ rv.ownBlock = some b

theorem RV.lt {w : World} {base rb : Nat} {A : List RAct} {R : List Rc} {L : ByteArray} {av rv : Value} (h : RV w base rb A R L av rv) {b : Nat} (hb : RF rb av rv b) : base ≤ b ∧ b < w.heap.size := by
  rcases hb with rfl | hb | hb
  · exact ⟨h.ge, h.blk.lt⟩
  · exact h.arow.lt _ hb
  · exact h.rrow.lt _ hb

/-- what has become of it -/
def RVN (base rb : Nat) (A : List RAct) (R : List Rc) (L : ByteArray) (av rv : Value) (w w' : World) : Prop := ∃ av' rv', RV w' base rb A R L av' rv' ∧ (∀ b, RF rb av' rv' b → RF rb av rv b ∨ w.heap.size ≤ b) ∧ Chg (RF rb av rv) w w'

theorem RVN.refl {w : World} {base rb : Nat} {A : List RAct} {R : List Rc} {L : ByteArray} {av rv : Value} (h : RV w base rb A R L av rv) : RVN base rb A R L av rv w w := ⟨av, rv, h, fun b hb => .inl hb, Chg.refl _ _⟩
theorem RVN.ext {w w' w'' : World} {base rb : Nat} {A : List RAct} {R : List Rc} {L : ByteArray} {av rv : Value} (h : RVN base rb A R L av rv w w') (k : Chg Non w' w'') : RVN base rb A R L av rv w w'' := by
  obtain ⟨a, b, h1, h2, h3⟩ := h
  exact ⟨a, b, h1.kept0 k, h2, h3.trans k.of_non⟩
theorem RVN.pre {w0 w w' : World} {base rb : Nat} {A : List RAct} {R : List Rc} {L : ByteArray} {av rv : Value} (k : Chg Non w0 w) (h : RVN base rb A R L av rv w w') : RVN base rb A R L av rv w0 w' := by
  obtain ⟨a, b, h1, h2, h3⟩ := h
  exact ⟨a, b, h1, fun c hc => (h2 c hc).imp_right (fun x => Nat.le_trans k.size x), k.of_non.trans h3⟩
theorem RVN.trans {w w' w'' : World} {base rb : Nat} {A A' : List RAct} {R R' : List Rc} {L L' : ByteArray} {av rv : Value} (h : RVN base rb A R L av rv w w') (k : ∀ a b, RV w' base rb A R L a b → RVN base rb A' R' L' a b w' w'') : RVN base rb A' R' L' av rv w w'' := by
  obtain ⟨a, b, h1, h2, h3⟩ := h
  obtain ⟨a', b', k1, k2, k3⟩ := k a b h1
  refine ⟨a', b', k1, fun c hc => ?_, h3.from (k3.mono h2)⟩
  rcases k2 c hc with hc | hc
  · exact h2 c hc
  · exact .inr (Nat.le_trans h3.size hc)

theorem RV.recGrown {w1 w2 : World} {base rb n H g cap : Nat} {A : List RAct} {R : List Rc} {L : ByteArray} {av rv : Value} {r : Rc} (h : RV w1 base rb A R L av rv) (hn : R.length = n) (hown : w2.ownsRow base 62 9 (.slice (some ⟨g, 0, none⟩) (n + 1) cap) (n + 1) (flatR R ++ r.cells)) (hgrow : w1.grownBy w2 rv.ownBlock) (hat : rv.ownBlock = some g ∨ g = H) (hH : w1.heap.size = H) :
    RVN base rb A (R ++ [r]) L av rv w1 (w2.setCell ⟨rb, 1, none⟩ (.slice (some ⟨g, 0, none⟩) (n + 1) cap)) := by
  have hne : rv.ownBlock ≠ some rb := fun e => by obtain ⟨cs, hc⟩ := own_blk h.rrow e; exact Blk.ne hc h.blk (by decide) rfl
  have hb2 : Blk w2 rb _ 129 := (hgrow.block rb h.blk.lt (fun e => hne e.symm)).trans h.blk
  have k1 : Chg (fun b => rv.ownBlock = some b) w1 w2 := (Chg.refl _ w1).grown hgrow (fun k e => .inl e)
  have k2 : Chg (fun b => b = rb) w2 (w2.setCell ⟨rb, 1, none⟩ (.slice (some ⟨g, 0, none⟩) (n + 1) cap)) := (Chg.refl (fun b => b = rb) w2).setCell (p := ⟨rb, 1, none⟩) (.inl rfl) _
  refine ⟨av, .slice (some ⟨g, 0, none⟩) (n + 1) cap, ⟨h.ge, hb2.set 1 _, ?_, ?_⟩, ?_, ?_⟩
  · have r1 := own_typ (t := 0) h.arow k1 (fun b hb => by obtain ⟨cs, hc⟩ := own_blk h.rrow hb; exact ⟨cs, _, hc, by decide⟩)
    exact own_typ (t := 0) r1 k2 (fun b hb => by subst hb; exact ⟨_, _, hb2, by decide⟩)
  · simp only [List.length_append, List.length_cons, List.length_nil, hn, flatR_snoc]
    exact own_typ (t := 0) hown k2 (fun b hb => by subst hb; exact ⟨_, _, hb2, by decide⟩)
  · rintro b (rfl | hb | hb)
    · exact .inl (.inl rfl)
    · exact .inl (.inr (.inl hb))
    · simp only [Value.ownBlock, Option.some.injEq] at hb
      rcases hat with e | e
      · exact .inl (.inr (.inr (by rw [e, hb])))
      · right; omega
  · exact (k1.mono (fun b hb => .inr (.inr hb))).trans (k2.mono (fun b hb => .inl hb))

def Rc.val (r : Rc) : Value := .agg #[.int .i64 r.num, .int .i64 r.kind, .int .i64 r.t.num, .string r.t.sym, .int .i64 r.t.price, .int .i64 r.t.qty, .int .i64 r.t.buy, .int .i64 r.t.sell, .int .i64 r.t.day]

set_option maxRecDepth 100000 in
set_option maxHeartbeats 2000000 in
theorem rrecord_any (base rb : Nat) (A : List RAct) (R : List Rc) (L : ByteArray) (av rv : Value) (r : Rc) (w : World) (h : RV w base rb A R L av rv) (hlen : R.length < 1000000000) :
    Calls Tryz.prog 140 #[.pointer (some ⟨rb, 0, none⟩), r.val] w fun e w' => e = .returned (.tuple #[]) ∧ RVN base rb A (R ++ [{ r with num := (R.length : Int) + 1 }]) L av rv w w' := by
  obtain ⟨n, hn⟩ : ∃ n, R.length = n := ⟨_, rfl⟩
  have hprow := h.rrow
  rw [hn] at hprow hlen
  obtain ⟨pa, pcap, hpv⟩ := row_slice hprow
  rw [hpv] at hprow
  have hv := h.blk
  have v1 : w.cell? ⟨rb, 1, none⟩ = some (.slice pa n pcap) := (hv.cell 1).trans (by rw [← hpv]; rfl)
  have lv := hv.lt
  have hge := h.ge
  have hmx : n + 1 ≤ maxLen := by unfold maxLen; omega
  have hm24 : (n + 1) * 80 ≤ 140737488355328 := by omega
  obtain ⟨i0, z0, hi0, hz0, hz1, hz2, hz3⟩ := info96_parts
  obtain ⟨rnum, kind, tn, ts, tp, tq, tbu, tse, td⟩ := r
  simp only [Rc.val]
  rw [hn]
  obtain ⟨w0, hw0⟩ : ∃ w0, w0 = w.alloc (.cells #[.int .i64 ((n : Int) + 1), .int .i64 kind, .int .i64 tn, .string ts, .int .i64 tp, .int .i64 tq, .int .i64 tbu, .int .i64 tse, .int .i64 td] 62) := ⟨_, rfl⟩
  have k0 : Chg Non w w0 := by rw [hw0]; exact (Chg.refl Non w).alloc _
  have b0 : Blk w0 w.heap.size #[.int .i64 ((n : Int) + 1), .int .i64 kind, .int .i64 tn, .string ts, .int .i64 tp, .int .i64 tq, .int .i64 tbu, .int .i64 tse, .int .i64 td] 62 := by rw [hw0]; exact Blk.new _ _ _
  have hs0 : w0.heap.size = w.heap.size + 1 := by rw [hw0]; simp
  have hrow0 := own_kept hprow k0 (fun _ _ x => x)
  have v1' : w0.cell? ⟨rb, 1, none⟩ = some (.slice pa n pcap) := k0.cell v1 (fun x => x)
  have t0 : w0.cell? ⟨w.heap.size, 0, none⟩ = some (.int .i64 ((n : Int) + 1)) := b0.cell 0
  have t1 : w0.cell? ⟨w.heap.size, 1, none⟩ = some (.int .i64 kind) := b0.cell 1
  have t2 : w0.cell? ⟨w.heap.size, 2, none⟩ = some (.int .i64 tn) := b0.cell 2
  have t3 : w0.cell? ⟨w.heap.size, 3, none⟩ = some (.string ts) := b0.cell 3
  have t4 : w0.cell? ⟨w.heap.size, 4, none⟩ = some (.int .i64 tp) := b0.cell 4
  have t5 : w0.cell? ⟨w.heap.size, 5, none⟩ = some (.int .i64 tq) := b0.cell 5
  have t6 : w0.cell? ⟨w.heap.size, 6, none⟩ = some (.int .i64 tbu) := b0.cell 6
  have t7 : w0.cell? ⟨w.heap.size, 7, none⟩ = some (.int .i64 tse) := b0.cell 7
  have t8 : w0.cell? ⟨w.heap.size, 8, none⟩ = some (.int .i64 td) := b0.cell 8
  obtain ⟨w1, hw1⟩ : ∃ w1, w1 = (w0.alloc (.cells #[.int .i64 ((n : Int) + 1), .int .i64 kind, .int .i64 tn, .string ts, .int .i64 tp, .int .i64 tq, .int .i64 tbu, .int .i64 tse, .int .i64 td] 62)).drew := ⟨_, rfl⟩
  have k1 : Chg Non w0 w1 := by rw [hw1]; exact ((Chg.refl Non w0).alloc _).drew
  have hrow1 := own_kept hrow0 k1 (fun _ _ x => x)
  have hsz1 : w1.heap.size = w.heap.size + 2 := by rw [hw1]; simp [hs0]
  have hnews : ∀ j u, (Rc.cells ⟨(n : Int) + 1, kind, ⟨tn, ts, tp, tq, tbu, tse, td⟩⟩)[j]? = some u → w1.cell? (Addr.add ⟨w.heap.size + 1, 0, none⟩ j) = some u := by
    intro j u hj
    have := news9 w0 ⟨(n : Int) + 1, kind, ⟨tn, ts, tp, tq, tbu, tse, td⟩⟩ j u hj
    rw [hs0] at this
    rw [hw1]
    exact this
  have hone : ∀ u ∈ Rc.cells ⟨(n : Int) + 1, kind, ⟨tn, ts, tp, tq, tbu, tse, td⟩⟩, u.oneCell' = true := by simp [Rc.cells, Value.oneCell']
  have h1 := (h.kept0 k0).kept0 k1
  have HR := hide hrow1
  have HNW := hide hnews
  have HON := hide hone
  have HSZ := hide hsz1
  have HL1 := hide h1
  have HPV := hide hpv
  have HW := hide hw0
  have HW1 := hide hw1
  have hne : w.heap.size ≠ rb := by omega
  have hne' := hne.symm
  have HK := hide (k0.trans k1)
  have HN := hide hn
  clear hprow h hpv hrow0 hw0 b0 hrow1 hnews hone hw1 hsz1 h1 k0 k1 hn hv
  go_enter Tryz.func140, Tryz.ntmps140
  go_wp2
  rw [← unhide HW]
  clear v1
  go_region_law (first | (rw [← unhide HW1]; refine step_append_lies _ rfl (.tmp 15) (.tmp 17) 34 rfl base 62 i0 z0 9 80 Tryz.underlying34 hi0 hz0 hz1 hz2 hz3 (by decide) (.slice pa n pcap) n (flatR R) rfl (unhide HR) ⟨w.heap.size + 1, 0, none⟩ 1 1 (Rc.cells ⟨(n : Int) + 1, kind, ⟨tn, ts, tp, tq, tbu, tse, td⟩⟩) rfl rfl (unhide HNW) (unhide HON) (by omega) hmx hm24 (by have := unhide HSZ; omega) (w.heap.size + 2) (unhide HSZ) ?_; intro g cap w2 hown2 hgrow hat hlt; have HO2 := hide hown2; have HG2 := hide hgrow; have HA2 := hide hat; have b2 : Blk w2 rb _ 129 := (hgrow.block rb (unhide HL1).blk.lt (fun e => by obtain ⟨cs, hc⟩ := own_blk (unhide HL1).rrow (b := rb) (by rw [unhide HPV]; exact e.symm); exact Blk.ne hc (unhide HL1).blk (by decide) rfl)).trans (unhide HL1).blk; have v52 := b2.cell 1; have f52 := b2.frozen 1; simp at v52; clear hown2 hgrow hat b2))
  all_goals
    go_end0
    have a1 := (unhide HL1).recGrown (r := ⟨(n : Int) + 1, kind, ⟨tn, ts, tp, tq, tbu, tse, td⟩⟩) (unhide HN) (unhide HO2) (by rw [unhide HPV]; exact unhide HG2) (by rw [unhide HPV]; exact unhide HA2) (unhide HSZ)
    exact ⟨rfl, RVN.pre (unhide HK) a1⟩

end Go.Proofs.YtigaphnafnpfnaaGreatDoor

set_option linter.unusedVariables false
set_option linter.unusedSimpArgs false
/- The document's venue: an act is done. -/
namespace Go.Proofs.YtigaphnafnpfnaaGreatDoor
open Go.RowKit
attribute [local go_sem ↓] Go.wp_at_zero Go.wp_at_succ

theorem info169 : (Tryz.prog.info? 169).map (fun i => (i.zero.map (fun z => z.cells.size), i.size, i.bytes)) = some (some 13, 13, 120) := by kernel_rfl
theorem info169_parts : ∃ i z, Tryz.prog.info? 169 = some i ∧ i.zero = some z ∧ i.size = 13 ∧ i.bytes = 120 ∧ z.cells.size = 13 := by
  have h := info169
  cases hi : Tryz.prog.info? 169 with
  | none => rw [hi] at h; simp at h
  | some i =>
    rw [hi] at h
    simp at h
    obtain ⟨⟨z, hz, hs⟩, h2, h3⟩ := h
    exact ⟨i, z, rfl, hz, h2, h3, hs⟩

theorem res99 (tmps : Array Value) (H : Nat) (w : World) (a b c d e E : Int) (ht : tmps.getD 4 undef = .pointer (some ⟨H, 0, none⟩)) (hu : tmps.getD 5 undef = .int .i64 E) (hb : Blk w H #[.int .i64 a, .int .i64 b, .int .i64 c, .int .i64 d, .int .i64 e] 87) :
    (results Tryz.f99 tmps).run Tryz.prog w = .ok (.tuple #[repV a b c d e, .int .i64 E]) w := by
  have c0 : w.cell? ⟨H, 0, none⟩ = some (.int .i64 a) := hb.cell 0
  have c1 : w.cell? ⟨H, 1, none⟩ = some (.int .i64 b) := hb.cell 1
  have c2 : w.cell? ⟨H, 2, none⟩ = some (.int .i64 c) := hb.cell 2
  have c3 : w.cell? ⟨H, 3, none⟩ = some (.int .i64 d) := hb.cell 3
  have c4 : w.cell? ⟨H, 4, none⟩ = some (.int .i64 e) := hb.cell 4
  simp only [Array.getD_eq_getD_getElem?] at ht hu
  simp [results, Tryz.results99, go_sem, ht, hu, c0, c1, c2, c3, c4, repV]

theorem RV.actGrown {w1 w2 : World} {base rb n H g cap : Nat} {A : List RAct} {R : List Rc} {L : ByteArray} {av rv : Value} {x : RAct} (h : RV w1 base rb A R L av rv) (hn : A.length = n) (hown : w2.ownsRow base 169 13 (.slice (some ⟨g, 0, none⟩) (n + 1) cap) (n + 1) (flatA A ++ actL x)) (hgrow : w1.grownBy w2 av.ownBlock) (hat : av.ownBlock = some g ∨ g = H) (hH : w1.heap.size = H) :
    RVN base rb (A ++ [x]) R L av rv w1 (w2.setCell ⟨rb, 0, none⟩ (.slice (some ⟨g, 0, none⟩) (n + 1) cap)) := by
  have hne : av.ownBlock ≠ some rb := fun e => by obtain ⟨cs, hc⟩ := own_blk h.arow e; exact Blk.ne hc h.blk (by decide) rfl
  have hb2 : Blk w2 rb _ 129 := (hgrow.block rb h.blk.lt (fun e => hne e.symm)).trans h.blk
  have k1 : Chg (fun b => av.ownBlock = some b) w1 w2 := (Chg.refl _ w1).grown hgrow (fun k e => .inl e)
  have k2 : Chg (fun b => b = rb) w2 (w2.setCell ⟨rb, 0, none⟩ (.slice (some ⟨g, 0, none⟩) (n + 1) cap)) := (Chg.refl (fun b => b = rb) w2).setCell (p := ⟨rb, 0, none⟩) (.inl rfl) _
  refine ⟨.slice (some ⟨g, 0, none⟩) (n + 1) cap, rv, ⟨h.ge, hb2.set 0 _, ?_, ?_⟩, ?_, ?_⟩
  · simp only [List.length_append, List.length_cons, List.length_nil, hn, flatA, flat_snoc]
    exact own_typ (t := 0) hown k2 (fun b hb => by subst hb; exact ⟨_, _, hb2, by decide⟩)
  · have r1 := own_typ (t := 0) h.rrow k1 (fun b hb => by obtain ⟨cs, hc⟩ := own_blk h.arow hb; exact ⟨cs, _, hc, by decide⟩)
    exact own_typ (t := 0) r1 k2 (fun b hb => by subst hb; exact ⟨_, _, hb2, by decide⟩)
  · rintro b (rfl | hb | hb)
    · exact .inl (.inl rfl)
    · simp only [Value.ownBlock, Option.some.injEq] at hb
      rcases hat with e | e
      · exact .inl (.inr (.inl (by rw [e, hb])))
      · right; omega
    · exact .inl (.inr (.inr hb))
  · exact (k1.mono (fun b hb => .inr (.inl hb))).trans (k2.mono (fun b hb => .inl hb))

theorem RV.lined {w : World} {base rb : Nat} {A : List RAct} {R : List Rc} {L : ByteArray} {av rv : Value} (h : RV w base rb A R L av rv) (L' : ByteArray) : RVN base rb A R L' av rv w (w.setCell ⟨rb, 2, none⟩ (.string L')) := by
  have k : Chg (fun b => b = rb) w (w.setCell ⟨rb, 2, none⟩ (.string L')) := (Chg.refl (fun b => b = rb) w).setCell (p := ⟨rb, 2, none⟩) (.inl rfl) _
  exact ⟨av, rv, ⟨h.ge, h.blk.set 2 _, own_typ (t := 0) h.arow k (fun b hb => by subst hb; exact ⟨_, _, h.blk, by decide⟩), own_typ (t := 0) h.rrow k (fun b hb => by subst hb; exact ⟨_, _, h.blk, by decide⟩)⟩, fun b hb => .inl hb, k.mono (fun b hb => .inl hb)⟩

theorem newsA (w : World) (x : RAct) : ∀ j u, (actL x)[j]? = some u → (w.alloc (.cells #[.int .u8 x.kind, .string x.s, .int .i64 x.o.id, .int .i64 x.o.owner, .string x.o.sym, .int .i64 x.o.side, .int .i64 x.o.kind, .int .i64 x.o.price, .int .i64 x.o.qty, .int .i64 x.a, .int .i64 x.b, .int .i64 x.c, .bool x.again] 169)).cell? (Addr.add ⟨w.heap.size, 0, none⟩ j) = some u := by
  intro j u hj
  have hb := Blk.new w #[.int .u8 x.kind, .string x.s, .int .i64 x.o.id, .int .i64 x.o.owner, .string x.o.sym, .int .i64 x.o.side, .int .i64 x.o.kind, .int .i64 x.o.price, .int .i64 x.o.qty, .int .i64 x.a, .int .i64 x.b, .int .i64 x.c, .bool x.again] 169
  have e : Addr.add ⟨w.heap.size, 0, none⟩ j = ⟨w.heap.size, j, none⟩ := by simp [Addr.add]; omega
  rw [e, hb.cell, ← hj]
  simp [actL]

/-- where Do stands when the act has been done on the state -/
structure Dn (w : World) (base rb : Nat) (A : List RAct) (R : List Rc) (L : ByteArray) (av rv : Value) (S' : RS) (m : SM) (act : Array Value) (w3 : World) : Prop where
  rv : RV w3 base rb A R L av rv
  st : StV w3 (w.heap.size + 2) (w.heap.size + 2) S' m
  act : Blk w3 w.heap.size act 169
  z : Blk w3 (w.heap.size + 1) zero5 87
  k : Chg Non w w3

theorem Dn.of {w w2 w3 : World} {base rb : Nat} {A : List RAct} {R : List Rc} {L : ByteArray} {av rv : Value} {S S' : RS} {m : SM} {act : Array Value} (h : RV w base rb A R L av rv) (k2 : Chg Non ((w.alloc (.cells act 169)).alloc (.cells zero5 87)) w2) (st : StV w2 (w.heap.size + 2) (w.heap.size + 2) S m) (hn : StN (w.heap.size + 2) (w.heap.size + 2) S' m w2 w3) : ∃ m', Dn w base rb A R L av rv S' m' act w3 := by
  obtain ⟨m', p, q, kk⟩ := hn
  have e1 : ((w.alloc (.cells act 169)).alloc (.cells zero5 87)).heap.size = w.heap.size + 2 := by simp
  have k3 : Chg Non ((w.alloc (.cells act 169)).alloc (.cells zero5 87)) w3 := k2.from (kk.mono (fun b hb => .inr (by rw [e1]; exact (st.lt hb).1)))
  have k0 : Chg Non w ((w.alloc (.cells act 169)).alloc (.cells zero5 87)) := ((Chg.refl Non w).alloc _).alloc _
  exact ⟨m', h.kept0 (k0.trans k3), p, k3.blk ((Blk.new w act 169).alloc _) (fun x => x), k3.blk (Blk.new1 w _ _ _) (fun x => x), k0.trans k3⟩

set_option maxRecDepth 100000 in
set_option maxHeartbeats 8000000 in
theorem rdo_err (base rb : Nat) (A : List RAct) (R : List Rc) (L : ByteArray) (av rv : Value) (S S' : RS) (x : RAct) (ra rb' rc rd re E : Int) (w : World) (h : RV w base rb A R L av rv) (hh : Hist A S) (hn : A.length ≤ 1000000000) (hd : DoesR S x S' (repV ra rb' rc rd re) E) (hE : E ≠ 0) :
    Calls Tryz.prog 99 #[.pointer (some ⟨rb, 0, none⟩), x.val] w fun e w' => e = .returned (.tuple #[repV ra rb' rc rd re, .int .i64 E]) ∧ Chg Non w w' := by
  have e0 : (E == 0) = false := by simpa using hE
  obtain ⟨kind, s, ⟨id, owner, sym, side, okind, price, qty⟩, a, b, c, again⟩ := x
  obtain ⟨W1, hW1⟩ : ∃ W1, W1 = ((w.alloc (.cells #[.int .u8 kind, .string s, .int .i64 id, .int .i64 owner, .string sym, .int .i64 side, .int .i64 okind, .int .i64 price, .int .i64 qty, .int .i64 a, .int .i64 b, .int .i64 c, .bool again] 169)).alloc (.cells zero5 87)) := ⟨_, rfl⟩
  have k1 : Chg Non w W1 := by rw [hW1]; exact ((Chg.refl Non w).alloc _).alloc _
  have hs1 : W1.heap.size = w.heap.size + 2 := by rw [hW1]; simp
  have b0 : Blk W1 w.heap.size #[.int .u8 kind, .string s, .int .i64 id, .int .i64 owner, .string sym, .int .i64 side, .int .i64 okind, .int .i64 price, .int .i64 qty, .int .i64 a, .int .i64 b, .int .i64 c, .bool again] 169 := by rw [hW1]; exact (Blk.new w _ _).alloc _
  have HST := hide (rstate_any base rb A R L av rv S W1 (h.kept0 k1) hh hn)
  rw [hs1] at HST
  have HD := hide hd
  have HB0 := hide b0
  have HK1 := hide k1
  have HW1 := hide hW1
  have HRV := hide h
  simp only [RAct.val, RAct.cells, zero5] at HW1 ⊢
  clear hd hh h k1 hs1 b0 hW1
  go_enter Tryz.func99, Tryz.ntmps99
  go_wp2_with fail
  rw [← unhide HW1]
  refine (unhide HST).mono ?_
  rintro e w2 ⟨rfl, ⟨m, st⟩, k2⟩
  have b2 := k2.blk (unhide HB0) (fun x => x)
  have x0 : w2.cell? ⟨w.heap.size, 0, none⟩ = some (.int .u8 kind) := b2.cell 0
  have x1 : w2.cell? ⟨w.heap.size, 1, none⟩ = some (.string s) := b2.cell 1
  have x2 : w2.cell? ⟨w.heap.size, 2, none⟩ = some (.int .i64 id) := b2.cell 2
  have x3 : w2.cell? ⟨w.heap.size, 3, none⟩ = some (.int .i64 owner) := b2.cell 3
  have x4 : w2.cell? ⟨w.heap.size, 4, none⟩ = some (.string sym) := b2.cell 4
  have x5 : w2.cell? ⟨w.heap.size, 5, none⟩ = some (.int .i64 side) := b2.cell 5
  have x6 : w2.cell? ⟨w.heap.size, 6, none⟩ = some (.int .i64 okind) := b2.cell 6
  have x7 : w2.cell? ⟨w.heap.size, 7, none⟩ = some (.int .i64 price) := b2.cell 7
  have x8 : w2.cell? ⟨w.heap.size, 8, none⟩ = some (.int .i64 qty) := b2.cell 8
  have x9 : w2.cell? ⟨w.heap.size, 9, none⟩ = some (.int .i64 a) := b2.cell 9
  have x10 : w2.cell? ⟨w.heap.size, 10, none⟩ = some (.int .i64 b) := b2.cell 10
  have x11 : w2.cell? ⟨w.heap.size, 11, none⟩ = some (.int .i64 c) := b2.cell 11
  have x12 : w2.cell? ⟨w.heap.size, 12, none⟩ = some (.bool again) := b2.cell 12
  have HD2 := hide (unhide HD _ _ m w2 st)
  rw [unhide HW1] at k2
  have HK2 := hide k2
  have HSt := hide st
  simp only [RAct.val, RAct.cells, repV] at HD2
  clear HD st k2 b2
  go_wp2_with fail
  refine (unhide HD2).mono ?_
  rintro e w3 ⟨rfl, hn3⟩
  obtain ⟨m3, d3⟩ := Dn.of (unhide HRV) (unhide HK2) (unhide HSt) hn3
  have z0 : w3.cell? ⟨w.heap.size + 1, 0, none⟩ = some (.int .i64 0) := d3.z.cell 0
  have z1 : w3.cell? ⟨w.heap.size + 1, 1, none⟩ = some (.int .i64 0) := d3.z.cell 1
  have z2 : w3.cell? ⟨w.heap.size + 1, 2, none⟩ = some (.int .i64 0) := d3.z.cell 2
  have z3 : w3.cell? ⟨w.heap.size + 1, 3, none⟩ = some (.int .i64 0) := d3.z.cell 3
  have z4 : w3.cell? ⟨w.heap.size + 1, 4, none⟩ = some (.int .i64 0) := d3.z.cell 4
  have fz0 := d3.z.frozen 0
  have fz1 := d3.z.frozen 1
  have fz2 := d3.z.frozen 2
  have fz3 := d3.z.frozen 3
  have fz4 := d3.z.frozen 4
  have lz := d3.z.lt
  have HD3 := hide d3
  clear hn3 d3 x0 x1 x2 x3 x4 x5 x6 x7 x8 x9 x10 x11 x12 HD2 HST
  go_wp2
  refine bodyPost_ret (res99 _ (w.heap.size + 1) _ ra rb' rc rd re E rfl rfl ?_) rfl ⟨rfl, ?_⟩
  · exact (set5 (unhide HD3).z _ _ _ _ _).alloc _
  · exact ((unhide HD3).k.from ((chg5 _ _ _ _ _).mono (fun b hb => .inr (by omega)))).alloc _

end Go.Proofs.YtigaphnafnpfnaaGreatDoor

