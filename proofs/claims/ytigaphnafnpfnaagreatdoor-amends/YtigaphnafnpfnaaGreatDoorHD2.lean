import Derived.Test.YtigaphnafnpfnaaGreatDoorHC4
set_option linter.unusedVariables false
set_option linter.unusedSimpArgs false
/- The sweep, without the program. -/
namespace Go.Proofs.YtigaphnafnpfnaaGreatDoor
open Go.RowKit

def sumIf (p : Nat → Bool) (q : Nat → Int) : Nat → Int
  | 0 => 0
  | k + 1 => sumIf p q k + if p k then q k else 0

theorem sumIf_congr {p p' : Nat → Bool} {q : Nat → Int} : ∀ n, (∀ k, k < n → p k = p' k) → sumIf p q n = sumIf p' q n
  | 0, _ => rfl
  | k + 1, h => by rw [sumIf, sumIf, sumIf_congr k (fun j hj => h j (by omega)), h k (by omega)]

theorem sumIf_add {p p' : Nat → Bool} {q : Nat → Int} {j : Nat} (hp : p j = false) : ∀ n, j < n → (∀ k, k < n → p' k = (p k || decide (k = j))) → sumIf p' q n = sumIf p q n + q j
  | 0, h, _ => by omega
  | k + 1, h, he => by
    rw [sumIf, sumIf, he k (by omega)]
    by_cases e : k = j
    · subst e
      rw [hp, sumIf_congr (p := p') (p' := p) k (fun i hi => by rw [he i (by omega), decide_eq_false (by omega), Bool.or_false])]
      simp
    · rw [sumIf_add hp k (by omega) (fun i hi => he i (by omega)), decide_eq_false e, Bool.or_false]
      omega

theorem sumIf_mono {p p' : Nat → Bool} {q : Nat → Int} : ∀ n, (∀ k, k < n → 0 ≤ q k) → (∀ k, k < n → p k = true → p' k = true) → sumIf p q n ≤ sumIf p' q n
  | 0, _, _ => Int.le_refl _
  | k + 1, hq, h => by
    have ih := sumIf_mono (p := p) (p' := p') k (fun j hj => hq j (by omega)) (fun j hj => h j (by omega))
    have h1 := hq k (by omega)
    have h2 := h k (by omega)
    rw [sumIf, sumIf]
    cases hp : p k <;> cases hp' : p' k <;> simp [hp, hp'] at h2 ⊢ <;> omega

theorem sumIf_nonneg {p : Nat → Bool} {q : Nat → Int} : ∀ n, (∀ k, k < n → 0 ≤ q k) → 0 ≤ sumIf p q n
  | 0, _ => Int.le_refl _
  | k + 1, hq => by
    have ih := sumIf_nonneg (p := p) k (fun j hj => hq j (by omega))
    have h1 := hq k (by omega)
    rw [sumIf]; split <;> omega

/-- does order k come ahead of the place (c, i)? -/
def bef (pr : Nat → Int) (c : Int) (i k : Nat) : Bool := decide (pr k < c ∨ (pr k = c ∧ k < i))

/-- so much lies ahead of (c, i) -/
def ahd (n : Nat) (pr qt : Nat → Int) (c : Int) (i : Nat) : Int := sumIf (bef pr c i) qt n
def cnt (n : Nat) (pr : Nat → Int) (c : Int) (i : Nat) : Int := sumIf (bef pr c i) (fun _ => 1) n

theorem bef_step {pr : Nat → Int} {j : Nat} (k : Nat) : bef pr (pr j) (j + 1) k = (bef pr (pr j) j k || decide (k = j)) := by
  unfold bef
  by_cases e : k = j
  · subst e; simp
  · simp only [e, decide_false, Bool.or_false]
    congr 1
    apply propext
    constructor
    · rintro (h | ⟨h1, h2⟩)
      · exact .inl h
      · exact .inr ⟨h1, by omega⟩
    · rintro (h | ⟨h1, h2⟩)
      · exact .inl h
      · exact .inr ⟨h1, by omega⟩
theorem bef_self (pr : Nat → Int) (j : Nat) : bef pr (pr j) j j = false := by unfold bef; simp

theorem ahd_step {n : Nat} {pr qt : Nat → Int} {j : Nat} (hj : j < n) : ahd n pr qt (pr j) (j + 1) = ahd n pr qt (pr j) j + qt j := sumIf_add (bef_self pr j) n hj (fun k _ => bef_step k)
theorem cnt_step {n : Nat} {pr : Nat → Int} {j : Nat} (hj : j < n) : cnt n pr (pr j) (j + 1) = cnt n pr (pr j) j + 1 := sumIf_add (bef_self pr j) n hj (fun k _ => bef_step k)

/-- the orders of the sweep -/
def selO (pr qt : Nat → Int) (j : Nat) (f : Int) : Ord := ⟨(j : Int) + 1, 1 + (j : Int) % 9, ⟨#[65]⟩, 1, (j : Int) % 2, pr j, qt j, qt j, qt j - f, f, 0, 0, (j : Int) + 1⟩

structure Par (n : Nat) (pr qt : Nat → Int) (blk : Nat → Nat) : Prop where
  qlo : ∀ j, j < n → 1 ≤ qt j
  qhi : ∀ j, j < n → qt j ≤ 1000
  inj : ∀ j k, j < n → k < n → blk j = blk k → j = k
  small : n ≤ 1000

theorem lt_sel {pr qt : Nat → Int} {j k : Nat} {f g : Int} : lessB (selO pr qt j f) (selO pr qt k g) = decide (pr j < pr k ∨ (pr j = pr k ∧ j < k)) := by
  unfold lessB rankI orI cmpI selO
  simp only
  congr 1
  apply propext
  split <;> split <;> (try split) <;> (try split) <;> (try split) <;> (try split) <;> omega

/-- all ahead of (c, i) are filled whole, the others not at all -/
structure Bd (n : Nat) (pr qt : Nat → Int) (blk : Nat → Nat) (b : Nat) (Q : Int) (ob : Ord) (c : Int) (i : Nat) (st : MS) : Prop where
  le : ahd n pr qt c i ≤ Q
  ob : st.om b = { ob with opn := Q - ahd n pr qt c i, filled := ahd n pr qt c i }
  om : ∀ j, j < n → st.om (blk j) = selO pr qt j (if bef pr c i j then qt j else 0)
  mem : ∀ x, Mem (st.B.n 1) (st.B.h 1) x ↔ ∃ j, j < n ∧ x = blk j ∧ bef pr c i j = false
  heap : HeapOK (ltB st.om) (st.B.n 1) (st.B.h 1)
  tr : st.tr = cnt n pr c i

/-- what comes of it -/
structure Fin (n : Nat) (pr qt : Nat → Int) (blk : Nat → Nat) (b : Nat) (Q : Int) (ob : Ord) (st : MS) : Prop where
  ob : ∃ R, 0 ≤ R ∧ R = min Q (sumIf (fun _ => true) qt n) ∧ st.om b = { ob with opn := Q - R, filled := R }
  om : ∀ j, j < n → st.om (blk j) = selO pr qt j (min (qt j) (max 0 (Q - ahd n pr qt (pr j) j)))
  tr : st.tr = sumIf (fun j => decide (ahd n pr qt (pr j) j < Q)) (fun _ => 1) n

theorem pre_sel {n : Nat} {pr qt : Nat → Int} {blk : Nat → Nat} {om : Nat → Ord} {f : Nat → Int} (h : ∀ j, j < n → om (blk j) = selO pr qt j (f j)) : Pre (ltB om) (fun x => ∃ j, j < n ∧ x = blk j) := by
  refine ⟨?_, ?_, ?_⟩
  · rintro x y ⟨j, hj, rfl⟩ ⟨k, hk, rfl⟩ h1
    unfold ltB at h1 ⊢
    rw [h j hj, h k hk, lt_sel] at *
    simp only [decide_eq_true_eq, decide_eq_false_iff_not] at h1 ⊢
    omega
  · rintro x y z ⟨j, hj, rfl⟩ ⟨k, hk, rfl⟩ ⟨l, hl, rfl⟩ h1 h2
    unfold ltB at h1 h2 ⊢
    rw [h k hk, h j hj, lt_sel] at h1
    rw [h l hl, h k hk, lt_sel] at h2
    rw [h l hl, h j hj, lt_sel]
    simp only [decide_eq_false_iff_not] at h1 h2 ⊢
    omega
  · rintro x ⟨j, hj, rfl⟩
    unfold ltB
    rw [h j hj, lt_sel]
    simp

end Go.Proofs.YtigaphnafnpfnaaGreatDoor

set_option linter.unusedVariables false
set_option linter.unusedSimpArgs false
namespace Go.Proofs.YtigaphnafnpfnaaGreatDoor
open Go.RowKit

theorem bef_tt {pr : Nat → Int} {c : Int} {i j : Nat} (h : bef pr c i j = true) (k : Nat) (hk : bef pr (pr j) (j + 1) k = true) : bef pr c i k = true := by
  simp only [bef, decide_eq_true_eq] at h hk ⊢; omega
theorem bef_ff {pr : Nat → Int} {c : Int} {i j : Nat} (h : bef pr c i j = false) (k : Nat) (hk : bef pr c i k = true) : bef pr (pr j) j k = true := by
  simp only [bef, decide_eq_true_eq, decide_eq_false_iff_not] at h hk ⊢; omega

theorem ahd_in {n : Nat} {pr qt : Nat → Int} {c : Int} {i j : Nat} (hq : ∀ k, k < n → 0 ≤ qt k) (hj : j < n) (h : bef pr c i j = true) : ahd n pr qt (pr j) j + qt j ≤ ahd n pr qt c i := by
  rw [← ahd_step hj]
  exact sumIf_mono n hq (fun k _ hk => bef_tt h k hk)
theorem ahd_out {n : Nat} {pr qt : Nat → Int} {c : Int} {i j : Nat} (hq : ∀ k, k < n → 0 ≤ qt k) (h : bef pr c i j = false) : ahd n pr qt c i ≤ ahd n pr qt (pr j) j :=
  sumIf_mono n hq (fun k _ hk => bef_ff h k hk)
theorem ahd_all {n : Nat} {pr qt : Nat → Int} {c : Int} {i : Nat} (h : ∀ j, j < n → bef pr c i j = true) : ahd n pr qt c i = sumIf (fun _ => true) qt n := sumIf_congr n (fun k hk => h k hk)
theorem ahd_tot {n : Nat} {pr qt : Nat → Int} {c : Int} {i : Nat} (hq : ∀ k, k < n → 0 ≤ qt k) : ahd n pr qt c i ≤ sumIf (fun _ => true) qt n := sumIf_mono n hq (fun _ _ _ => rfl)

theorem bd_fin {n : Nat} {pr qt : Nat → Int} {blk : Nat → Nat} {b : Nat} {Q : Int} {ob : Ord} {c : Int} {i : Nat} {st : MS} (p : Par n pr qt blk) (hQ : 1 ≤ Q) (hk : ob.kind = 5) (bd : Bd n pr qt blk b Q ob c i st) (hs : stops b 1 st = true) : Fin n pr qt blk b Q ob st := by
  have hq : ∀ k, k < n → 0 ≤ qt k := fun k hk => by have := p.qlo k hk; omega
  have hA0 : 0 ≤ ahd n pr qt c i := sumIf_nonneg n hq
  have hcase : ahd n pr qt c i = Q ∨ ∀ j, j < n → bef pr c i j = true := by
    have hle := bd.le
    by_cases h : ahd n pr qt c i = Q
    · exact .inl h
    · right
      have hop : 0 < (st.om b).opn := by rw [bd.ob]; simp only; omega
      simp only [stops, Bool.or_eq_true, Bool.not_eq_true', decide_eq_false_iff_not] at hs
      rcases hs with hs | hs
      · exact absurd hop hs
      · have hn0 : st.B.n 1 = 0 := by
          by_cases e : st.B.n 1 = 0
          · exact e
          · exfalso
            have : firstG st.B st.om (askOf (st.om b)) 1 = some (st.B.h 1 0) := by
              unfold firstG
              rw [if_neg e]
              have hk' : (askOf (st.om b)).kind = 5 := by rw [bd.ob]; exact hk
              rw [if_pos (by unfold goodB; rw [if_pos hk'])]
            rw [this] at hs
            simp at hs
        intro j hj
        cases hb : bef pr c i j
        · exfalso
          obtain ⟨k, hk, _⟩ := (bd.mem (blk j)).2 ⟨j, hj, rfl, hb⟩
          omega
        · rfl
  refine ⟨⟨ahd n pr qt c i, hA0, ?_, bd.ob⟩, fun j hj => ?_, ?_⟩
  · rcases hcase with h | h
    · have := ahd_tot (pr := pr) (c := c) (i := i) hq; omega
    · have := ahd_all (qt := qt) h; have := bd.le; omega
  · rw [bd.om j hj]
    congr 1
    have := p.qlo j hj
    have hle := bd.le
    cases hb : bef pr c i j
    · rcases hcase with h | h
      · have := ahd_out hq hb
        simp only [Bool.false_eq_true, if_false]; omega
      · rw [h j hj] at hb; simp at hb
    · have := ahd_in hq hj hb
      simp only [if_true]; omega
  · rw [bd.tr]
    refine sumIf_congr n (fun j hj => ?_)
    have := p.qlo j hj
    have hle := bd.le
    cases hb : bef pr c i j
    · rcases hcase with h | h
      · have := ahd_out hq hb
        symm; simp; omega
      · rw [h j hj] at hb; simp at hb
    · have := ahd_in hq hj hb
      symm; simp; omega

theorem fill_sel {pr qt : Nat → Int} {j : Nat} {f q : Int} (h1 : 0 ≤ f) (h2 : 0 ≤ q) (h3 : f + q ≤ qt j) (h4 : qt j ≤ 1000) : fillO (selO pr qt j f) q = selO pr qt j (f + q) := by
  unfold fillO selO
  simp only
  rw [wrap64_id (by omega) (by omega), wrap64_id (by omega) (by omega)]
  congr 1; omega

theorem bd_step {n : Nat} {pr qt : Nat → Int} {blk : Nat → Nat} {b : Nat} {Q : Int} {ob : Ord} {c : Int} {i : Nat} {st : MS} (p : Par n pr qt blk) (hQ2 : Q ≤ 1000) (hown : ob.owner = 0) (hbb : ∀ j, j < n → blk j ≠ b) (bd : Bd n pr qt blk b Q ob c i st) (iv : Inv b 1 st) (hn : 0 < st.B.n 1) (hp : 0 < (st.om b).opn) :
    (∃ c' i', Bd n pr qt blk b Q ob c' i' (mstep b 1 st)) ∨ (Fin n pr qt blk b Q ob (mstep b 1 st) ∧ ((mstep b 1 st).om b).opn = 0) := by
  have hq : ∀ k, k < n → 0 ≤ qt k := fun k hk => by have := p.qlo k hk; omega
  have hA0 : 0 ≤ ahd n pr qt c i := sumIf_nonneg n hq
  obtain ⟨j, hj, hj0, hbj⟩ := (bd.mem (st.B.h 1 0)).1 ⟨0, hn, rfl⟩
  have hpre := pre_sel (n := n) (blk := blk) bd.om
  have hmemP : ∀ k, k < st.B.n 1 → ∃ j, j < n ∧ st.B.h 1 k = blk j := fun k hk => by
    obtain ⟨j, hj, e, _⟩ := (bd.mem _).1 ⟨k, hk, rfl⟩
    exact ⟨j, hj, e⟩
  have hmin := root_min hpre bd.heap hmemP
  -- j is the first of those that are left
  have hbe : ∀ k, k < n → bef pr c i k = bef pr (pr j) j k := by
    intro k hk
    cases h1 : bef pr c i k
    · symm
      obtain ⟨l, hl, e⟩ := (bd.mem (blk k)).2 ⟨k, hk, rfl, h1⟩
      have h2 := hmin l hl
      rw [← e, hj0] at h2
      unfold ltB at h2
      rw [bd.om k hk, bd.om j hj, lt_sel] at h2
      exact h2
    · exact (bef_ff hbj k h1).symm
  have hAe : ahd n pr qt c i = ahd n pr qt (pr j) j := sumIf_congr n hbe
  have hCe : cnt n pr c i = cnt n pr (pr j) j := sumIf_congr n hbe
  have hoj : st.om (blk j) = selO pr qt j 0 := by rw [bd.om j hj, hbj]; rfl
  have hopb : (st.om b).opn = Q - ahd n pr qt c i := by rw [bd.ob]
  have hlo := p.qlo j hj
  have hhi := p.qhi j hj
  have hne : blk j ≠ b := hbb j hj
  have hown2 : ¬ (st.om (st.B.h 1 0)).owner = (st.om b).owner := by
    rw [hj0, hoj, bd.ob]
    simp only [selO, hown]
    omega
  unfold mstep
  rw [if_neg hown2, hj0]
  obtain ⟨q, hqd⟩ : ∃ q, min (st.om b).opn (st.om (blk j)).opn = q := ⟨_, rfl⟩
  have hopj : (st.om (blk j)).opn = qt j := by rw [hoj]; simp only [selO]; omega
  have hq1 : q = min (Q - ahd n pr qt c i) (qt j) := by rw [← hqd, hopb, hopj]
  have tow : tradeOm st.om b (blk j) (blk j) = selO pr qt j q := by
    unfold tradeOm; rw [upd_same, hqd, hoj, fill_sel (by omega) (by omega) (by omega) hhi]
    congr 1; omega
  have tob : tradeOm st.om b (blk j) b = { ob with opn := Q - ahd n pr qt c i - q, filled := ahd n pr qt c i + q } := by
    unfold tradeOm; rw [upd_other _ _ hne.symm, upd_same, hqd, bd.ob]
    unfold fillO
    simp only
    have hA2 := bd.le
    rw [wrap64_id (by omega) (by omega), wrap64_id (by omega) (by omega)]
  have tot : ∀ k, k < n → k ≠ j → tradeOm st.om b (blk j) (blk k) = st.om (blk k) := fun k hk hkj => by
    unfold tradeOm; rw [upd_other _ _ (fun e => hkj (p.inj k j hk hj e)), upd_other _ _ (hbb k hk)]
  have hlt : ltB (tradeOm st.om b (blk j)) = ltB st.om := by
    unfold tradeOm
    rw [ltB_upd, ltB_upd]
    · rfl
    · rfl
    · rfl
    · rw [upd_other _ _ hne]; rfl
    · rw [upd_other _ _ hne]; rfl
    · rw [upd_other _ _ hne]; rfl
  have hwr : ∀ B' om' (G : Lg) t, G.tr = st.lg.tr → MS.tr ⟨B', om', G.addT t⟩ = cnt n pr (pr j) (j + 1) := by
    intro B' om' G t hG
    have e : MS.tr ⟨B', om', G.addT t⟩ = st.tr + 1 := by simp [MS.tr, Lg.addT, Lg.told, Lg.kept, Lg.noted, hG]
    rw [e, cnt_step hj, bd.tr, hCe]
  unfold tradeB
  rw [tow]
  by_cases hfull : qt j ≤ Q - ahd n pr qt c i
  · left
    have hqq : q = qt j := by omega
    have hz : (selO pr qt j q).opn = 0 := by simp only [selO]; omega
    rw [if_pos hz]
    refine ⟨pr j, j + 1, ?_, ?_, ?_, ?_, ?_, ?_⟩
    · rw [ahd_step hj]; omega
    · simp only; rw [tob, ahd_step hj, hqq, ← hAe]; congr 1; omega
    · intro k hk
      simp only
      by_cases e : k = j
      · subst e; rw [tow, bef_step, hqq]; simp
      · rw [tot k hk e, bd.om k hk, hbe k hk, bef_step, decide_eq_false e, Bool.or_false]
    · intro x
      simp only
      have h0 : Inj (st.B.n 1 - 1 + 1) (st.B.h 1) := by rw [show st.B.n 1 - 1 + 1 = st.B.n 1 by omega]; exact iv.inj
      have hm := mem_remove (lt := ltB (tradeOm st.om b (blk j))) (st.B.h 1) 0 (n := st.B.n 1 - 1) (by omega) (h0.remove (by omega)) x
      rw [show st.B.n 1 - 1 + 1 = st.B.n 1 by omega, hj0] at hm
      simp only [Bk.leave, upd_same]
      rw [hm, bd.mem x]
      constructor
      · rintro ⟨⟨k, hk, rfl, hb⟩, hne2⟩
        refine ⟨k, hk, rfl, ?_⟩
        have e : k ≠ j := fun e => hne2 (by rw [e])
        rw [bef_step, ← hbe k hk, hb, decide_eq_false e]; rfl
      · rintro ⟨k, hk, rfl, hb⟩
        rw [bef_step, ← hbe k hk] at hb
        simp only [Bool.or_eq_false_iff, decide_eq_false_iff_not] at hb
        exact ⟨⟨k, hk, rfl, hb.1⟩, fun e => hb.2 (p.inj k j hk hj e)⟩
    · simp only [Bk.leave, upd_same]
      rw [hlt]
      have hh := bd.heap
      rw [show st.B.n 1 = st.B.n 1 - 1 + 1 by omega] at hh
      exact remove_ok hpre _ 0 (by omega) (fun k hk => hmemP k (by omega)) hh
    · exact hwr _ _ _ _ (tradeG_tr _ _ _ _)
  · right
    have hqq : q = Q - ahd n pr qt c i := by omega
    have hz : ¬ (selO pr qt j q).opn = 0 := by simp only [selO]; omega
    rw [if_neg hz]
    have hT : Q ≤ sumIf (fun _ => true) qt n := by
      have := ahd_tot (pr := pr) (c := pr j) (i := j + 1) hq
      rw [ahd_step hj] at this
      omega
    refine ⟨⟨⟨Q, by omega, by omega, ?_⟩, fun k hk => ?_, ?_⟩, ?_⟩
    · simp only; rw [tob, hqq]; congr 1 <;> omega
    · simp only
      by_cases e : k = j
      · subst e; rw [tow]; congr 1; omega
      · rw [tot k hk e, bd.om k hk]
        congr 1
        have := p.qlo k hk
        cases hb : bef pr c i k
        · have hk1 : bef pr (pr j) (j + 1) k = false := by rw [bef_step, ← hbe k hk, hb, decide_eq_false e]; rfl
          have := ahd_out hq hk1
          rw [ahd_step hj] at this
          simp only [Bool.false_eq_true, if_false]; omega
        · have := ahd_in hq hk hb
          have := bd.le
          simp only [if_true]; omega
    · rw [hwr _ _ _ _ (tradeG_tr _ _ _ _)]
      refine sumIf_congr n (fun k hk => ?_)
      have := p.qlo k hk
      cases hb : bef pr (pr j) (j + 1) k
      · have := ahd_out hq hb
        rw [ahd_step hj] at this
        symm; simp; omega
      · have := ahd_in hq hk hb
        rw [ahd_step hj] at this
        by_cases e : k = j
        · subst e; symm; simp; omega
        · rw [bef_step, ← hbe k hk, decide_eq_false e, Bool.or_false] at hb
          have := ahd_in hq hk hb
          symm; simp; omega
    · simp only; rw [tob]; simp only; omega

theorem sweep {n : Nat} {pr qt : Nat → Int} {blk : Nat → Nat} {b : Nat} {Q : Int} {ob : Ord} (p : Par n pr qt blk) (hQ : 1 ≤ Q) (hQ2 : Q ≤ 1000) (hown : ob.owner = 0) (hk : ob.kind = 5) (hbb : ∀ j, j < n → blk j ≠ b) :
    ∀ (f : Nat) (st : MS) (c : Int) (i : Nat), Bd n pr qt blk b Q ob c i st → Inv b 1 st → mu b 1 st ≤ f → Fin n pr qt blk b Q ob (matchF b 1 f st) := by
  intro f
  induction f with
  | zero =>
    intro st c i bd iv hm
    show Fin n pr qt blk b Q ob st
    refine bd_fin p hQ hk bd ?_
    unfold mu at hm
    have : ¬ 0 < (st.om b).opn := by intro h; rw [if_pos h] at hm; omega
    simp [stops, this]
  | succ f ih =>
    intro st c i bd iv hm
    rw [matchF]
    split
    · rename_i hs
      exact bd_fin p hQ hk bd hs
    · rename_i hs
      obtain ⟨hn, hp⟩ := stops_false hs
      obtain ⟨iv', mu', _⟩ := mstep_ok iv hn hp
      rcases bd_step p hQ2 hown hbb bd iv hn hp with ⟨c', i', bd'⟩ | ⟨fin, h0⟩
      · exact ih _ c' i' bd' iv' (by omega)
      · rw [matchF_stop (by simp [stops, h0])]
        exact fin

#print axioms sweep
end Go.Proofs.YtigaphnafnpfnaaGreatDoor

