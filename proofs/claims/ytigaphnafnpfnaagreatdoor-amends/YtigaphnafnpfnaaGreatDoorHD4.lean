import Derived.Test.YtigaphnafnpfnaaGreatDoorHD2
import Derived.Test.YtigaphnafnpfnaaGreatDoorHC7
set_option linter.unusedVariables false
set_option linter.unusedSimpArgs false
namespace Go.Proofs.YtigaphnafnpfnaaGreatDoor
open Go.RowKit

/-- so many sellers wait -/
structure Sel (V : Ven) (i : Nat) (pr qt : Nat → Int) (blk : Nat → Nat) : Prop where
  nb : V.nb = 2
  sym : (V.B 0).sym = sA
  n0 : (V.B 0).n 0 = 0
  n1 : (V.B 0).n 1 = i
  oid : ∀ id : Int, V.oid id = if 1 ≤ id ∧ id ≤ i then some (blk (id - 1).toNat) else none
  no : V.no = i
  tr : V.tr = 0
  om : ∀ j, j < i → V.om (blk j) = selO pr qt j 0
  places : (V.B 0).places = i
  heap : HeapOK (ltB V.om) i ((V.B 0).h 1)
  mem : ∀ x, Mem i ((V.B 0).h 1) x ↔ ∃ j, j < i ∧ x = blk j
  tp : V.lg.tp.length = 0
  na : V.lg.na = i + 2

theorem Sel.inj {V : Ven} {i : Nat} {pr qt : Nat → Int} {blk : Nat → Nat} (h : Sel V i pr qt blk) : ∀ j k, j < i → k < i → blk j = blk k → j = k := by
  intro j k hj hk e
  have h1 := h.om j hj
  have h2 := h.om k hk
  rw [e, h2] at h1
  have : (selO pr qt k 0).id = (selO pr qt j 0).id := by rw [h1]
  simp only [selO] at this
  omega

theorem HeapOK.congr {lt lt' : Nat → Nat → Bool} {n : Nat} {h : Nat → Nat} (ok : HeapOK lt n h) (he : ∀ j k, j < n → k < n → lt' (h j) (h k) = lt (h j) (h k)) : HeapOK lt' n h := by
  intro k h0 hk
  rw [he k (par k) hk (by unfold par; omega)]
  exact ok k h0 hk

/-- a seller that comes -/
def sellA (i : Nat) (p q : Int) : Ask := ⟨(i : Int) + 1, 1 + (i : Int) % 9, sA, 1, (i : Int) % 2, p, q⟩
def ext {α : Type} (f : Nat → α) (i : Nat) (v : α) : Nat → α := fun k => if k = i then v else f k
theorem ext_same {α : Type} (f : Nat → α) (i : Nat) (v : α) : ext f i v i = v := by simp [ext]
theorem ext_lt {α : Type} (f : Nat → α) {i k : Nat} (v : α) (h : k < i) : ext f i v k = f k := by simp [ext, show k ≠ i by omega]

theorem mF_none {b s : Nat} {st : MS} (h : st.B.n s = 0) : mF b s st = st := by
  unfold mF
  refine matchF_stop ?_
  simp [stops, firstG, h]

theorem sell_rests {i : Nat} {p q : Int} (hq : 0 < q) : waitsB (newOrd (sellA i p q)) = true := by
  have h : (i : Int) % 2 = 0 ∨ (i : Int) % 2 = 1 := by omega
  unfold waitsB restsB newOrd sellA
  rcases h with h | h <;> simp [h, hq]

theorem Sel.step {V : Ven} {i : Nat} {pr qt : Nat → Int} {blk : Nat → Nat} (h : Sel V i pr qt blk) {b g cap' : Nat} {lm' : Lm} {p q : Int} (hb : ∀ j, j < i → blk j ≠ b) (hi : i < 100) (hq : 1 ≤ q) (_hq2 : q ≤ 1000) :
    Sel (V.enter 0 b 0 1 g cap' (sellA i p q) lm') (i + 1) (ext pr i p) (ext qt i q) (ext blk i b) ∧
      rep (newOrd (sellA i p q)) ((V.enter 0 b 0 1 g cap' (sellA i p q) lm').om b) V.tr (V.enter 0 b 0 1 g cap' (sellA i p q) lm').tr = repV 0 q 0 0 0 := by
  have hm : mF b 0 ⟨V.B 0, upd V.om b (newOrd (sellA i p q)), V.lg.opened (sellA i p q).id⟩ = ⟨V.B 0, upd V.om b (newOrd (sellA i p q)), V.lg.opened (sellA i p q).id⟩ := mF_none h.n0
  have hw : waitsB ((⟨V.B 0, upd V.om b (newOrd (sellA i p q)), V.lg.opened (sellA i p q).id⟩ : MS).om b) = true := by simp only [upd_same]; exact sell_rests (by omega)
  have hpl : wrap64 ((V.B 0).places + 1) = (i : Int) + 1 := by rw [h.places]; exact wrap64_id (by omega) (by omega)
  have hom : comeOm b ⟨V.B 0, upd V.om b (newOrd (sellA i p q)), V.lg.opened (sellA i p q).id⟩ = upd (upd V.om b (newOrd (sellA i p q))) b { newOrd (sellA i p q) with place := (i : Int) + 1 } := by
    unfold comeOm; rw [hw, if_pos rfl]; simp only [upd_same, hpl]
  have homb : comeOm b ⟨V.B 0, upd V.om b (newOrd (sellA i p q)), V.lg.opened (sellA i p q).id⟩ b = selO (ext pr i p) (ext qt i q) i 0 := by
    rw [hom, upd_same]
    simp only [newOrd, sellA, selO, ext_same, sA]
    congr 1; omega
  have homj : ∀ j, j < i → comeOm b ⟨V.B 0, upd V.om b (newOrd (sellA i p q)), V.lg.opened (sellA i p q).id⟩ (blk j) = selO (ext pr i p) (ext qt i q) j 0 := fun j hj => by
    rw [hom, upd_other _ _ (hb j hj), upd_other _ _ (hb j hj), h.om j hj]
    simp only [selO, ext_lt _ _ hj]
  have homall : ∀ j, j < i + 1 → comeOm b ⟨V.B 0, upd V.om b (newOrd (sellA i p q)), V.lg.opened (sellA i p q).id⟩ (ext blk i b j) = selO (ext pr i p) (ext qt i q) j 0 := fun j hj => by
    by_cases e : j = i
    · subst e; rw [ext_same]; exact homb
    · rw [ext_lt _ _ (by omega)]; exact homj j (by omega)
  have hB : comeB b 1 g cap' ⟨V.B 0, upd V.om b (newOrd (sellA i p q)), V.lg.opened (sellA i p q).id⟩ = (V.B 0).rest (comeOm b ⟨V.B 0, upd V.om b (newOrd (sellA i p q)), V.lg.opened (sellA i p q).id⟩) 1 b g cap' := by
    unfold comeB; rw [hw, if_pos rfl]
  have hpre := pre_sel (n := i + 1) (blk := ext blk i b) (f := fun _ => 0) homall
  have hold : HeapOK (ltB (comeOm b ⟨V.B 0, upd V.om b (newOrd (sellA i p q)), V.lg.opened (sellA i p q).id⟩)) i ((V.B 0).h 1) := by
    refine h.heap.congr (fun j k hj hk => ?_)
    obtain ⟨j', hj', e1⟩ := (h.mem _).1 ⟨j, hj, rfl⟩
    obtain ⟨k', hk', e2⟩ := (h.mem _).1 ⟨k, hk, rfl⟩
    unfold ltB
    rw [e1, e2, homj j' hj', homj k' hk', h.om j' hj', h.om k' hk', lt_sel, lt_sel, ext_lt _ _ hj', ext_lt _ _ hk']
  refine ⟨⟨h.nb, ?_, ?_, ?_, ?_, ?_, ?_, ?_, ?_, ?_, ?_, by simp only [Ven.enter]; rw [hm]; exact h.tp, by simp only [Ven.enter]; rw [hm]; show V.lg.na + 1 = _; rw [h.na]⟩, ?_⟩
  · simp only [Ven.enter, upd_same]; rw [hm, hB]; exact h.sym
  · simp only [Ven.enter, upd_same]; rw [hm, hB]; simp only [Bk.rest]; rw [upd_other _ _ (by omega)]; exact h.n0
  · simp only [Ven.enter, upd_same]; rw [hm, hB]; simp only [Bk.rest, upd_same]; rw [h.n1]
  · intro id
    simp only [Ven.enter]
    by_cases e : id = (sellA i p q).id
    · rw [if_pos e]
      simp only [sellA] at e
      rw [if_pos (by omega)]
      congr 1
      rw [show (id - 1).toNat = i by omega, ext_same]
    · rw [if_neg e, h.oid id]
      simp only [sellA] at e
      by_cases h2 : 1 ≤ id ∧ id ≤ (i : Int)
      · rw [if_pos h2, if_pos (by omega), ext_lt _ _ (by omega)]
      · rw [if_neg h2, if_neg (by omega)]
  · simp only [Ven.enter]; rw [h.no]
  · show ((Ven.enter V 0 b 0 1 g cap' (sellA i p q) lm').lg.tr.length : Int) = 0; simp only [Ven.enter]; rw [hm]; exact h.tr
  · intro j hj
    simp only [Ven.enter]; rw [hm]; exact homall j hj
  · simp only [Ven.enter, upd_same]; rw [hm, hB]; simp only [Bk.rest]; rw [hpl]; push_cast; rfl
  · simp only [Ven.enter, upd_same]; rw [hm, hB]; simp only [Bk.rest, upd_same]
    rw [h.n1]
    refine push_ok hpre _ _ ⟨i, by omega, (ext_same _ _ _).symm⟩ (fun k hk => ?_) hold
    obtain ⟨j, hj, e⟩ := (h.mem _).1 ⟨k, hk, rfl⟩
    exact ⟨j, by omega, by rw [ext_lt _ _ hj]; exact e⟩
  · intro x
    simp only [Ven.enter, upd_same]; rw [hm, hB]; simp only [Bk.rest, upd_same]
    rw [h.n1, mem_push, h.mem x]
    constructor
    · rintro (⟨j, hj, e⟩ | e)
      · exact ⟨j, by omega, by rw [ext_lt _ _ hj]; exact e⟩
      · exact ⟨i, by omega, by rw [ext_same]; exact e⟩
    · rintro ⟨j, hj, e⟩
      by_cases e2 : j = i
      · subst e2; rw [ext_same] at e; exact .inr e
      · rw [ext_lt _ _ (by omega)] at e; exact .inl ⟨j, by omega, e⟩
  · simp only [Ven.enter, Ven.tr]
    rw [hm]
    change rep _ _ V.tr V.tr = _
    rw [homb, h.tr]
    unfold rep
    rw [if_neg (by omega)]
    simp only [newOrd, sellA, selO, ext_same]
    rw [show (0 : Int) - 0 = 0 by omega, wrap64_id (x := 0) (by omega) (by omega)]
    congr 1; omega

/-- the buyer -/
def buyA (Q : Int) : Ask := ⟨500, 0, sA, 0, 5, 0, Q⟩

theorem Sel.buy {V : Ven} {n : Nat} {pr qt : Nat → Int} {blk : Nat → Nat} (h : Sel V n pr qt blk) {b g cap' : Nat} {lm' : Lm} {Q : Int} (hb : ∀ j, j < n → blk j ≠ b) (hn1 : 1 ≤ n) (hn2 : n ≤ 100) (hq : ∀ j, j < n → 1 ≤ qt j) (hq2 : ∀ j, j < n → qt j ≤ 1000) (hpr : ∀ j, j < n → 100 ≤ pr j) (hQ : 1 ≤ Q) (hQ2 : Q ≤ 1000) (iv : Inv b 1 ⟨V.B 0, upd V.om b (newOrd (buyA Q)), V.lg.opened (buyA Q).id⟩) :
    (∀ id : Int, 1 ≤ id → id ≤ n → (V.enter 0 b 1 0 g cap' (buyA Q) lm').oid id = some (blk (id - 1).toNat)) ∧
    (∀ j, j < n → (V.enter 0 b 1 0 g cap' (buyA Q) lm').om (blk j) = selO pr qt j (min (qt j) (max 0 (Q - ahd n pr qt (pr j) j)))) ∧
    rep (newOrd (buyA Q)) ((V.enter 0 b 1 0 g cap' (buyA Q) lm').om b) V.tr (V.enter 0 b 1 0 g cap' (buyA Q) lm').tr =
      repV (min Q (sumIf (fun _ => true) qt n)) 0 (Q - min Q (sumIf (fun _ => true) qt n)) 1 (sumIf (fun j => decide (ahd n pr qt (pr j) j < Q)) (fun _ => 1) n) := by
  have hq0 : ∀ k, k < n → 0 ≤ qt k := fun k hk => by have := hq k hk; omega
  have p : Par n pr qt blk := ⟨hq, hq2, h.inj, by omega⟩
  have hbf : ∀ j, j < n → bef pr 100 0 j = false := fun j hj => by
    have := hpr j hj
    simp only [bef, decide_eq_false_iff_not]; omega
  have hzero : ∀ q : Nat → Int, ∀ m, m ≤ n → sumIf (bef pr 100 0) q m = 0 := by
    intro q m
    induction m with
    | zero => intro _; rfl
    | succ m ih => intro hm; rw [sumIf, ih (by omega), hbf m (by omega)]; rfl
  have hom : ∀ j, j < n → upd V.om b (newOrd (buyA Q)) (blk j) = selO pr qt j 0 := fun j hj => by rw [upd_other _ _ (hb j hj)]; exact h.om j hj
  have bd : Bd n pr qt blk b Q (newOrd (buyA Q)) 100 0 ⟨V.B 0, upd V.om b (newOrd (buyA Q)), V.lg.opened (buyA Q).id⟩ := by
    have a0 : ahd n pr qt 100 0 = 0 := hzero qt n (Nat.le_refl _)
    refine ⟨by omega, ?_, fun j hj => ?_, fun x => ?_, ?_, ?_⟩
    · simp only [upd_same]; rw [a0]; simp only [newOrd, buyA]; congr 1; omega
    · simp only; rw [hom j hj, hbf j hj]; rfl
    · simp only; rw [h.n1, h.mem x]
      constructor
      · rintro ⟨j, hj, e⟩; exact ⟨j, hj, e, hbf j hj⟩
      · rintro ⟨j, hj, e, _⟩; exact ⟨j, hj, e⟩
    · simp only; rw [h.n1]
      refine h.heap.congr (fun j k hj hk => ?_)
      obtain ⟨j', hj', e1⟩ := (h.mem _).1 ⟨j, hj, rfl⟩
      obtain ⟨k', hk', e2⟩ := (h.mem _).1 ⟨k, hk, rfl⟩
      unfold ltB
      rw [e1, e2, hom j' hj', hom k' hk', h.om j' hj', h.om k' hk']
    · show V.tr = _; rw [h.tr]; exact (hzero _ n (Nat.le_refl _)).symm
  have fin := sweep p hQ hQ2 rfl rfl hb _ _ 100 0 bd iv (Nat.le_refl _)
  change Fin n pr qt blk b Q (newOrd (buyA Q)) (mF b 1 ⟨V.B 0, upd V.om b (newOrd (buyA Q)), V.lg.opened (buyA Q).id⟩) at fin
  obtain ⟨⟨R, hR0, hR, hob⟩, hsel, htr⟩ := fin
  have hRQ : R ≤ Q := by omega
  simp only [Ven.enter]
  generalize mF b 1 ⟨V.B 0, upd V.om b (newOrd (buyA Q)), V.lg.opened (buyA Q).id⟩ = st1 at *
  have hw : waitsB (st1.om b) = false := by rw [hob]; simp [waitsB, restsB, newOrd, buyA]
  have hcb : comeOm b st1 b = { newOrd (buyA Q) with opn := 0, filled := R, canc := Q - R } := by
    unfold comeOm
    rw [hw]
    simp only [Bool.false_eq_true, if_false, upd_same]
    rw [hob]
    unfold cancO
    simp only [newOrd, buyA]
    rw [wrap64_id (by omega) (by omega)]
    congr 1; omega
  -- there is a trade
  have hpos : 1 ≤ sumIf (fun j => decide (ahd n pr qt (pr j) j < Q)) (fun _ => 1) n ∧ sumIf (fun j => decide (ahd n pr qt (pr j) j < Q)) (fun _ => 1) n ≤ (n : Int) := by
    have up : ∀ m, sumIf (fun j => decide (ahd n pr qt (pr j) j < Q)) (fun _ => 1) m ≤ (m : Int) := by
      intro m
      induction m with
      | zero => simp [sumIf]
      | succ m ih => rw [sumIf]; split <;> push_cast <;> omega
    refine ⟨?_, up n⟩
    -- the first of all
    obtain ⟨j, hj, hmin⟩ : ∃ j, j < n ∧ ∀ k, k < n → bef pr (pr j) j k = false := by
      have h0 : 0 < n := by omega
      have hm := root_min (pre_sel (n := n) (blk := blk) (f := fun _ => 0) h.om) h.heap (fun k hk => (h.mem _).1 ⟨k, hk, rfl⟩)
      obtain ⟨j, hj, e⟩ := (h.mem _).1 ⟨0, h0, rfl⟩
      refine ⟨j, hj, fun k hk => ?_⟩
      obtain ⟨l, hl, e2⟩ := (h.mem _).2 ⟨k, hk, rfl⟩
      have := hm l hl
      rw [← e2, e] at this
      unfold ltB at this
      rw [h.om k hk, h.om j hj, lt_sel] at this
      exact this
    have hz : ahd n pr qt (pr j) j = 0 := by
      unfold ahd
      have : ∀ m, m ≤ n → sumIf (bef pr (pr j) j) qt m = 0 := by
        intro m
        induction m with
        | zero => intro _; rfl
        | succ m ih => intro hm; rw [sumIf, ih (by omega), hmin m (by omega)]; rfl
      exact this n (Nat.le_refl _)
    have one : ∀ m, j < m → 1 ≤ sumIf (fun j => decide (ahd n pr qt (pr j) j < Q)) (fun _ => 1) m := by
      intro m
      induction m with
      | zero => intro h; omega
      | succ m ih =>
        intro hm
        rw [sumIf]
        by_cases e : m = j
        · subst e
          have h1 : 0 ≤ sumIf (fun j => decide (ahd n pr qt (pr j) j < Q)) (fun _ => 1) m := sumIf_nonneg m (fun _ _ => by omega)
          rw [hz, if_pos (by simp; omega)]
          omega
        · have := ih (by omega)
          split <;> omega
    exact one n hj
  refine ⟨fun id h1 h2 => ?_, fun j hj => ?_, ?_⟩
  · rw [if_neg (by simp only [buyA]; omega), h.oid id, if_pos ⟨h1, h2⟩]
  · rw [comeOm_far _ _ (hb j hj)]; exact hsel j hj
  · have htr' : ((st1.lg.tr.length : Nat) : Int) = sumIf (fun j => decide (ahd n pr qt (pr j) j < Q)) (fun x => 1) n := htr
    simp only [Ven.tr]
    change rep _ _ V.tr _ = _
    rw [h.tr, hcb, comeG_tr, htr']
    unfold rep
    rw [if_pos (by omega)]
    simp only [newOrd, buyA]
    rw [wrap64_id (by omega) (by omega), wrap64_id (by omega) (by omega), wrap64_id (by omega) (by omega), wrap64_id (by omega) (by omega), ← hR]
    congr 1 <;> omega

#print axioms Sel.buy
end Go.Proofs.YtigaphnafnpfnaaGreatDoor

