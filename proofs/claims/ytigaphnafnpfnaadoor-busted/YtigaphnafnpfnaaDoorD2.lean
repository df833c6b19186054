import Derived.Test.YtigaphnafnpfnaaDoorC4
set_option linter.unusedVariables false
set_option linter.unusedSimpArgs false
/- The sweep, without the program. -/
namespace Go.Proofs.YtigaphnafnpfnaaDoor
open Go.RowKit

def sumIf (p : Nat → Bool) (q : Nat → Int) : Nat → Int
  | 0 => 0
  | k + 1 => sumIf p q k + if p k then q k else 0

theorem sumIf_congr {p p' : Nat → Bool} {q : Nat → Int} : ∀ n, (∀ k, k < n → p k = p' k) → sumIf p q n = sumIf p' q n
  | 0, _ => rfl
  | k + 1, h => by rw [sumIf, sumIf, sumIf_congr k (fun j hj => h j (by omega)), h k (by omega)]

theorem sumIf_add {p p' : Nat → Bool} {q : Nat → Int} {j : Nat} (hp : p j = false) : ∀ n, j < n → (∀ k, k < n → p' k = (p k || decide (k = j))) → sumIf p' q n = sumIf p q n + q j
  | 0, h, _ => by omega
  | k + 1, h, he => by
    rw [sumIf, sumIf, he k (by omega)]
    by_cases e : k = j
    · subst e
      rw [hp, sumIf_congr (p := p') (p' := p) k (fun i hi => by rw [he i (by omega), decide_eq_false (by omega), Bool.or_false])]
      simp
    · rw [sumIf_add hp k (by omega) (fun i hi => he i (by omega)), decide_eq_false e, Bool.or_false]
      omega

theorem sumIf_mono {p p' : Nat → Bool} {q : Nat → Int} : ∀ n, (∀ k, k < n → 0 ≤ q k) → (∀ k, k < n → p k = true → p' k = true) → sumIf p q n ≤ sumIf p' q n
  | 0, _, _ => Int.le_refl _
  | k + 1, hq, h => by
    have ih := sumIf_mono (p := p) (p' := p') k (fun j hj => hq j (by omega)) (fun j hj => h j (by omega))
    have h1 := hq k (by omega)
    have h2 := h k (by omega)
    rw [sumIf, sumIf]
    cases hp : p k <;> cases hp' : p' k <;> simp [hp, hp'] at h2 ⊢ <;> omega

theorem sumIf_nonneg {p : Nat → Bool} {q : Nat → Int} : ∀ n, (∀ k, k < n → 0 ≤ q k) → 0 ≤ sumIf p q n
  | 0, _ => Int.le_refl _
  | k + 1, hq => by
    have ih := sumIf_nonneg (p := p) k (fun j hj => hq j (by omega))
    have h1 := hq k (by omega)
    rw [sumIf]; split <;> omega

/-- does order k come ahead of the place (c, i)? -/
def bef (pr : Nat → Int) (c : Int) (i k : Nat) : Bool := decide (pr k < c ∨ (pr k = c ∧ k < i))

/-- so much lies ahead of (c, i) -/
def ahd (n : Nat) (pr qt : Nat → Int) (c : Int) (i : Nat) : Int := sumIf (bef pr c i) qt n
def cnt (n : Nat) (pr : Nat → Int) (c : Int) (i : Nat) : Int := sumIf (bef pr c i) (fun _ => 1) n

theorem bef_step {pr : Nat → Int} {j : Nat} (k : Nat) : bef pr (pr j) (j + 1) k = (bef pr (pr j) j k || decide (k = j)) := by
  unfold bef
  by_cases e : k = j
  · subst e; simp
  · simp only [e, decide_false, Bool.or_false]
    congr 1
    apply propext
    constructor
    · rintro (h | ⟨h1, h2⟩)
      · exact .inl h
      · exact .inr ⟨h1, by omega⟩
    · rintro (h | ⟨h1, h2⟩)
      · exact .inl h
      · exact .inr ⟨h1, by omega⟩
theorem bef_self (pr : Nat → Int) (j : Nat) : bef pr (pr j) j j = false := by unfold bef; simp

theorem ahd_step {n : Nat} {pr qt : Nat → Int} {j : Nat} (hj : j < n) : ahd n pr qt (pr j) (j + 1) = ahd n pr qt (pr j) j + qt j := sumIf_add (bef_self pr j) n hj (fun k _ => bef_step k)
theorem cnt_step {n : Nat} {pr : Nat → Int} {j : Nat} (hj : j < n) : cnt n pr (pr j) (j + 1) = cnt n pr (pr j) j + 1 := sumIf_add (bef_self pr j) n hj (fun k _ => bef_step k)

/-- the orders of the sweep -/
def selO (pr qt : Nat → Int) (j : Nat) (f : Int) : Ord := ⟨(j : Int) + 1, 1 + (j : Int) % 9, ⟨#[65]⟩, 1, (j : Int) % 2, pr j, qt j, qt j, qt j - f, f, 0, 0, (j : Int) + 1⟩

structure Par (n : Nat) (pr qt : Nat → Int) (blk : Nat → Nat) : Prop where
  qlo : ∀ j, j < n → 1 ≤ qt j
  qhi : ∀ j, j < n → qt j ≤ 1000
  inj : ∀ j k, j < n → k < n → blk j = blk k → j = k
  small : n ≤ 1000

theorem lt_sel {pr qt : Nat → Int} {j k : Nat} {f g : Int} : lessB (selO pr qt j f) (selO pr qt k g) = decide (pr j < pr k ∨ (pr j = pr k ∧ j < k)) := by
  unfold lessB rankI orI cmpI selO
  simp only
  congr 1
  apply propext
  split <;> split <;> (try split) <;> (try split) <;> (try split) <;> (try split) <;> omega

/-- all ahead of (c, i) are filled whole, the others not at all -/
structure Bd (n : Nat) (pr qt : Nat → Int) (blk : Nat → Nat) (b : Nat) (Q : Int) (ob : Ord) (c : Int) (i : Nat) (st : MS) : Prop where
  le : ahd n pr qt c i ≤ Q
  ob : st.om b = { ob with opn := Q - ahd n pr qt c i, filled := ahd n pr qt c i }
  om : ∀ j, j < n → st.om (blk j) = selO pr qt j (if bef pr c i j then qt j else 0)
  mem : ∀ x, Mem (st.B.n 1) (st.B.h 1) x ↔ ∃ j, j < n ∧ x = blk j ∧ bef pr c i j = false
  heap : HeapOK (ltB st.om) (st.B.n 1) (st.B.h 1)
  tr : st.tr = cnt n pr c i

/-- what comes of it -/
structure Fin (n : Nat) (pr qt : Nat → Int) (blk : Nat → Nat) (b : Nat) (Q : Int) (ob : Ord) (st : MS) : Prop where
  ob : ∃ R, 0 ≤ R ∧ R = min Q (sumIf (fun _ => true) qt n) ∧ st.om b = { ob with opn := Q - R, filled := R }
  om : ∀ j, j < n → st.om (blk j) = selO pr qt j (min (qt j) (max 0 (Q - ahd n pr qt (pr j) j)))
  tr : st.tr = sumIf (fun j => decide (ahd n pr qt (pr j) j < Q)) (fun _ => 1) n

theorem pre_sel {n : Nat} {pr qt : Nat → Int} {blk : Nat → Nat} {om : Nat → Ord} {f : Nat → Int} (h : ∀ j, j < n → om (blk j) = selO pr qt j (f j)) : Pre (ltB om) (fun x => ∃ j, j < n ∧ x = blk j) := by
  refine ⟨?_, ?_, ?_⟩
  · rintro x y ⟨j, hj, rfl⟩ ⟨k, hk, rfl⟩ h1
    unfold ltB at h1 ⊢
    rw [h j hj, h k hk, lt_sel] at *
    simp only [decide_eq_true_eq, decide_eq_false_iff_not] at h1 ⊢
    omega
  · rintro x y z ⟨j, hj, rfl⟩ ⟨k, hk, rfl⟩ ⟨l, hl, rfl⟩ h1 h2
    unfold ltB at h1 h2 ⊢
    rw [h k hk, h j hj, lt_sel] at h1
    rw [h l hl, h k hk, lt_sel] at h2
    rw [h l hl, h j hj, lt_sel]
    simp only [decide_eq_false_iff_not] at h1 h2 ⊢
    omega
  · rintro x ⟨j, hj, rfl⟩
    unfold ltB
    rw [h j hj, lt_sel]
    simp

end Go.Proofs.YtigaphnafnpfnaaDoor
