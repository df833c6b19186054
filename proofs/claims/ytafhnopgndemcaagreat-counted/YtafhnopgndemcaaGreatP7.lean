/- What is open of a side is what its book has. Without memory. -/
import Derived.Test.YtafhnopgndemcaaGreatP5
set_option linter.unusedVariables false
set_option linter.unusedSimpArgs false
namespace Go.Proofs.YtafhnopgndemcaaGreat
open Go.RowKit

/-- which of the four sides an order is of -/
def sideK (o : Ord) : Nat := o.side.toNat + (if o.sym = sG then 2 else 0)

/-- what is open of side k, of the first i orders -/
def openS (V : Ven) (k : Nat) : Nat → Int
  | 0 => 0
  | i + 1 => openS V k i + (if sideK (V.om (ob V i)) = k then (V.om (ob V i)).opn else 0)

theorem perm_of_same {l₁ l₂ : List Nat} (h1 : l₁.Nodup) (h2 : l₂.Nodup) (h : ∀ a, a ∈ l₁ ↔ a ∈ l₂) : l₁.Perm l₂ := by
  induction l₁ generalizing l₂ with
  | nil =>
    have : l₂ = [] := by
      cases l₂ with
      | nil => rfl
      | cons x l => exact absurd ((h x).2 (by simp)) (by simp)
    rw [this]
  | cons x l ih =>
    have hx : x ∈ l₂ := (h x).1 (by simp)
    rw [List.nodup_cons] at h1
    have hp := List.perm_cons_erase hx
    refine List.Perm.trans (List.Perm.cons x (ih h1.2 (h2.erase x) (fun a => ?_))) hp.symm
    rw [h2.mem_erase_iff]
    constructor
    · intro ha
      exact ⟨fun e => h1.1 (e ▸ ha), (h a).1 (by simp [ha])⟩
    · rintro ⟨hne, ha⟩
      have := (h a).2 ha
      simp only [List.mem_cons] at this
      exact this.resolve_left hne

theorem openS_list (V : Ven) (k : Nat) : ∀ i, openS V k i = sumL ((((List.range i).filter (fun j => decide (sideK (V.om (ob V j)) = k ∧ (V.om (ob V j)).opn ≠ 0))).map (fun j => ob V j)).map (fun x => (V.om x).opn)) := by
  intro i
  induction i with
  | zero => rfl
  | succ i ih =>
    rw [openS, ih, List.range_succ, List.filter_append, List.map_append, List.map_append, sumL_append]
    congr 1
    by_cases e : sideK (V.om (ob V i)) = k
    · by_cases e0 : (V.om (ob V i)).opn = 0
      · simp [e, e0, sumL]
      · simp [e, e0, sumL]
    · simp [e, sumL]

theorem sideK_iff {o : Ord} {k : Nat} (hk : k < 4) (hs : o.side = 0 ∨ o.side = 1) (hy : o.sym = sA ∨ o.sym = sG) : sideK o = k ↔ (o.sym = symN (k / 2) ∧ o.side = ((k % 2 : Nat) : Int)) := by
  unfold sideK symN
  have hne := sym_ne
  have : k = 0 ∨ k = 1 ∨ k = 2 ∨ k = 3 := by omega
  rcases hs with hs | hs <;> rcases hy with hy | hy <;> rw [hs, hy] <;> rcases this with rfl | rfl | rfl | rfl <;> simp [hne, Ne.symm hne]

/-- the sums are the same -/
theorem openS_book {V : Ven} {n : Nat} {M : Int} (h : GV V n M) (hid : ∀ id x, V.oid id = some x → (V.om x).id = id) {k : Nat} (hk : k < 4) : openS V k n = sumL ((upto ((V.B (k / 2)).h (k % 2)) ((V.B (k / 2)).n (k % 2))).map (fun x => (V.om x).opn)) := by
  have hi : k / 2 < 2 := by omega
  have hs : k % 2 < 2 := by omega
  rw [openS_list]
  refine sumL_perm (List.Perm.map _ (perm_of_same ?_ ?_ (fun x => ?_)))
  · refine List.Pairwise.map _ (R := fun a b => a ≠ b ∧ a < n ∧ b < n) (fun a b hab e => hab.1 ?_) ?_
    · have ea := h.ob hab.2.1
      have eb := h.ob hab.2.2
      rw [e, ← eb] at ea
      have e1 := hid _ _ (h.ob hab.2.2)
      have e2 := hid _ _ (by rw [ea]; exact h.ob hab.2.2 : V.oid ((a : Int) + 1) = some (ob V b))
      omega
    · refine List.Pairwise.filter _ ?_
      rw [List.pairwise_iff_getElem]
      intro a b ha hb hab
      simp only [List.length_range] at ha hb
      simp only [List.getElem_range]
      omega
  · unfold upto
    refine List.Pairwise.map _ (R := fun a b => a ≠ b ∧ a < (V.B (k / 2)).n (k % 2) ∧ b < (V.B (k / 2)).n (k % 2)) (fun a b hab e => hab.1 ((h.gb _ hi).inj _ hs a b hab.2.1 hab.2.2 e)) ?_
    rw [List.pairwise_iff_getElem]
    intro a b ha hb hab
    simp only [List.length_range] at ha hb
    simp only [List.getElem_range]
    omega
  · have hm := (h.gb _ hi).mem _ hs x
    constructor
    · intro hx
      simp only [List.mem_map, List.mem_filter, List.mem_range, decide_eq_true_eq] at hx
      obtain ⟨j, ⟨hj, hk', ho⟩, rfl⟩ := hx
      have hv : VL V (ob V j) := ⟨_, h.ob hj⟩
      obtain ⟨a, b⟩ := (sideK_iff hk (h.side _ hv) (h.sym _ hv)).1 hk'
      obtain ⟨l, hl, e⟩ := hm.2 ⟨hv, a, b, by have := (h.q _ hv).o0; omega⟩
      simp only [upto, List.mem_map, List.mem_range]
      exact ⟨l, hl, e.symm⟩
    · intro hx
      simp only [upto, List.mem_map, List.mem_range] at hx
      obtain ⟨l, hl, e⟩ := hx
      obtain ⟨⟨id, hv⟩, a, b, c⟩ := hm.1 ⟨l, hl, e.symm⟩
      have hr := (h.oid id).1 ⟨x, hv⟩
      simp only [List.mem_map, List.mem_filter, List.mem_range, decide_eq_true_eq]
      refine ⟨(id - 1).toNat, ?_⟩
      have ej : (((id - 1).toNat : Nat) : Int) + 1 = id := by omega
      have eo : ob V (id - 1).toNat = x := by
        have := h.ob (j := (id - 1).toNat) (by omega)
        rw [ej, hv] at this
        exact (Option.some.inj this).symm
      rw [eo]
      exact ⟨⟨by omega, (sideK_iff hk (h.side x ⟨id, hv⟩) (h.sym x ⟨id, hv⟩)).2 ⟨a, b⟩, by omega⟩, rfl⟩

theorem openS_bound {V : Ven} {n : Nat} {M : Int} (h : GV V n M) (hM : M ≤ 1000000) {k : Nat} : ∀ i, i ≤ n → 0 ≤ openS V k i ∧ openS V k i ≤ 1000000 * i := by
  intro i
  induction i with
  | zero => intro _; simp [openS]
  | succ i ih =>
    intro hi
    have h1 := ih (by omega)
    have q := h.q _ ⟨_, h.ob (j := i) (by omega)⟩
    have := q.sum; have := q.o0; have := q.f0; have := q.c0; have := q.e0; have := q.hi
    rw [openS]
    push_cast
    split <;> omega

end Go.Proofs.YtafhnopgndemcaaGreat
