import Derived.Test.YtigaphnafnpfnaaDoorA6
set_option linter.unusedVariables false
set_option linter.unusedSimpArgs false
/- The heap, without the program: what up, down and Remove make of it. -/
namespace Go.Proofs.YtigaphnafnpfnaaDoor

/-- on the things of P lt is a strict order whose 'not less' goes on -/
structure Pre (lt : Nat → Nat → Bool) (P : Nat → Prop) : Prop where
  asym : ∀ x y, P x → P y → lt x y = true → lt y x = false
  trans : ∀ x y z, P x → P y → P z → lt y x = false → lt z y = false → lt z x = false
  irr : ∀ x, P x → lt x x = false

def par (k : Nat) : Nat := (k - 1) / 2

def HeapOK (lt : Nat → Nat → Bool) (n : Nat) (h : Nat → Nat) : Prop := ∀ k, 0 < k → k < n → lt (h k) (h (par k)) = false

theorem root_min {lt : Nat → Nat → Bool} {P : Nat → Prop} (pre : Pre lt P) {n : Nat} {h : Nat → Nat} (ok : HeapOK lt n h) (hP : ∀ k, k < n → P (h k)) : ∀ k, k < n → lt (h k) (h 0) = false := by
  intro k
  induction k using Nat.strongRecOn with
  | _ k ih =>
    intro hk
    by_cases h0 : k = 0
    · subst h0; exact pre.irr _ (hP 0 hk)
    · have hp : par k < k := by unfold par; omega
      exact pre.trans (h 0) (h (par k)) (h k) (hP 0 (by omega)) (hP _ (by omega)) (hP k hk) (ih (par k) hp (by omega)) (ok k (by omega) hk)

def ExcU (lt : Nat → Nat → Bool) (n : Nat) (h : Nat → Nat) (j : Nat) : Prop :=
  (∀ k, 0 < k → k < n → k ≠ j → lt (h k) (h (par k)) = false) ∧ (∀ c, 0 < c → c < n → par c = j → 0 < j → lt (h c) (h (par j)) = false)

theorem sw_l (h : Nat → Nat) (i j : Nat) : sw h i j i = h j := by unfold sw; rw [if_pos rfl]
theorem sw_r (h : Nat → Nat) (i j : Nat) : sw h i j j = h i := by
  unfold sw
  split
  · rename_i e; rw [e]
  · rw [if_pos rfl]

theorem swP {P : Nat → Prop} {n : Nat} {h : Nat → Nat} (hP : ∀ k, k < n → P (h k)) {i j : Nat} (hi : i < n) (hj : j < n) : ∀ k, k < n → P (sw h i j k) := by
  intro k hk
  unfold sw
  split
  · exact hP j hj
  · split
    · exact hP i hi
    · exact hP k hk

theorem up_ok {lt : Nat → Nat → Bool} {P : Nat → Prop} (pre : Pre lt P) {n : Nat} (h : Nat → Nat) (j : Nat) (hP : ∀ k, k < n → P (h k)) (hj : j < n) (ex : ExcU lt n h j) : HeapOK lt n (upF lt h j) := by
  fun_induction upF lt h j with
  | case1 h => exact fun k h0 hk => ex.1 k h0 hk (by omega)
  | case3 h j hj0 hl =>
    intro k h0 hk
    by_cases e : k = j
    · subst e; simpa [par] using hl
    · exact ex.1 k h0 hk e
  | case2 h j hj0 hl ih =>
    have hp : (j - 1) / 2 < j := by omega
    have hpj : par j = (j - 1) / 2 := rfl
    have hlt := pre.asym _ _ (hP j hj) (hP _ (by omega)) hl
    refine ih (swP hP (by omega) hj) (by omega) ⟨?_, ?_⟩
    · intro k h0 hk hne
      by_cases e1 : k = j
      · subst e1
        rw [hpj, sw_r, sw_l]
        exact hlt
      · rw [sw_far hne e1]
        by_cases e2 : par k = (j - 1) / 2
        · rw [e2, sw_l]
          have := ex.1 k h0 hk e1
          rw [e2] at this
          exact pre.trans _ _ _ (hP j hj) (hP _ (by omega)) (hP k hk) hlt this
        · by_cases e3 : par k = j
          · rw [e3, sw_r]
            exact ex.2 k h0 hk e3 (by omega)
          · rw [sw_far e2 e3]
            exact ex.1 k h0 hk e1
    · intro c h0 hc hpc hp0
      have hpp : par ((j - 1) / 2) < (j - 1) / 2 := by unfold par; omega
      rw [sw_far (k := par ((j - 1) / 2)) (by omega) (by omega)]
      have h1 : lt (h ((j - 1) / 2)) (h (par ((j - 1) / 2))) = false := ex.1 _ hp0 (by omega) (by omega)
      by_cases e1 : c = j
      · subst e1
        rw [sw_r]
        exact h1
      · have e2 : c ≠ (j - 1) / 2 := by unfold par at hpc; omega
        rw [sw_far e2 e1]
        have h2 := ex.1 c h0 hc e1
        rw [hpc] at h2
        exact pre.trans _ _ _ (hP _ (by omega)) (hP _ (by omega)) (hP c hc) h1 h2

def ExcD (lt : Nat → Nat → Bool) (n : Nat) (h : Nat → Nat) (i : Nat) : Prop :=
  (∀ k, 0 < k → k < n → k ≠ i → par k ≠ i → lt (h k) (h (par k)) = false) ∧ (∀ c, 0 < c → c < n → par c = i → 0 < i → lt (h c) (h (par i)) = false)

theorem kid_min {lt : Nat → Nat → Bool} {P : Nat → Prop} (pre : Pre lt P) {n : Nat} {h : Nat → Nat} (hP : ∀ k, k < n → P (h k)) {i : Nat} (hn : 2 * i + 1 < n) {c : Nat} (h0 : 0 < c) (hc : c < n) (hpc : par c = i) : lt (h c) (h (kid lt n h i)) = false := by
  have : c = 2 * i + 1 ∨ c = 2 * i + 2 := by unfold par at hpc; omega
  unfold kid
  split
  · rename_i hh
    rcases this with rfl | rfl
    · exact pre.asym _ _ (hP _ hh.1) (hP _ hc) hh.2
    · exact pre.irr _ (hP _ hc)
  · rename_i hh
    rcases this with rfl | rfl
    · exact pre.irr _ (hP _ hc)
    · by_cases e : lt (h (2 * i + 2)) (h (2 * i + 1)) = true
      · exact absurd ⟨hc, e⟩ hh
      · simpa using e

theorem kid_par (lt : Nat → Nat → Bool) (n : Nat) (h : Nat → Nat) (i : Nat) : par (kid lt n h i) = i := by
  unfold par kid; split <;> omega

theorem down_step {lt : Nat → Nat → Bool} {P : Nat → Prop} (pre : Pre lt P) {n : Nat} {h : Nat → Nat} {i : Nat} (hP : ∀ k, k < n → P (h k)) (hn : 2 * i + 1 < n) (ex : ExcD lt n h i) (hl : lt (h (kid lt n h i)) (h i) = true) :
    (∀ k, 0 < k → k < n → par k ≠ kid lt n h i → lt (sw h i (kid lt n h i) k) (sw h i (kid lt n h i) (par k)) = false) ∧ ExcD lt n (sw h i (kid lt n h i)) (kid lt n h i) := by
  have hb := kid_b lt n h i hn
  have hkp := kid_par lt n h i
  have hmin := fun {c : Nat} => kid_min pre (h := h) hP hn (c := c)
  generalize kid lt n h i = d at *
  have hlt := pre.asym _ _ (hP d hb.2) (hP i (by omega)) hl
  have key : ∀ k, 0 < k → k < n → par k ≠ d → lt (sw h i d k) (sw h i d (par k)) = false := by
    intro k h0 hk hne
    have hpk : par k < k := by unfold par; omega
    by_cases e1 : k = i
    · subst e1
      rw [sw_l, sw_far (by omega) hne]
      exact ex.2 d (by omega) hb.2 hkp h0
    · by_cases e2 : k = d
      · subst e2
        rw [sw_r, hkp, sw_l]
        exact hlt
      · rw [sw_far e1 e2]
        by_cases e3 : par k = i
        · rw [e3, sw_l]
          exact hmin h0 hk e3
        · rw [sw_far e3 hne]
          exact ex.1 k h0 hk e1 e3
  refine ⟨key, fun k h0 hk _ hne => key k h0 hk hne, ?_⟩
  intro c h0 hc hpc _
  rw [hkp, sw_l]
  have hpk : par c < c := by unfold par; omega
  rw [sw_far (by omega) (by omega)]
  have := ex.1 c h0 hc (by omega) (by omega)
  rw [hpc] at this
  exact this

theorem down_ok {lt : Nat → Nat → Bool} {P : Nat → Prop} (pre : Pre lt P) {n : Nat} (h : Nat → Nat) (i : Nat) (hP : ∀ k, k < n → P (h k)) (ex : ExcD lt n h i) (all : ∀ k, 0 < k → k < n → par k ≠ i → lt (h k) (h (par k)) = false) : HeapOK lt n (downF lt n h i).1 := by
  fun_induction downF lt n h i with
  | case1 h i hn _ hl ih =>
    have hb := kid_b lt n h i hn
    obtain ⟨h1, h2⟩ := down_step pre hP hn ex hl
    exact ih (swP hP (by omega) hb.2) h2 h1
  | case2 h i hn _ hl =>
    intro k h0 hk
    by_cases e : par k = i
    · have := kid_min pre hP hn h0 hk e
      have hb := kid_b lt n h i hn
      rw [e]
      exact pre.trans _ _ _ (hP i (by omega)) (hP _ hb.2) (hP k hk) (by simpa using hl) this
    · exact all k h0 hk e
  | case3 h i hn =>
    intro k h0 hk
    exact all k h0 hk (by unfold par; omega)

/-- down from a place that may be wrong both ways: it moved, and all is well; or it did not, and up will do -/
theorem down_any_ok {lt : Nat → Nat → Bool} {P : Nat → Prop} (pre : Pre lt P) {n : Nat} (h : Nat → Nat) (i : Nat) (hP : ∀ k, k < n → P (h k)) (ex : ExcD lt n h i) :
    HeapOK lt n (downF lt n h i).1 ∨ (downF lt n h i = (h, i) ∧ ExcU lt n h i) := by
  by_cases hn : 2 * i + 1 < n
  · cases hl : lt (h (kid lt n h i)) (h i)
    · right
      refine ⟨downF_stop hn hl, ?_, ex.2⟩
      intro k h0 hk hne
      by_cases e : par k = i
      · have := kid_min pre hP hn h0 hk e
        have hb := kid_b lt n h i hn
        rw [e]
        exact pre.trans _ _ _ (hP i (by omega)) (hP _ hb.2) (hP k hk) hl this
      · exact ex.1 k h0 hk hne e
    · left
      have hb := kid_b lt n h i hn
      obtain ⟨h1, h2⟩ := down_step pre hP hn ex hl
      rw [downF_go hn hl]
      exact down_ok pre _ _ (swP hP (by omega) hb.2) h2 h1
  · right
    refine ⟨downF_end hn, ?_, ex.2⟩
    intro k h0 hk hne
    exact ex.1 k h0 hk hne (by unfold par; omega)

theorem downF_le {lt : Nat → Nat → Bool} {n : Nat} (h : Nat → Nat) (i : Nat) : i ≤ (downF lt n h i).2 := by
  fun_induction downF lt n h i with
  | case1 h i hn _ hl ih => have := kid_b lt n h i hn; omega
  | case2 => exact Nat.le_refl _
  | case3 => exact Nat.le_refl _

theorem downF_id {lt : Nat → Nat → Bool} {n : Nat} (h : Nat → Nat) (i : Nat) (he : ¬ i < (downF lt n h i).2) : downF lt n h i = (h, i) := by
  by_cases hn : 2 * i + 1 < n
  · cases hl : lt (h (kid lt n h i)) (h i)
    · exact downF_stop hn hl
    · exfalso
      rw [downF_go hn hl] at he
      have := downF_le (lt := lt) (n := n) (sw h i (kid lt n h i)) (kid lt n h i)
      have := kid_b lt n h i hn
      omega
  · exact downF_end hn

theorem up_okP {lt : Nat → Nat → Bool} {P : Nat → Prop} {n : Nat} (h : Nat → Nat) (j : Nat) (hP : ∀ k, k < n → P (h k)) (hj : j < n) : ∀ k, k < n → P (upF lt h j k) := by
  fun_induction upF lt h j with
  | case1 => exact hP
  | case3 => exact hP
  | case2 h j hj0 hl ih => exact ih (swP hP (by omega) hj) (by omega)

theorem down_okP {lt : Nat → Nat → Bool} {P : Nat → Prop} {n N : Nat} (hN : n ≤ N) (h : Nat → Nat) (i : Nat) (hP : ∀ k, k < N → P (h k)) : ∀ k, k < N → P ((downF lt n h i).1 k) := by
  fun_induction downF lt n h i with
  | case1 h i hn _ hl ih =>
    have := kid_b lt n h i hn
    exact ih (swP hP (by omega) (by omega))
  | case2 => exact hP
  | case3 => exact hP

/-- Remove keeps the heap. -/
theorem remove_ok {lt : Nat → Nat → Bool} {P : Nat → Prop} (pre : Pre lt P) {n : Nat} (h : Nat → Nat) (i : Nat) (hi : i ≤ n) (hP : ∀ k, k < n + 1 → P (h k)) (ok : HeapOK lt (n + 1) h) : HeapOK lt n (removeF lt h n i) := by
  unfold removeF
  split
  · exact fun k h0 hk => ok k h0 (by omega)
  · rename_i hne
    have hPs := swP hP (show i < n + 1 by omega) (show n < n + 1 by omega)
    have hPn : ∀ k, k < n → P (sw h i n k) := fun k hk => hPs k (by omega)
    have ex : ExcD lt n (sw h i n) i := by
      refine ⟨?_, ?_⟩
      · intro k h0 hk h1 h2
        have : par k < k := by unfold par; omega
        rw [sw_far h1 (by omega), sw_far h2 (by omega)]
        exact ok k h0 (by omega)
      · intro c h0 hc hpc hi0
        have h1 : par c < c := by unfold par; omega
        have h2 : par i < i := by unfold par; omega
        rw [sw_far (by omega) (by omega), sw_far (by omega) (by omega)]
        have a1 := ok c h0 (by omega)
        rw [hpc] at a1
        exact pre.trans _ _ _ (hP _ (by omega)) (hP i (by omega)) (hP c (by omega)) (ok i hi0 (by omega)) a1
    split
    · rename_i hm
      rcases down_any_ok pre _ _ hPn ex with h1 | ⟨h1, _⟩
      · exact h1
      · rw [h1] at hm
        exact absurd hm (by simp)
    · rename_i hm
      have e := downF_id _ _ hm
      rw [e]
      rcases down_any_ok pre _ _ hPn ex with h1 | ⟨_, h1⟩
      · rw [e] at h1
        refine up_ok pre _ _ hPn (by omega) ⟨fun k h0 hk _ => h1 k h0 hk, ?_⟩
        intro c h0 hc hpc hi0
        have a1 := h1 c h0 hc
        rw [hpc] at a1
        exact pre.trans _ _ _ (hPn _ (by unfold par; omega)) (hPn i (by omega)) (hPn c hc) (h1 i hi0 (by omega)) a1
      · exact up_ok pre _ _ hPn (by omega) h1

/-- Push keeps the heap. -/
theorem push_ok {lt : Nat → Nat → Bool} {P : Nat → Prop} (pre : Pre lt P) {n : Nat} (h : Nat → Nat) (x : Nat) (hx : P x) (hP : ∀ k, k < n → P (h k)) (ok : HeapOK lt n h) : HeapOK lt (n + 1) (upF lt (fun k => if k = n then x else h k) n) := by
  refine up_ok pre _ _ (fun k hk => ?_) (by omega) ⟨?_, ?_⟩
  · by_cases e : k = n
    · simp only [e, if_true]; exact hx
    · simp only [e, if_false]; exact hP k (by omega)
  · intro k h0 hk hne
    have : par k < k := by unfold par; omega
    simp only [hne, if_false, show par k ≠ n by omega]
    exact ok k h0 (by omega)
  · intro c h0 hc hpc _
    have : par c < c := by unfold par; omega
    omega

def Mem (n : Nat) (h : Nat → Nat) (x : Nat) : Prop := ∃ k, k < n ∧ x = h k

theorem Mem_of (n : Nat) (h : Nat → Nat) : ∀ k, k < n → Mem n h (h k) := fun k hk => ⟨k, hk, rfl⟩

theorem mem_sw {n : Nat} {h : Nat → Nat} {i j : Nat} (hi : i < n) (hj : j < n) (x : Nat) : Mem n (sw h i j) x ↔ Mem n h x := by
  have key : ∀ h : Nat → Nat, ∀ x, Mem n (sw h i j) x → Mem n h x := by
    rintro h x ⟨k, hk, rfl⟩
    exact swP (Mem_of n h) hi hj k hk
  constructor
  · exact key h x
  · intro hx
    have e : sw (sw h i j) i j = h := by
      funext k
      by_cases e1 : k = i
      · subst e1; rw [sw_l, sw_r]
      · by_cases e2 : k = j
        · subst e2; rw [sw_r, sw_l]
        · rw [sw_far e1 e2, sw_far e1 e2]
    rw [← e] at hx
    exact key _ x hx

theorem mem_up {lt : Nat → Nat → Bool} {n : Nat} (h : Nat → Nat) (j : Nat) (hj : j < n) (x : Nat) : Mem n (upF lt h j) x ↔ Mem n h x := by
  fun_induction upF lt h j with
  | case1 => rfl
  | case3 => rfl
  | case2 h j hj0 hl ih => rw [ih (by omega), mem_sw (by omega) hj]

theorem mem_down {lt : Nat → Nat → Bool} {n N : Nat} (hN : n ≤ N) (h : Nat → Nat) (i : Nat) (x : Nat) : Mem N (downF lt n h i).1 x ↔ Mem N h x := by
  fun_induction downF lt n h i with
  | case1 h i hn _ hl ih =>
    have := kid_b lt n h i hn
    rw [ih, mem_sw (by omega) (by omega)]
  | case2 => rfl
  | case3 => rfl

theorem mem_push {lt : Nat → Nat → Bool} {n : Nat} (h : Nat → Nat) (x y : Nat) : Mem (n + 1) (upF lt (fun k => if k = n then x else h k) n) y ↔ Mem n h y ∨ y = x := by
  rw [mem_up _ _ (by omega)]
  constructor
  · rintro ⟨k, hk, rfl⟩
    by_cases e : k = n
    · right; simp [e]
    · left; exact ⟨k, by omega, by simp [e]⟩
  · rintro (⟨k, hk, rfl⟩ | rfl)
    · exact ⟨k, by omega, by simp [show k ≠ n by omega]⟩
    · exact ⟨n, by omega, by simp⟩

theorem mem_removeN {lt : Nat → Nat → Bool} {n : Nat} (h : Nat → Nat) (i : Nat) (hi : i ≤ n) (y : Nat) : Mem (n + 1) (removeF lt h n i) y ↔ Mem (n + 1) h y := by
  unfold removeF
  split
  · rfl
  · split
    · rw [mem_down (by omega), mem_sw (by omega) (by omega)]
    · rw [mem_up _ _ (by omega), mem_down (by omega), mem_sw (by omega) (by omega)]

/-- what is left: all but the one that was removed -/
theorem mem_remove {lt : Nat → Nat → Bool} {n : Nat} (h : Nat → Nat) (i : Nat) (hi : i ≤ n) (inj : ∀ a b, a < n + 1 → b < n + 1 → removeF lt h n i a = removeF lt h n i b → a = b) (y : Nat) :
    Mem n (removeF lt h n i) y ↔ Mem (n + 1) h y ∧ y ≠ h i := by
  rw [← mem_removeN (lt := lt) h i hi y]
  have hl := removeF_last (lt := lt) (h := h) hi
  constructor
  · rintro ⟨k, hk, rfl⟩
    refine ⟨⟨k, by omega, rfl⟩, fun e => ?_⟩
    rw [← hl] at e
    have := inj k n (by omega) (by omega) e
    omega
  · rintro ⟨⟨k, hk, rfl⟩, hne⟩
    refine ⟨k, ?_, rfl⟩
    by_cases e : k = n
    · subst e; exact absurd hl hne
    · omega

#print axioms mem_remove
#print axioms remove_ok
end Go.Proofs.YtigaphnafnpfnaaDoor
