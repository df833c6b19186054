import Derived.Test.YtigaphnafnpfnaaGreatDoorPVA5
import Derived.Test.YtigaphnafnpfnaaGreatDoorPVE2
import Derived.Shelf.Small.Bits
set_option linter.unusedVariables false
set_option linter.unusedSimpArgs false
/- The heap, without the program: what up, down and Remove make of it. -/
namespace Go.Proofs.YtigaphnafnpfnaaGreatDoor

/-- on the things of P lt is a strict order whose 'not less' goes on -/
structure Pre (lt : Nat → Nat → Bool) (P : Nat → Prop) : Prop where
  asym : ∀ x y, P x → P y → lt x y = true → lt y x = false
  trans : ∀ x y z, P x → P y → P z → lt y x = false → lt z y = false → lt z x = false
  irr : ∀ x, P x → lt x x = false

def par (k : Nat) : Nat := (k - 1) / 2

def HeapOK (lt : Nat → Nat → Bool) (n : Nat) (h : Nat → Nat) : Prop := ∀ k, 0 < k → k < n → lt (h k) (h (par k)) = false

theorem root_min {lt : Nat → Nat → Bool} {P : Nat → Prop} (pre : Pre lt P) {n : Nat} {h : Nat → Nat} (ok : HeapOK lt n h) (hP : ∀ k, k < n → P (h k)) : ∀ k, k < n → lt (h k) (h 0) = false := by
  intro k
  induction k using Nat.strongRecOn with
  | _ k ih =>
    intro hk
    by_cases h0 : k = 0
    · subst h0; exact pre.irr _ (hP 0 hk)
    · have hp : par k < k := by unfold par; omega
      exact pre.trans (h 0) (h (par k)) (h k) (hP 0 (by omega)) (hP _ (by omega)) (hP k hk) (ih (par k) hp (by omega)) (ok k (by omega) hk)

def ExcU (lt : Nat → Nat → Bool) (n : Nat) (h : Nat → Nat) (j : Nat) : Prop :=
  (∀ k, 0 < k → k < n → k ≠ j → lt (h k) (h (par k)) = false) ∧ (∀ c, 0 < c → c < n → par c = j → 0 < j → lt (h c) (h (par j)) = false)

theorem sw_l (h : Nat → Nat) (i j : Nat) : sw h i j i = h j := by unfold sw; rw [if_pos rfl]
theorem sw_r (h : Nat → Nat) (i j : Nat) : sw h i j j = h i := by
  unfold sw
  split
  · rename_i e; rw [e]
  · rw [if_pos rfl]

theorem swP {P : Nat → Prop} {n : Nat} {h : Nat → Nat} (hP : ∀ k, k < n → P (h k)) {i j : Nat} (hi : i < n) (hj : j < n) : ∀ k, k < n → P (sw h i j k) := by
  intro k hk
  unfold sw
  split
  · exact hP j hj
  · split
    · exact hP i hi
    · exact hP k hk

theorem up_ok {lt : Nat → Nat → Bool} {P : Nat → Prop} (pre : Pre lt P) {n : Nat} (h : Nat → Nat) (j : Nat) (hP : ∀ k, k < n → P (h k)) (hj : j < n) (ex : ExcU lt n h j) : HeapOK lt n (upF lt h j) := by
  fun_induction upF lt h j with
  | case1 h => exact fun k h0 hk => ex.1 k h0 hk (by omega)
  | case3 h j hj0 hl =>
    intro k h0 hk
    by_cases e : k = j
    · subst e; simpa [par] using hl
    · exact ex.1 k h0 hk e
  | case2 h j hj0 hl ih =>
    have hp : (j - 1) / 2 < j := by omega
    have hpj : par j = (j - 1) / 2 := rfl
    have hlt := pre.asym _ _ (hP j hj) (hP _ (by omega)) hl
    refine ih (swP hP (by omega) hj) (by omega) ⟨?_, ?_⟩
    · intro k h0 hk hne
      by_cases e1 : k = j
      · subst e1
        rw [hpj, sw_r, sw_l]
        exact hlt
      · rw [sw_far hne e1]
        by_cases e2 : par k = (j - 1) / 2
        · rw [e2, sw_l]
          have := ex.1 k h0 hk e1
          rw [e2] at this
          exact pre.trans _ _ _ (hP j hj) (hP _ (by omega)) (hP k hk) hlt this
        · by_cases e3 : par k = j
          · rw [e3, sw_r]
            exact ex.2 k h0 hk e3 (by omega)
          · rw [sw_far e2 e3]
            exact ex.1 k h0 hk e1
    · intro c h0 hc hpc hp0
      have hpp : par ((j - 1) / 2) < (j - 1) / 2 := by unfold par; omega
      rw [sw_far (k := par ((j - 1) / 2)) (by omega) (by omega)]
      have h1 : lt (h ((j - 1) / 2)) (h (par ((j - 1) / 2))) = false := ex.1 _ hp0 (by omega) (by omega)
      by_cases e1 : c = j
      · subst e1
        rw [sw_r]
        exact h1
      · have e2 : c ≠ (j - 1) / 2 := by unfold par at hpc; omega
        rw [sw_far e2 e1]
        have h2 := ex.1 c h0 hc e1
        rw [hpc] at h2
        exact pre.trans _ _ _ (hP _ (by omega)) (hP _ (by omega)) (hP c hc) h1 h2

def ExcD (lt : Nat → Nat → Bool) (n : Nat) (h : Nat → Nat) (i : Nat) : Prop :=
  (∀ k, 0 < k → k < n → k ≠ i → par k ≠ i → lt (h k) (h (par k)) = false) ∧ (∀ c, 0 < c → c < n → par c = i → 0 < i → lt (h c) (h (par i)) = false)

theorem kid_min {lt : Nat → Nat → Bool} {P : Nat → Prop} (pre : Pre lt P) {n : Nat} {h : Nat → Nat} (hP : ∀ k, k < n → P (h k)) {i : Nat} (hn : 2 * i + 1 < n) {c : Nat} (h0 : 0 < c) (hc : c < n) (hpc : par c = i) : lt (h c) (h (kid lt n h i)) = false := by
  have : c = 2 * i + 1 ∨ c = 2 * i + 2 := by unfold par at hpc; omega
  unfold kid
  split
  · rename_i hh
    rcases this with rfl | rfl
    · exact pre.asym _ _ (hP _ hh.1) (hP _ hc) hh.2
    · exact pre.irr _ (hP _ hc)
  · rename_i hh
    rcases this with rfl | rfl
    · exact pre.irr _ (hP _ hc)
    · by_cases e : lt (h (2 * i + 2)) (h (2 * i + 1)) = true
      · exact absurd ⟨hc, e⟩ hh
      · simpa using e

theorem kid_par (lt : Nat → Nat → Bool) (n : Nat) (h : Nat → Nat) (i : Nat) : par (kid lt n h i) = i := by
  unfold par kid; split <;> omega

theorem down_step {lt : Nat → Nat → Bool} {P : Nat → Prop} (pre : Pre lt P) {n : Nat} {h : Nat → Nat} {i : Nat} (hP : ∀ k, k < n → P (h k)) (hn : 2 * i + 1 < n) (ex : ExcD lt n h i) (hl : lt (h (kid lt n h i)) (h i) = true) :
    (∀ k, 0 < k → k < n → par k ≠ kid lt n h i → lt (sw h i (kid lt n h i) k) (sw h i (kid lt n h i) (par k)) = false) ∧ ExcD lt n (sw h i (kid lt n h i)) (kid lt n h i) := by
  have hb := kid_b lt n h i hn
  have hkp := kid_par lt n h i
  have hmin := fun {c : Nat} => kid_min pre (h := h) hP hn (c := c)
  generalize kid lt n h i = d at *
  have hlt := pre.asym _ _ (hP d hb.2) (hP i (by omega)) hl
  have key : ∀ k, 0 < k → k < n → par k ≠ d → lt (sw h i d k) (sw h i d (par k)) = false := by
    intro k h0 hk hne
    have hpk : par k < k := by unfold par; omega
    by_cases e1 : k = i
    · subst e1
      rw [sw_l, sw_far (by omega) hne]
      exact ex.2 d (by omega) hb.2 hkp h0
    · by_cases e2 : k = d
      · subst e2
        rw [sw_r, hkp, sw_l]
        exact hlt
      · rw [sw_far e1 e2]
        by_cases e3 : par k = i
        · rw [e3, sw_l]
          exact hmin h0 hk e3
        · rw [sw_far e3 hne]
          exact ex.1 k h0 hk e1 e3
  refine ⟨key, fun k h0 hk _ hne => key k h0 hk hne, ?_⟩
  intro c h0 hc hpc _
  rw [hkp, sw_l]
  have hpk : par c < c := by unfold par; omega
  rw [sw_far (by omega) (by omega)]
  have := ex.1 c h0 hc (by omega) (by omega)
  rw [hpc] at this
  exact this

theorem down_ok {lt : Nat → Nat → Bool} {P : Nat → Prop} (pre : Pre lt P) {n : Nat} (h : Nat → Nat) (i : Nat) (hP : ∀ k, k < n → P (h k)) (ex : ExcD lt n h i) (all : ∀ k, 0 < k → k < n → par k ≠ i → lt (h k) (h (par k)) = false) : HeapOK lt n (downF lt n h i).1 := by
  fun_induction downF lt n h i with
  | case1 h i hn _ hl ih =>
    have hb := kid_b lt n h i hn
    obtain ⟨h1, h2⟩ := down_step pre hP hn ex hl
    exact ih (swP hP (by omega) hb.2) h2 h1
  | case2 h i hn _ hl =>
    intro k h0 hk
    by_cases e : par k = i
    · have := kid_min pre hP hn h0 hk e
      have hb := kid_b lt n h i hn
      rw [e]
      exact pre.trans _ _ _ (hP i (by omega)) (hP _ hb.2) (hP k hk) (by simpa using hl) this
    · exact all k h0 hk e
  | case3 h i hn =>
    intro k h0 hk
    exact all k h0 hk (by unfold par; omega)

/-- down from a place that may be wrong both ways: it moved, and all is well; or it did not, and up will do -/
theorem down_any_ok {lt : Nat → Nat → Bool} {P : Nat → Prop} (pre : Pre lt P) {n : Nat} (h : Nat → Nat) (i : Nat) (hP : ∀ k, k < n → P (h k)) (ex : ExcD lt n h i) :
    HeapOK lt n (downF lt n h i).1 ∨ (downF lt n h i = (h, i) ∧ ExcU lt n h i) := by
  by_cases hn : 2 * i + 1 < n
  · cases hl : lt (h (kid lt n h i)) (h i)
    · right
      refine ⟨downF_stop hn hl, ?_, ex.2⟩
      intro k h0 hk hne
      by_cases e : par k = i
      · have := kid_min pre hP hn h0 hk e
        have hb := kid_b lt n h i hn
        rw [e]
        exact pre.trans _ _ _ (hP i (by omega)) (hP _ hb.2) (hP k hk) hl this
      · exact ex.1 k h0 hk hne e
    · left
      have hb := kid_b lt n h i hn
      obtain ⟨h1, h2⟩ := down_step pre hP hn ex hl
      rw [downF_go hn hl]
      exact down_ok pre _ _ (swP hP (by omega) hb.2) h2 h1
  · right
    refine ⟨downF_end hn, ?_, ex.2⟩
    intro k h0 hk hne
    exact ex.1 k h0 hk hne (by unfold par; omega)

theorem downF_le {lt : Nat → Nat → Bool} {n : Nat} (h : Nat → Nat) (i : Nat) : i ≤ (downF lt n h i).2 := by
  fun_induction downF lt n h i with
  | case1 h i hn _ hl ih => have := kid_b lt n h i hn; omega
  | case2 => exact Nat.le_refl _
  | case3 => exact Nat.le_refl _

theorem downF_id {lt : Nat → Nat → Bool} {n : Nat} (h : Nat → Nat) (i : Nat) (he : ¬ i < (downF lt n h i).2) : downF lt n h i = (h, i) := by
  by_cases hn : 2 * i + 1 < n
  · cases hl : lt (h (kid lt n h i)) (h i)
    · exact downF_stop hn hl
    · exfalso
      rw [downF_go hn hl] at he
      have := downF_le (lt := lt) (n := n) (sw h i (kid lt n h i)) (kid lt n h i)
      have := kid_b lt n h i hn
      omega
  · exact downF_end hn

theorem up_okP {lt : Nat → Nat → Bool} {P : Nat → Prop} {n : Nat} (h : Nat → Nat) (j : Nat) (hP : ∀ k, k < n → P (h k)) (hj : j < n) : ∀ k, k < n → P (upF lt h j k) := by
  fun_induction upF lt h j with
  | case1 => exact hP
  | case3 => exact hP
  | case2 h j hj0 hl ih => exact ih (swP hP (by omega) hj) (by omega)

theorem down_okP {lt : Nat → Nat → Bool} {P : Nat → Prop} {n N : Nat} (hN : n ≤ N) (h : Nat → Nat) (i : Nat) (hP : ∀ k, k < N → P (h k)) : ∀ k, k < N → P ((downF lt n h i).1 k) := by
  fun_induction downF lt n h i with
  | case1 h i hn _ hl ih =>
    have := kid_b lt n h i hn
    exact ih (swP hP (by omega) (by omega))
  | case2 => exact hP
  | case3 => exact hP

/-- Remove keeps the heap. -/
theorem remove_ok {lt : Nat → Nat → Bool} {P : Nat → Prop} (pre : Pre lt P) {n : Nat} (h : Nat → Nat) (i : Nat) (hi : i ≤ n) (hP : ∀ k, k < n + 1 → P (h k)) (ok : HeapOK lt (n + 1) h) : HeapOK lt n (removeF lt h n i) := by
  unfold removeF
  split
  · exact fun k h0 hk => ok k h0 (by omega)
  · rename_i hne
    have hPs := swP hP (show i < n + 1 by omega) (show n < n + 1 by omega)
    have hPn : ∀ k, k < n → P (sw h i n k) := fun k hk => hPs k (by omega)
    have ex : ExcD lt n (sw h i n) i := by
      refine ⟨?_, ?_⟩
      · intro k h0 hk h1 h2
        have : par k < k := by unfold par; omega
        rw [sw_far h1 (by omega), sw_far h2 (by omega)]
        exact ok k h0 (by omega)
      · intro c h0 hc hpc hi0
        have h1 : par c < c := by unfold par; omega
        have h2 : par i < i := by unfold par; omega
        rw [sw_far (by omega) (by omega), sw_far (by omega) (by omega)]
        have a1 := ok c h0 (by omega)
        rw [hpc] at a1
        exact pre.trans _ _ _ (hP _ (by omega)) (hP i (by omega)) (hP c (by omega)) (ok i hi0 (by omega)) a1
    split
    · rename_i hm
      rcases down_any_ok pre _ _ hPn ex with h1 | ⟨h1, _⟩
      · exact h1
      · rw [h1] at hm
        exact absurd hm (by simp)
    · rename_i hm
      have e := downF_id _ _ hm
      rw [e]
      rcases down_any_ok pre _ _ hPn ex with h1 | ⟨_, h1⟩
      · rw [e] at h1
        refine up_ok pre _ _ hPn (by omega) ⟨fun k h0 hk _ => h1 k h0 hk, ?_⟩
        intro c h0 hc hpc hi0
        have a1 := h1 c h0 hc
        rw [hpc] at a1
        exact pre.trans _ _ _ (hPn _ (by unfold par; omega)) (hPn i (by omega)) (hPn c hc) (h1 i hi0 (by omega)) a1
      · exact up_ok pre _ _ hPn (by omega) h1

/-- Push keeps the heap. -/
theorem push_ok {lt : Nat → Nat → Bool} {P : Nat → Prop} (pre : Pre lt P) {n : Nat} (h : Nat → Nat) (x : Nat) (hx : P x) (hP : ∀ k, k < n → P (h k)) (ok : HeapOK lt n h) : HeapOK lt (n + 1) (upF lt (fun k => if k = n then x else h k) n) := by
  refine up_ok pre _ _ (fun k hk => ?_) (by omega) ⟨?_, ?_⟩
  · by_cases e : k = n
    · simp only [e, if_true]; exact hx
    · simp only [e, if_false]; exact hP k (by omega)
  · intro k h0 hk hne
    have : par k < k := by unfold par; omega
    simp only [hne, if_false, show par k ≠ n by omega]
    exact ok k h0 (by omega)
  · intro c h0 hc hpc _
    have : par c < c := by unfold par; omega
    omega

def Mem (n : Nat) (h : Nat → Nat) (x : Nat) : Prop := ∃ k, k < n ∧ x = h k

theorem Mem_of (n : Nat) (h : Nat → Nat) : ∀ k, k < n → Mem n h (h k) := fun k hk => ⟨k, hk, rfl⟩

theorem mem_sw {n : Nat} {h : Nat → Nat} {i j : Nat} (hi : i < n) (hj : j < n) (x : Nat) : Mem n (sw h i j) x ↔ Mem n h x := by
  have key : ∀ h : Nat → Nat, ∀ x, Mem n (sw h i j) x → Mem n h x := by
    rintro h x ⟨k, hk, rfl⟩
    exact swP (Mem_of n h) hi hj k hk
  constructor
  · exact key h x
  · intro hx
    have e : sw (sw h i j) i j = h := by
      funext k
      by_cases e1 : k = i
      · subst e1; rw [sw_l, sw_r]
      · by_cases e2 : k = j
        · subst e2; rw [sw_r, sw_l]
        · rw [sw_far e1 e2, sw_far e1 e2]
    rw [← e] at hx
    exact key _ x hx

theorem mem_up {lt : Nat → Nat → Bool} {n : Nat} (h : Nat → Nat) (j : Nat) (hj : j < n) (x : Nat) : Mem n (upF lt h j) x ↔ Mem n h x := by
  fun_induction upF lt h j with
  | case1 => rfl
  | case3 => rfl
  | case2 h j hj0 hl ih => rw [ih (by omega), mem_sw (by omega) hj]

theorem mem_down {lt : Nat → Nat → Bool} {n N : Nat} (hN : n ≤ N) (h : Nat → Nat) (i : Nat) (x : Nat) : Mem N (downF lt n h i).1 x ↔ Mem N h x := by
  fun_induction downF lt n h i with
  | case1 h i hn _ hl ih =>
    have := kid_b lt n h i hn
    rw [ih, mem_sw (by omega) (by omega)]
  | case2 => rfl
  | case3 => rfl

theorem mem_push {lt : Nat → Nat → Bool} {n : Nat} (h : Nat → Nat) (x y : Nat) : Mem (n + 1) (upF lt (fun k => if k = n then x else h k) n) y ↔ Mem n h y ∨ y = x := by
  rw [mem_up _ _ (by omega)]
  constructor
  · rintro ⟨k, hk, rfl⟩
    by_cases e : k = n
    · right; simp [e]
    · left; exact ⟨k, by omega, by simp [e]⟩
  · rintro (⟨k, hk, rfl⟩ | rfl)
    · exact ⟨k, by omega, by simp [show k ≠ n by omega]⟩
    · exact ⟨n, by omega, by simp⟩

theorem mem_removeN {lt : Nat → Nat → Bool} {n : Nat} (h : Nat → Nat) (i : Nat) (hi : i ≤ n) (y : Nat) : Mem (n + 1) (removeF lt h n i) y ↔ Mem (n + 1) h y := by
  unfold removeF
  split
  · rfl
  · split
    · rw [mem_down (by omega), mem_sw (by omega) (by omega)]
    · rw [mem_up _ _ (by omega), mem_down (by omega), mem_sw (by omega) (by omega)]

/-- what is left: all but the one that was removed -/
theorem mem_remove {lt : Nat → Nat → Bool} {n : Nat} (h : Nat → Nat) (i : Nat) (hi : i ≤ n) (inj : ∀ a b, a < n + 1 → b < n + 1 → removeF lt h n i a = removeF lt h n i b → a = b) (y : Nat) :
    Mem n (removeF lt h n i) y ↔ Mem (n + 1) h y ∧ y ≠ h i := by
  rw [← mem_removeN (lt := lt) h i hi y]
  have hl := removeF_last (lt := lt) (h := h) hi
  constructor
  · rintro ⟨k, hk, rfl⟩
    refine ⟨⟨k, by omega, rfl⟩, fun e => ?_⟩
    rw [← hl] at e
    have := inj k n (by omega) (by omega) e
    omega
  · rintro ⟨⟨k, hk, rfl⟩, hne⟩
    refine ⟨k, ?_, rfl⟩
    by_cases e : k = n
    · subst e; exact absurd hl hne
    · omega

#print axioms mem_remove
#print axioms remove_ok
end Go.Proofs.YtigaphnafnpfnaaGreatDoor

set_option linter.unusedVariables false
set_option linter.unusedSimpArgs false
namespace Go.Proofs.YtigaphnafnpfnaaGreatDoor
open Go.RowKit
attribute [local go_sem ↓] Go.wp_at_zero Go.wp_at_succ

theorem other_any (s : Int) (w : World) (h0 : 0 ≤ s) (h1 : s ≤ 1) : Calls Tryz.prog 154 #[.int .i64 s] w fun e w' => e = .returned (.int .i64 (1 - s)) ∧ w' = w := by
  go_enter Tryz.func154, Tryz.ntmps154
  go_wp2
  go_ret
  exact ⟨rfl, rfl⟩

/-- what is asked for -/
structure Ask where
  id : Int
  owner : Int
  sym : ByteArray
  side : Int
  kind : Int
  price : Int
  qty : Int

def Ask.val (o : Ask) : Value := .agg #[.int .i64 o.id, .int .i64 o.owner, .string o.sym, .int .i64 o.side, .int .i64 o.kind, .int .i64 o.price, .int .i64 o.qty]

def goodB (kind side price p : Int) : Bool := if kind = 5 then true else if side = 0 then decide (p ≤ price) else decide (price ≤ p)

set_option maxHeartbeats 400000 in
theorem good_any (o : Ask) (p : Int) (w : World) : Calls Tryz.prog 155 #[o.val, .int .i64 p] w fun e w' => e = .returned (.bool (goodB o.kind o.side o.price p)) ∧ Chg Non w w' := by
  obtain ⟨id, owner, sym, side, kind, price, qty⟩ := o
  simp only [Ask.val]
  by_cases h1 : kind = 5
  · have e1 : (kind == 5) = true := by simp [h1]
    have HG : Hid (goodB kind side price p = true) := by show _ = _; unfold goodB; rw [if_pos h1]
    clear h1
    go_enter Tryz.func155, Tryz.ntmps155
    go_wp2
    go_ret
    exact ⟨by rw [HG.out]; rfl, (Chg.refl _ _).alloc _⟩
  · have e1 : (kind == 5) = false := by simp [h1]
    by_cases h2 : side = 0
    · have e2 : (side == 0) = true := by simp [h2]
      have HG : Hid (goodB kind side price p = decide (p ≤ price)) := by show _ = _; unfold goodB; rw [if_neg h1, if_pos h2]
      clear h1 h2
      go_enter Tryz.func155, Tryz.ntmps155
      go_wp2
      go_ret
      exact ⟨by rw [HG.out]; rfl, (Chg.refl _ _).alloc _⟩
    · have e2 : (side == 0) = false := by simp [h2]
      have HG : Hid (goodB kind side price p = decide (price ≤ p)) := by show _ = _; unfold goodB; rw [if_neg h1, if_neg h2]
      clear h1 h2
      go_enter Tryz.func155, Tryz.ntmps155
      go_wp2
      go_ret
      exact ⟨by rw [HG.out]; rfl, (Chg.refl _ _).alloc _⟩

/-- a book: by side: its slice, how many, the heap -/
structure Bk where
  sym : ByteArray
  sl : Nat → Option Addr
  n : Nat → Nat
  cap : Nat → Nat
  h : Nat → Nat → Nat
  places : Int

def Bk.cells (B : Bk) : Array Value := #[.string B.sym, .slice (B.sl 0) (B.n 0) (B.cap 0), .slice (B.sl 1) (B.n 1) (B.cap 1), .int .i64 B.places]

structure IsBook (w : World) (bb : Nat) (B : Bk) (om : Nat → Ord) : Prop where
  blk : Blk w bb B.cells 158
  side : ∀ s, s < 2 → SideV w (B.sl s) (B.n s) (B.cap s) (B.h s) om
  apart : ∀ a, adB (B.sl 0) = some a → adB (B.sl 1) ≠ some a
  disj : ∀ k j, k < B.n 0 → j < B.n 1 → B.h 0 k ≠ B.h 1 j

theorem IsBook.kept {w w' : World} {bb : Nat} {B : Bk} {om : Nat → Ord} (hb : IsBook w bb B om) {S : Nat → Prop} (k : Chg S w w') (hS : ∀ b, (b = bb ∨ ∃ s, s < 2 ∧ (adB (B.sl s) = some b ∨ ∃ k, k < B.n s ∧ b = B.h s k)) → ¬ S b) : IsBook w' bb B om :=
  ⟨k.blk hb.blk (hS _ (.inl rfl)), fun s hs => (hb.side s hs).kept k (fun b h => hS b (.inr ⟨s, hs, h⟩)), hb.apart, hb.disj⟩

theorem Bk.cells_side (B : Bk) {s : Nat} (hs : s < 2) : B.cells[1 + s]? = some (.slice (B.sl s) (B.n s) (B.cap s)) := by
  have : s = 0 ∨ s = 1 := by omega
  rcases this with rfl | rfl <;> rfl

theorem IsBook.cellSide {w : World} {bb : Nat} {B : Bk} {om : Nat → Ord} (hb : IsBook w bb B om) {s : Nat} (hs : s < 2) : w.cell? ⟨bb, 1 + s, none⟩ = some (.slice (B.sl s) (B.n s) (B.cap s)) := (hb.blk.cell _).trans (B.cells_side hs)

/-- what FirstGood answers: nothing, or the block of the first -/
def firstG (B : Bk) (om : Nat → Ord) (o : Ask) (s : Nat) : Option Nat := if B.n s = 0 then none else if goodB o.kind o.side o.price (om (B.h s 0)).price = true then some (B.h s 0) else none

def ptrO : Option Nat → Value
  | none => .pointer none
  | some b => .pointer (some ⟨b, 0, none⟩)

set_option maxHeartbeats 1000000 in
theorem firstGood_any (bb : Nat) (B : Bk) (om : Nat → Ord) (o : Ask) (s : Nat) (w : World) (hb : IsBook w bb B om) (hs : s < 2) (ho : o.side = 1 - (s : Int)) :
    Calls Tryz.prog 123 #[.pointer (some ⟨bb, 0, none⟩), o.val] w fun e w' => e = .returned (ptrO (firstG B om o s)) ∧ Chg Non w w' := by
  have hlt := hb.blk.lt
  have hsd := hb.side s hs
  by_cases hn : B.n s = 0
  · have e1 : ((B.n s : Int) == 0) = true := by simp [hn]
    have HF : Hid (firstG B om o s = none) := by show _ = _; unfold firstG; rw [if_pos hn]
    obtain ⟨id, owner, sym, side, kind, price, qty⟩ := o
    simp only at ho
    subst ho
    simp only [Ask.val]
    clear hn
    have : s = 0 ∨ s = 1 := by omega
    rcases this with rfl | rfl
    · have hcs : w.cell? ⟨bb, 1, none⟩ = some (.slice (B.sl 0) (B.n 0) (B.cap 0)) := hb.blk.cell 1
      go_enter Tryz.func123, Tryz.ntmps123
      go_wp2
      go_quiet ((go_at_call 154; exact Calls.quiet_of_same (other_any _ _ (by omega) (by omega))))
      go_wp2
      go_quiet (fail)
      go_wp2
      go_ret
      exact ⟨by rw [HF.out]; rfl, (by repeat (first | exact Chg.refl _ _ | refine Chg.drewN ?_ _ | refine Chg.drew ?_ | refine Chg.alloc ?_ _))⟩
    · have hcs : w.cell? ⟨bb, 2, none⟩ = some (.slice (B.sl 1) (B.n 1) (B.cap 1)) := hb.blk.cell 2
      go_enter Tryz.func123, Tryz.ntmps123
      go_wp2
      go_quiet ((go_at_call 154; exact Calls.quiet_of_same (other_any _ _ (by omega) (by omega))))
      go_wp2
      go_quiet (fail)
      go_wp2
      go_ret
      exact ⟨by rw [HF.out]; rfl, (by repeat (first | exact Chg.refl _ _ | refine Chg.drewN ?_ _ | refine Chg.drew ?_ | refine Chg.alloc ?_ _))⟩
  · have e1 : ((B.n s : Int) == 0) = false := by simp; omega
    rcases hsd with ⟨_, h0, _⟩ | ⟨ab, hab, hsd⟩
    · exact absurd h0 hn
    obtain ⟨cs, ha, hc, hp⟩ := hsd.arr
    have ca := (ha.cell 0).trans (hp 0 (by omega))
    have cp := (hsd.ord 0 (by omega)).cell 5
    simp only [Ord.cells] at cp
    simp at cp
    have n0 : 0 < B.n s := by omega
    have la := ha.lt
    have ho0 := hsd.ord 0 (by omega)
    have lo := ho0.lt
    have HP := hp 0 (by omega)
    clear hp hc hsd
    obtain ⟨id, owner, sym, side, kind, price, qty⟩ := o
    simp only at ho
    subst ho
    simp only [Ask.val]
    cases hg : goodB kind (1 - (s : Int)) price (om (B.h s 0)).price
    · have HF : Hid (firstG B om ⟨id, owner, sym, 1 - (s : Int), kind, price, qty⟩ s = none) := by show _ = _; unfold firstG; rw [if_neg hn, if_neg (by simp [hg])]
      clear hn
      have : s = 0 ∨ s = 1 := by omega
      rcases this with rfl | rfl
      · have GG : goodB kind 1 price (om (B.h 0 0)).price = false := hg
        clear hg
        have hcs : w.cell? ⟨bb, 1, none⟩ = some (.slice (some ⟨ab, 0, none⟩) (B.n 0) (B.cap 0)) := (hb.blk.cell 1).trans (by rw [← hab]; rfl)
        go_enter Tryz.func123, Tryz.ntmps123
        go_wp2
        go_quiet ((go_at_call 154; exact Calls.quiet_of_same (other_any _ _ (by omega) (by omega))))
        go_wp2
        go_region_held3 (fun w' => w'.cell? ⟨w.heap.size, 0, none⟩ = some (.int .i64 id) ∧ w'.cell? ⟨w.heap.size, 1, none⟩ = some (.int .i64 owner) ∧ w'.cell? ⟨w.heap.size, 2, none⟩ = some (.string sym) ∧ w'.cell? ⟨w.heap.size, 3, none⟩ = some (.int .i64 1) ∧ w'.cell? ⟨w.heap.size, 4, none⟩ = some (.int .i64 kind) ∧ w'.cell? ⟨w.heap.size, 5, none⟩ = some (.int .i64 price) ∧ w'.cell? ⟨w.heap.size, 6, none⟩ = some (.int .i64 qty) ∧ w'.cell? ⟨ab, 0, none⟩ = some (.pointer (some ⟨B.h 0 0, 0, none⟩)) ∧ w'.cell? ⟨B.h 0 0, 5, none⟩ = some (.int .i64 (om (B.h 0 0)).price)) (go_keep)
          (first | (go_at_call 155; refine (good_any ⟨id, owner, sym, 1, kind, price, qty⟩ _ _).mono ?_; rintro e w2 ⟨rfl, hc2⟩; rw [GG]; have k0 := hc2.cell (p := ⟨w.heap.size, 0, none⟩) ((Blk.new w _ _).cell 0) (fun x => x); have k1 := hc2.cell (p := ⟨w.heap.size, 1, none⟩) ((Blk.new w _ _).cell 1) (fun x => x); have k2 := hc2.cell (p := ⟨w.heap.size, 2, none⟩) ((Blk.new w _ _).cell 2) (fun x => x); have k3 := hc2.cell (p := ⟨w.heap.size, 3, none⟩) ((Blk.new w _ _).cell 3) (fun x => x); have k4 := hc2.cell (p := ⟨w.heap.size, 4, none⟩) ((Blk.new w _ _).cell 4) (fun x => x); have k5 := hc2.cell (p := ⟨w.heap.size, 5, none⟩) ((Blk.new w _ _).cell 5) (fun x => x); have k6 := hc2.cell (p := ⟨w.heap.size, 6, none⟩) ((Blk.new w _ _).cell 6) (fun x => x); have k7 := hc2.cell (p := ⟨ab, 0, none⟩) (((ha.alloc _).cell 0).trans HP) (fun x => x); have k8 : w2.cell? ⟨B.h 0 0, 5, none⟩ = some (.int .i64 (om (B.h 0 0)).price) := hc2.cell (p := ⟨B.h 0 0, 5, none⟩) ((ho0.alloc _).cell 5) (fun x => x)))
        go_wp2
        go_ret
        exact ⟨by rw [HF.out]; rfl, Chg.trans (by repeat (first | exact Chg.refl _ _ | refine Chg.drewN ?_ _ | refine Chg.drew ?_ | refine Chg.alloc ?_ _)) hc2⟩
      · have GG : goodB kind 0 price (om (B.h 1 0)).price = false := hg
        clear hg
        have hcs : w.cell? ⟨bb, 2, none⟩ = some (.slice (some ⟨ab, 0, none⟩) (B.n 1) (B.cap 1)) := (hb.blk.cell 2).trans (by rw [← hab]; rfl)
        go_enter Tryz.func123, Tryz.ntmps123
        go_wp2
        go_quiet ((go_at_call 154; exact Calls.quiet_of_same (other_any _ _ (by omega) (by omega))))
        go_wp2
        go_region_held3 (fun w' => w'.cell? ⟨w.heap.size, 0, none⟩ = some (.int .i64 id) ∧ w'.cell? ⟨w.heap.size, 1, none⟩ = some (.int .i64 owner) ∧ w'.cell? ⟨w.heap.size, 2, none⟩ = some (.string sym) ∧ w'.cell? ⟨w.heap.size, 3, none⟩ = some (.int .i64 0) ∧ w'.cell? ⟨w.heap.size, 4, none⟩ = some (.int .i64 kind) ∧ w'.cell? ⟨w.heap.size, 5, none⟩ = some (.int .i64 price) ∧ w'.cell? ⟨w.heap.size, 6, none⟩ = some (.int .i64 qty) ∧ w'.cell? ⟨ab, 0, none⟩ = some (.pointer (some ⟨B.h 1 0, 0, none⟩)) ∧ w'.cell? ⟨B.h 1 0, 5, none⟩ = some (.int .i64 (om (B.h 1 0)).price)) (go_keep)
          (first | (go_at_call 155; refine (good_any ⟨id, owner, sym, 0, kind, price, qty⟩ _ _).mono ?_; rintro e w2 ⟨rfl, hc2⟩; rw [GG]; have k0 := hc2.cell (p := ⟨w.heap.size, 0, none⟩) ((Blk.new w _ _).cell 0) (fun x => x); have k1 := hc2.cell (p := ⟨w.heap.size, 1, none⟩) ((Blk.new w _ _).cell 1) (fun x => x); have k2 := hc2.cell (p := ⟨w.heap.size, 2, none⟩) ((Blk.new w _ _).cell 2) (fun x => x); have k3 := hc2.cell (p := ⟨w.heap.size, 3, none⟩) ((Blk.new w _ _).cell 3) (fun x => x); have k4 := hc2.cell (p := ⟨w.heap.size, 4, none⟩) ((Blk.new w _ _).cell 4) (fun x => x); have k5 := hc2.cell (p := ⟨w.heap.size, 5, none⟩) ((Blk.new w _ _).cell 5) (fun x => x); have k6 := hc2.cell (p := ⟨w.heap.size, 6, none⟩) ((Blk.new w _ _).cell 6) (fun x => x); have k7 := hc2.cell (p := ⟨ab, 0, none⟩) (((ha.alloc _).cell 0).trans HP) (fun x => x); have k8 : w2.cell? ⟨B.h 1 0, 5, none⟩ = some (.int .i64 (om (B.h 1 0)).price) := hc2.cell (p := ⟨B.h 1 0, 5, none⟩) ((ho0.alloc _).cell 5) (fun x => x)))
        go_wp2
        go_ret
        exact ⟨by rw [HF.out]; rfl, Chg.trans (by repeat (first | exact Chg.refl _ _ | refine Chg.drewN ?_ _ | refine Chg.drew ?_ | refine Chg.alloc ?_ _)) hc2⟩
    · have HF : Hid (firstG B om ⟨id, owner, sym, 1 - (s : Int), kind, price, qty⟩ s = some (B.h s 0)) := by show _ = _; unfold firstG; rw [if_neg hn, if_pos hg]
      clear hn
      have : s = 0 ∨ s = 1 := by omega
      rcases this with rfl | rfl
      · have GG : goodB kind 1 price (om (B.h 0 0)).price = true := hg
        clear hg
        have hcs : w.cell? ⟨bb, 1, none⟩ = some (.slice (some ⟨ab, 0, none⟩) (B.n 0) (B.cap 0)) := (hb.blk.cell 1).trans (by rw [← hab]; rfl)
        go_enter Tryz.func123, Tryz.ntmps123
        go_wp2
        go_quiet ((go_at_call 154; exact Calls.quiet_of_same (other_any _ _ (by omega) (by omega))))
        go_wp2
        go_region_held3 (fun w' => w'.cell? ⟨w.heap.size, 0, none⟩ = some (.int .i64 id) ∧ w'.cell? ⟨w.heap.size, 1, none⟩ = some (.int .i64 owner) ∧ w'.cell? ⟨w.heap.size, 2, none⟩ = some (.string sym) ∧ w'.cell? ⟨w.heap.size, 3, none⟩ = some (.int .i64 1) ∧ w'.cell? ⟨w.heap.size, 4, none⟩ = some (.int .i64 kind) ∧ w'.cell? ⟨w.heap.size, 5, none⟩ = some (.int .i64 price) ∧ w'.cell? ⟨w.heap.size, 6, none⟩ = some (.int .i64 qty) ∧ w'.cell? ⟨ab, 0, none⟩ = some (.pointer (some ⟨B.h 0 0, 0, none⟩)) ∧ w'.cell? ⟨B.h 0 0, 5, none⟩ = some (.int .i64 (om (B.h 0 0)).price)) (go_keep)
          (first | (go_at_call 155; refine (good_any ⟨id, owner, sym, 1, kind, price, qty⟩ _ _).mono ?_; rintro e w2 ⟨rfl, hc2⟩; rw [GG]; have k0 := hc2.cell (p := ⟨w.heap.size, 0, none⟩) ((Blk.new w _ _).cell 0) (fun x => x); have k1 := hc2.cell (p := ⟨w.heap.size, 1, none⟩) ((Blk.new w _ _).cell 1) (fun x => x); have k2 := hc2.cell (p := ⟨w.heap.size, 2, none⟩) ((Blk.new w _ _).cell 2) (fun x => x); have k3 := hc2.cell (p := ⟨w.heap.size, 3, none⟩) ((Blk.new w _ _).cell 3) (fun x => x); have k4 := hc2.cell (p := ⟨w.heap.size, 4, none⟩) ((Blk.new w _ _).cell 4) (fun x => x); have k5 := hc2.cell (p := ⟨w.heap.size, 5, none⟩) ((Blk.new w _ _).cell 5) (fun x => x); have k6 := hc2.cell (p := ⟨w.heap.size, 6, none⟩) ((Blk.new w _ _).cell 6) (fun x => x); have k7 := hc2.cell (p := ⟨ab, 0, none⟩) (((ha.alloc _).cell 0).trans HP) (fun x => x); have k8 : w2.cell? ⟨B.h 0 0, 5, none⟩ = some (.int .i64 (om (B.h 0 0)).price) := hc2.cell (p := ⟨B.h 0 0, 5, none⟩) ((ho0.alloc _).cell 5) (fun x => x)))
        go_wp2
        go_ret
        exact ⟨by rw [HF.out]; rfl, Chg.trans (by repeat (first | exact Chg.refl _ _ | refine Chg.drewN ?_ _ | refine Chg.drew ?_ | refine Chg.alloc ?_ _)) hc2⟩
      · have GG : goodB kind 0 price (om (B.h 1 0)).price = true := hg
        clear hg
        have hcs : w.cell? ⟨bb, 2, none⟩ = some (.slice (some ⟨ab, 0, none⟩) (B.n 1) (B.cap 1)) := (hb.blk.cell 2).trans (by rw [← hab]; rfl)
        go_enter Tryz.func123, Tryz.ntmps123
        go_wp2
        go_quiet ((go_at_call 154; exact Calls.quiet_of_same (other_any _ _ (by omega) (by omega))))
        go_wp2
        go_region_held3 (fun w' => w'.cell? ⟨w.heap.size, 0, none⟩ = some (.int .i64 id) ∧ w'.cell? ⟨w.heap.size, 1, none⟩ = some (.int .i64 owner) ∧ w'.cell? ⟨w.heap.size, 2, none⟩ = some (.string sym) ∧ w'.cell? ⟨w.heap.size, 3, none⟩ = some (.int .i64 0) ∧ w'.cell? ⟨w.heap.size, 4, none⟩ = some (.int .i64 kind) ∧ w'.cell? ⟨w.heap.size, 5, none⟩ = some (.int .i64 price) ∧ w'.cell? ⟨w.heap.size, 6, none⟩ = some (.int .i64 qty) ∧ w'.cell? ⟨ab, 0, none⟩ = some (.pointer (some ⟨B.h 1 0, 0, none⟩)) ∧ w'.cell? ⟨B.h 1 0, 5, none⟩ = some (.int .i64 (om (B.h 1 0)).price)) (go_keep)
          (first | (go_at_call 155; refine (good_any ⟨id, owner, sym, 0, kind, price, qty⟩ _ _).mono ?_; rintro e w2 ⟨rfl, hc2⟩; rw [GG]; have k0 := hc2.cell (p := ⟨w.heap.size, 0, none⟩) ((Blk.new w _ _).cell 0) (fun x => x); have k1 := hc2.cell (p := ⟨w.heap.size, 1, none⟩) ((Blk.new w _ _).cell 1) (fun x => x); have k2 := hc2.cell (p := ⟨w.heap.size, 2, none⟩) ((Blk.new w _ _).cell 2) (fun x => x); have k3 := hc2.cell (p := ⟨w.heap.size, 3, none⟩) ((Blk.new w _ _).cell 3) (fun x => x); have k4 := hc2.cell (p := ⟨w.heap.size, 4, none⟩) ((Blk.new w _ _).cell 4) (fun x => x); have k5 := hc2.cell (p := ⟨w.heap.size, 5, none⟩) ((Blk.new w _ _).cell 5) (fun x => x); have k6 := hc2.cell (p := ⟨w.heap.size, 6, none⟩) ((Blk.new w _ _).cell 6) (fun x => x); have k7 := hc2.cell (p := ⟨ab, 0, none⟩) (((ha.alloc _).cell 0).trans HP) (fun x => x); have k8 : w2.cell? ⟨B.h 1 0, 5, none⟩ = some (.int .i64 (om (B.h 1 0)).price) := hc2.cell (p := ⟨B.h 1 0, 5, none⟩) ((ho0.alloc _).cell 5) (fun x => x)))
        go_wp2
        go_ret
        exact ⟨by rw [HF.out]; rfl, Chg.trans (by repeat (first | exact Chg.refl _ _ | refine Chg.drewN ?_ _ | refine Chg.drew ?_ | refine Chg.alloc ?_ _)) hc2⟩

end Go.Proofs.YtigaphnafnpfnaaGreatDoor

/- SortFunc at no element -/
set_option linter.unusedVariables false
set_option linter.unusedSimpArgs false
namespace Go.Proofs.YtigaphnafnpfnaaGreatDoor
open Go.RowKit
attribute [local go_sem ↓] Go.wp_at_zero Go.wp_at_succ

set_option maxHeartbeats 1000000 in
theorem len64_0 (w : World) : Calls Tryz.prog 158 #[.int .u64 0] w fun e w' => (∃ n, e = .returned (.int .i64 n)) ∧ w' = w := by
  have h75 : Calls Tryz.prog 188 #[.int .u64 0] w fun e w' => (∃ n, e = .returned (.int .i64 n)) ∧ w' = w := by
    go_enter Tryz.func188, Tryz.ntmps188
    go_wp2
    all_goals (go_ret; exact ⟨⟨_, rfl⟩, rfl⟩)
  go_enter Tryz.func158, Tryz.ntmps158
  go_wp2_with (go_at_call 188; refine h75.mono ?_; rintro e w' ⟨⟨n, rfl⟩, rfl⟩)
  all_goals (go_ret; exact ⟨⟨_, rfl⟩, rfl⟩)

set_option maxHeartbeats 1000000 in
theorem insertion_0 (fv : Value) (w : World) : Calls Tryz.prog 179 #[.slice none 0 0, .int .i64 0, .int .i64 0, fv] w fun e w' => e = .returned (.tuple #[]) ∧ w' = w := by
  go_enter Tryz.func179, Tryz.ntmps179
  go_wp2
  refine wp_loop_rounds 1 ?_
  rw [rounds_succ]
  go_wp2
  go_end0
  exact ⟨rfl, rfl⟩

set_option maxHeartbeats 2000000 in
theorem pdq_0 (lim : Int) (fv : Value) (w : World) : Calls Tryz.prog 157 #[.slice none 0 0, .int .i64 0, .int .i64 0, .int .i64 lim, fv] w fun e w' => e = .returned (.tuple #[]) ∧ w' = w := by
  go_enter Tryz.func157, Tryz.ntmps157
  go_wp2
  refine wp_loop_rounds 1 ?_
  rw [rounds_succ]
  go_wp2_with (go_at_call 179; refine (insertion_0 _ _).mono ?_; rintro e w' ⟨rfl, rfl⟩)
  (try simp only [Exit.inBlock, Exit.then])
  refine bodyPost_ret (results_none rfl _ _ _) rfl ?_
  exact ⟨rfl, rfl⟩

set_option maxHeartbeats 1000000 in
theorem sortFunc_0 (fv : Value) (w : World) : Calls Tryz.prog 128 #[.slice none 0 0, fv] w fun e w' => e = .returned (.tuple #[]) ∧ w' = w := by
  go_enter Tryz.func128, Tryz.ntmps128
  go_wp2_with (first | (go_at_call 158; refine (len64_0 _).mono ?_; rintro e w' ⟨⟨n, rfl⟩, rfl⟩) | (go_at_call 157; refine (pdq_0 _ _ _).mono ?_; rintro e w' ⟨rfl, rfl⟩))
  go_end0
  exact ⟨rfl, rfl⟩

#print axioms sortFunc_0
end Go.Proofs.YtigaphnafnpfnaaGreatDoor

