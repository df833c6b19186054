import Derived.Test.YtigaphnafnpfnaaGreatDoorGM3
import Derived.Test.YtigaphnafnpfnaaGreatDoorGE8
/- What the levels of a side say. Without memory. -/
set_option linter.unusedVariables false
set_option linter.unusedSimpArgs false
namespace Go.Proofs.YtigaphnafnpfnaaGreatDoor
open Go.RowKit

def sumL (ls : List Int) : Int := ls.foldr (· + ·) 0
theorem sumL_append (a b : List Int) : sumL (a ++ b) = sumL a + sumL b := by
  induction a with
  | nil => simp [sumL]
  | cons x a ih => simp only [sumL, List.cons_append, List.foldr_cons] at ih ⊢; rw [ih]; omega
theorem sumL_nil : sumL [] = 0 := rfl
theorem sumL_cons (x : Int) (a : List Int) : sumL (x :: a) = x + sumL a := rfl
theorem sumL_perm {a b : List Int} (h : a.Perm b) : sumL a = sumL b := by
  induction h with
  | nil => rfl
  | cons x _ ih => rw [sumL_cons, sumL_cons, ih]
  | swap x y l => rw [sumL_cons, sumL_cons, sumL_cons, sumL_cons]; omega
  | trans _ _ h1 h2 => rw [h1, h2]
theorem sumL_bound {a : List Int} (h : ∀ x ∈ a, 0 ≤ x ∧ x ≤ 1000000) : 0 ≤ sumL a ∧ sumL a ≤ 1000000 * a.length := by
  induction a with
  | nil => simp [sumL]
  | cons x a ih =>
    have h1 := h x (by simp)
    have h2 := ih (fun y hy => h y (by simp [hy]))
    rw [sumL_cons]
    simp only [List.length_cons]
    push_cast
    omega

/-- strictly worse -/
def worse (s : Int) (p q : Int) : Prop := if s = 0 then q < p else p < q

structure LInv (s : Int) (zs : List Ord) (ls : List Lvl) : Prop where
  sum : sumL (ls.map (·.qty)) = sumL (zs.map (·.opn))
  num : ∀ l ∈ ls, 1 ≤ l.num ∧ l.num ≤ l.qty ∧ l.qty ≤ sumL (zs.map (·.opn)) ∧ l.num ≤ zs.length
  mono : ls.Pairwise (fun a b => worse s a.price b.price)
  src : ∀ l ∈ ls, ∃ o ∈ zs, o.price = l.price
  last : ∀ l, ls.getLast? = some l → ∃ o, zs.getLast? = some o ∧ o.price = l.price
  nil : ls = [] ↔ zs = []

theorem lInv_step {s : Int} {zs : List Ord} {ls : List Lvl} {o : Ord} (h : LInv s zs ls) (hz : ∀ x ∈ zs, 0 < x.opn ∧ x.opn ≤ 1000000) (ho : 0 < o.opn ∧ o.opn ≤ 1000000) (hlen : zs.length ≤ 1000)
    (hs : ∀ l, zs.getLast? = some l → o.price = l.price ∨ worse s l.price o.price) : LInv s (zs ++ [o]) (lvStep ls o) := by
  have hb := sumL_bound (a := zs.map (·.opn)) (by intro x hx; simp only [List.mem_map] at hx; obtain ⟨y, hy, rfl⟩ := hx; have := hz y hy; omega)
  rw [List.length_map] at hb
  have ew : wrap64 o.opn = o.opn := wrap64_id (by omega) (by omega)
  have sumz : sumL ((zs ++ [o]).map (·.opn)) = sumL (zs.map (·.opn)) + o.opn := by rw [List.map_append, sumL_append]; simp [sumL]
  rcases List.eq_nil_or_concat ls with rfl | ⟨ini, l, rfl⟩
  · have hzn : zs = [] := h.nil.1 rfl
    subst hzn
    simp only [lvStep, List.getLast?_nil, ew, List.nil_append]
    refine ⟨by simp [sumL], ?_, by simp, ?_, ?_, by simp⟩
    · intro l hl
      simp only [List.mem_singleton] at hl
      subst hl
      simp [sumL]; omega
    · intro l hl
      simp only [List.mem_singleton] at hl
      subst hl
      exact ⟨o, by simp, rfl⟩
    · intro l hl
      simp only [List.getLast?_singleton, Option.some.injEq] at hl
      subst hl
      exact ⟨o, by simp, rfl⟩
  · rw [List.concat_eq_append] at h ⊢
    have hl := h.num l (by simp)
    obtain ⟨oz, hoz, ep⟩ := h.last l (by simp)
    have hrel := hs oz hoz
    rw [ep] at hrel
    by_cases e : l.price = o.price
    · rw [lvStep_same ini l o e]
      have w1 : wrap64 (l.qty + o.opn) = l.qty + o.opn := wrap64_id (by omega) (by omega)
      have w2 : wrap64 (l.num + 1) = l.num + 1 := wrap64_id (by omega) (by omega)
      rw [w1, w2]
      refine ⟨?_, fun x hx => ?_, ?_, fun x hx => ?_, fun x hx => ?_, by simp⟩
      · rw [sumz, ← h.sum]
        simp only [List.map_append, sumL_append, List.map_cons, List.map_nil, sumL_cons, sumL_nil]
        omega
      · rw [sumz]
        simp only [List.length_append, List.length_cons, List.length_nil]
        simp only [List.mem_append, List.mem_singleton] at hx
        rcases hx with hx | hx
        · have := h.num x (by simp [hx]); push_cast; omega
        · subst hx; simp only; push_cast; omega
      · have hp := h.mono
        rw [List.pairwise_append] at hp ⊢
        refine ⟨hp.1, by simp, fun x hx y hy => ?_⟩
        simp only [List.mem_singleton] at hy
        subst hy
        exact hp.2.2 x hx l (by simp)
      · simp only [List.mem_append, List.mem_singleton] at hx
        rcases hx with hx | hx
        · obtain ⟨y, hy, e'⟩ := h.src x (by simp [hx])
          exact ⟨y, by simp [hy], e'⟩
        · subst hx; exact ⟨o, by simp, e.symm⟩
      · simp only [List.getLast?_append, List.getLast?_singleton, Option.some_or, Option.some.injEq] at hx
        subst hx
        exact ⟨o, by simp, e.symm⟩
    · have hw : worse s l.price o.price := hrel.resolve_left (fun h => e h.symm)
      rw [lvStep_other ini l o e, ew]
      refine ⟨?_, fun x hx => ?_, ?_, fun x hx => ?_, fun x hx => ?_, by simp⟩
      · rw [sumz, ← h.sum]
        rw [List.map_append (l₁ := ini ++ [l]), sumL_append]
        simp [sumL]
      · rw [sumz]
        simp only [List.length_append, List.length_cons, List.length_nil]
        rw [List.mem_append] at hx
        rcases hx with hx | hx
        · have := h.num x hx; push_cast; omega
        · simp only [List.mem_singleton] at hx
          rw [hx]
          refine ⟨Int.le_refl _, ?_, ?_, ?_⟩
          · show (1 : Int) ≤ o.opn; omega
          · show o.opn ≤ _; omega
          · show (1 : Int) ≤ ((zs.length + (0 + 1) : Nat) : Int); push_cast; omega
      · rw [List.pairwise_append]
        refine ⟨h.mono, by simp, fun x hx y hy => ?_⟩
        simp only [List.mem_singleton] at hy
        subst hy
        simp only
        by_cases ex : x = l
        · rw [ex]; exact hw
        · have hp := h.mono
          rw [List.pairwise_append] at hp
          have hxi : x ∈ ini := by
            simp only [List.mem_append, List.mem_singleton] at hx
            exact hx.resolve_right ex
          have := hp.2.2 x hxi l (by simp)
          unfold worse at this hw ⊢
          split at this <;> rename_i hc
          · rw [if_pos hc] at hw ⊢; omega
          · rw [if_neg hc] at hw ⊢; omega
      · rw [List.mem_append] at hx
        rcases hx with hx | hx
        · obtain ⟨y, hy, e'⟩ := h.src x hx
          exact ⟨y, by simp [hy], e'⟩
        · simp only [List.mem_singleton] at hx; subst hx; exact ⟨o, by simp, rfl⟩
      · simp only [List.getLast?_append, List.getLast?_singleton, Option.some_or, Option.some.injEq] at hx
        subst hx
        exact ⟨o, by simp, rfl⟩

theorem lInv_levels {s : Int} (os : List Ord) (hz : ∀ x ∈ os, 0 < x.opn ∧ x.opn ≤ 1000000) (hlen : os.length ≤ 1000) (hs : os.Pairwise (fun a b => b.price = a.price ∨ worse s a.price b.price)) : LInv s os (levelsOf os) := by
  have gen : ∀ (suf pre : List Ord) (ls : List Lvl), pre ++ suf = os → LInv s pre ls → LInv s os (suf.foldl lvStep ls) := by
    intro suf
    induction suf with
    | nil => intro pre ls e h; simp only [List.append_nil] at e; subst e; exact h
    | cons o suf ih =>
      intro pre ls e h
      rw [List.foldl_cons]
      have hp : pre.length ≤ os.length := by rw [← e]; simp
      refine ih (pre ++ [o]) _ (by rw [← e]; simp) (lInv_step h (fun x hx => hz x (by rw [← e]; simp [hx])) (hz o (by rw [← e]; simp)) (by omega) (fun l hl => ?_))
      rw [← e, List.pairwise_append] at hs
      exact hs.2.2 l (List.mem_of_getLast? hl) o (by simp)
  exact gen os [] [] rfl ⟨rfl, by simp, by simp, by simp, by simp, by simp⟩

/-- the levels of a side of a good book -/
theorem levels_side {om : Nat → Ord} {n s : Nat} {h : Nat → Nat} {ys : List Nat} (hy : SortYs om n h ys) (hs : s < 2) (hside : ∀ k, k < n → (om (h k)).side = (s : Int)) (hop : ∀ k, k < n → 0 < (om (h k)).opn ∧ (om (h k)).opn ≤ 1000000) (hn : n ≤ 1000) : LInv (s : Int) (ordsOf om ys) (levelsOf (ordsOf om ys)) ∧ (∀ o ∈ ordsOf om ys, ∃ k, k < n ∧ o = om (h k)) ∧ sumL ((ordsOf om ys).map (·.opn)) = sumL ((upto h n).map (fun x => (om x).opn)) := by
  have hmem : ∀ x ∈ ys, ∃ k, k < n ∧ x = h k := fun x hx => by
    have := hy.1.mem_iff.1 hx
    simp only [upto, List.mem_map, List.mem_range] at this
    obtain ⟨k, hk, e⟩ := this
    exact ⟨k, hk, e.symm⟩
  have hmemO : ∀ o ∈ ordsOf om ys, ∃ k, k < n ∧ o = om (h k) := fun o ho => by
    simp only [ordsOf, List.mem_map] at ho
    obtain ⟨x, hx, rfl⟩ := ho
    obtain ⟨k, hk, rfl⟩ := hmem x hx
    exact ⟨k, hk, rfl⟩
  refine ⟨lInv_levels _ (fun o ho => ?_) ?_ ?_, hmemO, ?_⟩
  · obtain ⟨k, hk, rfl⟩ := hmemO o ho; exact hop k hk
  · simp only [ordsOf, List.length_map]; rw [hy.1.length_eq, upto_length]; exact hn
  · unfold ordsOf
    rw [List.pairwise_map]
    refine hy.2.imp_of_mem (fun {a b} ha hb hab => ?_)
    obtain ⟨k, hk, rfl⟩ := hmem a ha
    obtain ⟨l, hl, rfl⟩ := hmem b hb
    have := (lessB_iff' _ _).1 hab
    rw [hside l hl] at this
    unfold worse
    by_cases e : (s : Int) = 0
    · rw [if_pos e] at this ⊢; omega
    · rw [if_neg e] at this ⊢; omega
  · unfold ordsOf
    rw [List.map_map]
    exact sumL_perm (hy.1.map _)

end Go.Proofs.YtigaphnafnpfnaaGreatDoor

