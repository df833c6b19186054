import Derived.Test.YtigaphnafnpfnaaGreatDoorGE6
import Derived.Test.YtigaphnafnpfnaaGreatDoorGA2
import Derived.Laws.AppendOwn
/- Levels -/
set_option linter.unusedVariables false
set_option linter.unusedSimpArgs false
namespace Go.Proofs.YtigaphnafnpfnaaGreatDoor
open Go.RowKit Go.Sort
attribute [local go_sem ↓] Go.wp_at_zero Go.wp_at_succ

structure Lvl where
  price : Int
  qty : Int
  num : Int

def Lvl.cells (l : Lvl) : List Value := [.int .i64 l.price, .int .i64 l.qty, .int .i64 l.num]
def flat (ls : List Lvl) : List Value := ls.flatMap Lvl.cells

theorem flat_length (ls : List Lvl) : (flat ls).length = 3 * ls.length := by
  induction ls with
  | nil => rfl
  | cons l ls ih => simp only [flat, List.flatMap_cons, List.length_append, List.length_cons] at *; simp only [Lvl.cells, List.length_cons, List.length_nil]; omega

theorem flat_at (ls : List Lvl) (k c : Nat) (hk : k < ls.length) (hc : c < 3) : (flat ls)[3 * k + c]? = (ls[k].cells)[c]? := by
  induction ls generalizing k with
  | nil => exact absurd hk (by simp)
  | cons l ls ih =>
    have hl : (Lvl.cells l).length = 3 := rfl
    cases k with
    | zero =>
      simp only [flat, List.flatMap_cons]
      rw [List.getElem?_append_left (by omega)]
      simp
    | succ k =>
      have := ih k (by simpa using hk)
      simp only [flat, List.flatMap_cons] at *
      rw [List.getElem?_append_right (by omega), hl, show 3 * (k + 1) + c - 3 = 3 * k + c from by omega, this]
      simp

/-- one more order comes to the levels -/
def lvStep (ls : List Lvl) (o : Ord) : List Lvl :=
  match ls.getLast? with
  | some l => if l.price = o.price then ls.dropLast ++ [⟨l.price, wrap64 (l.qty + o.opn), wrap64 (l.num + 1)⟩] else ls ++ [⟨o.price, wrap64 o.opn, 1⟩]
  | none => [⟨o.price, wrap64 o.opn, 1⟩]

def levelsOf (os : List Ord) : List Lvl := os.foldl lvStep []

/-- v is a new slice of levels -/
def LevV (n₀ : Nat) (W : World) (v : Value) (ls : List Lvl) : Prop :=
  (v = .slice none 0 0 ∧ ls = []) ∨ ∃ g cap cs, v = .slice (some ⟨g, 0, none⟩) ls.length cap ∧ n₀ ≤ g ∧ Blk W g cs 93 ∧ ls.length ≤ cap ∧ cap ≤ maxLen ∧ cs.size = cap * 3 ∧ cs.toList.take (ls.length * 3) = flat ls ∧ 0 < ls.length

theorem LevV.owns {n₀ : Nat} {W : World} {v : Value} {ls : List Lvl} (h : LevV n₀ W v ls) : W.ownsRow n₀ 93 3 v ls.length (flat ls) := by
  refine ⟨by rw [flat_length]; omega, ?_⟩
  rcases h with ⟨rfl, rfl⟩ | ⟨g, cap, cs, rfl, h1, h2, h3, h4, h5, h6⟩
  · exact .inl ⟨rfl, rfl⟩
  · exact .inr ⟨g, cap, cs, rfl, h1, h2, h3, h4, h5, h6.1⟩

theorem info68 : (Tryz.prog.info? 93).map (fun i => (i.zero, i.size, i.bytes)) = some (some (.agg #[.int .i64 0, .int .i64 0, .int .i64 0]), 3, 24) := by kernel_rfl

/-- the orders that the slice points to -/
def ordsOf (om : Nat → Ord) (ys : List Nat) : List Ord := ys.map om

def LevPost (om : Nat → Ord) (ys : List Nat) (n₀ : Nat) (w : World) (v : Value) (w' : World) : Prop := LevV n₀ w' v (levelsOf (ordsOf om ys)) ∧ Below n₀ w w'

/-- the world in a round: the sorted slice, the orders -/
structure LW (om : Nat → Ord) (ys : List Nat) (n₀ b : Nat) (W : World) : Prop where
  ptr : ∀ j, j < ys.length → W.cell? ⟨b, j, none⟩ = some (ptrV (ys.getD j 0))
  ord : ∀ x, x ∈ ys → ∃ ix, IsOrd W x (om x) ix

#print axioms flat_at
end Go.Proofs.YtigaphnafnpfnaaGreatDoor

