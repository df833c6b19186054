import Derived.Test.YtigaphnafnpfnaaDoorL0
import Derived.Test.YtigaphnafnpfnaaDoorJ3
set_option linter.unusedVariables false
set_option linter.unusedSimpArgs false
/- An act is opened with its line. -/
namespace Go.Proofs.YtigaphnafnpfnaaDoor
open Go.RowKit
attribute [local go_sem ↓] Go.wp_at_zero Go.wp_at_succ

theorem lineF_ge (f : Nat → Int) (word : ByteArray) : ∀ k, word.size ≤ (lineF f word k).size
  | 0 => Nat.le_refl _
  | k + 1 => by
    have := lineF_ge f word k
    simp only [lineF, ByteArray.size_append]
    omega

theorem enterL_size (id owner : Int) (sym : ByteArray) (side kind price qty : Int) (hs : sym.size ≤ 100) (h1 : i64B id) (h2 : i64B owner) (h3 : i64B side) (h4 : i64B kind) (h5 : i64B price) (h6 : i64B qty) :
    0 < (enterL id owner sym side kind price qty).size ∧ (enterL id owner sym side kind price qty).size ≤ 290 := by
  have z1 := lineF_size (two id owner) wEnter 2 (fun i hi => by match i, hi with | 0, _ => exact h1 | 1, _ => exact h2)
  have z2 := lineF_size (four side kind price qty) sym 4 (fun i hi => by match i, hi with | 0, _ => exact h3 | 1, _ => exact h4 | 2, _ => exact h5 | 3, _ => exact h6)
  have g1 := lineF_ge (two id owner) wEnter 2
  have zE : wEnter.size = 5 := by decide
  rw [zE] at z1 g1
  have e : (ByteArray.mk #[32]).size = 1 := rfl
  simp only [enterL, ByteArray.size_append, e]
  omega

/-- an act is opened, in a world that has but grown -/
theorem begin_from (bv bm bo : Nat) (G : Lg) (m : Lm) (line : ByteArray) (w : World) (hL : IsLog w bv bm bo G m) (hna : G.na < 1000000) (h0 : 0 < line.size) (hl : line.size ≤ 290) :
    ∀ W, Chg Non w W → Calls Tryd.prog 17 #[.pointer (some ⟨bv, 0, none⟩), .string line] W fun e w' => e = .returned (.tuple #[]) ∧
      ∃ m', IsLog w' bv bm bo G.begun m' ∧ (∀ b, m'.F b → m.F b ∨ w.heap.size ≤ b) ∧ Chg (fun b => b = bv ∨ m.F b) w w' ∧ m'.tb = m.tb ∧ Chg (fun b => b = bv ∨ m.av.ownBlock = some b ∨ m.jv.ownBlock = some b) w w' := by
  intro W k
  refine (begin_act bv bm bo G m line W (hL.kept0 k) hna h0 hl).mono ?_
  rintro e w' ⟨rfl, m', h1, h2, h3, h4⟩
  have k2 : Chg (fun b => b = bv ∨ m.av.ownBlock = some b ∨ m.jv.ownBlock = some b) w w' := k.of_non.trans h3
  exact ⟨rfl, m', h1, fun b hb => (h2 b hb).imp_right (fun h => Nat.le_trans k.size h), k2.mono (fun b h => h.imp_right (fun h => h.elim (fun h => .inr (.inr (.inr (.inl h)))) (fun h => .inr (.inl (.inr h))))), h4, k2⟩

/-- the line of an order, in a world that has but grown -/
theorem lineE_from (id owner : Int) (sym : ByteArray) (side kind price qty : Int) (w : World) (hT : Tab w) (hs : sym.size ≤ 100) (h1 : i64B id) (h2 : i64B owner) (h3 : i64B side) (h4 : i64B kind) (h5 : i64B price) (h6 : i64B qty) :
    ∀ W, Chg Non w W → Calls Tryd.prog 18 #[.agg #[.int .i64 id, .int .i64 owner, .string sym, .int .i64 side, .int .i64 kind, .int .i64 price, .int .i64 qty]] W fun e w' => e = .returned (.string (enterL id owner sym side kind price qty)) ∧ Chg Non w w' := by
  intro W k
  refine (lineOfEnter_any id owner sym side kind price qty W (hT.kept0 k) (by omega) h1 h2 h3 h4 h5 h6).mono ?_
  rintro e w' ⟨rfl, k2⟩
  exact ⟨rfl, k.trans k2⟩

theorem i64_of {n : Int} (h : -1000000 ≤ n ∧ n ≤ 1000000) : i64B n := ⟨by omega, by omega⟩

end Go.Proofs.YtigaphnafnpfnaaDoor
