import Derived.Test.YtigaphnafnpfnaaGreatDoorHL1
import Derived.Test.YtigaphnafnpfnaaGreatDoorHJ1
set_option linter.unusedVariables false
set_option linter.unusedSimpArgs false
/- An act is opened with its line. -/
namespace Go.Proofs.YtigaphnafnpfnaaGreatDoor
open Go.RowKit
attribute [local go_sem ↓] Go.wp_at_zero Go.wp_at_succ

theorem lineF_ge (f : Nat → Int) (word : ByteArray) : ∀ k, word.size ≤ (lineF f word k).size
  | 0 => Nat.le_refl _
  | k + 1 => by
    have := lineF_ge f word k
    simp only [lineF, ByteArray.size_append]
    omega

theorem enterL_size (id owner : Int) (sym : ByteArray) (side kind price qty : Int) (hs : sym.size ≤ 100) (h1 : i64B id) (h2 : i64B owner) (h3 : i64B side) (h4 : i64B kind) (h5 : i64B price) (h6 : i64B qty) :
    0 < (enterL id owner sym side kind price qty).size ∧ (enterL id owner sym side kind price qty).size ≤ 290 := by
  have z1 := lineF_size (two id owner) wEnter 2 (fun i hi => by match i, hi with | 0, _ => exact h1 | 1, _ => exact h2)
  have z2 := lineF_size (four side kind price qty) sym 4 (fun i hi => by match i, hi with | 0, _ => exact h3 | 1, _ => exact h4 | 2, _ => exact h5 | 3, _ => exact h6)
  have g1 := lineF_ge (two id owner) wEnter 2
  have zE : wEnter.size = 5 := by decide
  rw [zE] at z1 g1
  have e : (ByteArray.mk #[32]).size = 1 := rfl
  simp only [enterL, ByteArray.size_append, e]
  omega

/-- an act is opened, in a world that has but grown -/
theorem begin_from (bv bm bo : Nat) (G : Lg) (m : Lm) (line : ByteArray) (w : World) (hL : IsLog w bv bm bo G m) (hna : G.na < 1000000) (h0 : 0 < line.size) (hl : line.size ≤ 290) :
    ∀ W, Chg Non w W → Calls Tryz.prog 51 #[.pointer (some ⟨bv, 0, none⟩), .string line] W fun e w' => e = .returned (.tuple #[]) ∧
      ∃ m', IsLog w' bv bm bo G.begun m' ∧ (∀ b, m'.F b → m.F b ∨ w.heap.size ≤ b) ∧ Chg (fun b => b = bv ∨ m.F b) w w' ∧ m'.tb = m.tb ∧ Chg (fun b => b = bv ∨ m.av.ownBlock = some b ∨ m.jv.ownBlock = some b) w w' := by
  intro W k
  refine (begin_act bv bm bo G m line W (hL.kept0 k) hna h0 hl).mono ?_
  rintro e w' ⟨rfl, m', h1, h2, h3, h4⟩
  have k2 : Chg (fun b => b = bv ∨ m.av.ownBlock = some b ∨ m.jv.ownBlock = some b) w w' := k.of_non.trans h3
  exact ⟨rfl, m', h1, fun b hb => (h2 b hb).imp_right (fun h => Nat.le_trans k.size h), k2.mono (fun b h => h.imp_right (fun h => h.elim (fun h => .inr (.inr (.inr (.inl h)))) (fun h => .inr (.inl (.inr h))))), h4, k2⟩

/-- the line of an order, in a world that has but grown -/
theorem lineE_from (id owner : Int) (sym : ByteArray) (side kind price qty : Int) (w : World) (hT : Tab w) (hs : sym.size ≤ 100) (h1 : i64B id) (h2 : i64B owner) (h3 : i64B side) (h4 : i64B kind) (h5 : i64B price) (h6 : i64B qty) :
    ∀ W, Chg Non w W → Calls Tryz.prog 113 #[.agg #[.int .i64 id, .int .i64 owner, .string sym, .int .i64 side, .int .i64 kind, .int .i64 price, .int .i64 qty]] W fun e w' => e = .returned (.string (enterL id owner sym side kind price qty)) ∧ Chg Non w w' := by
  intro W k
  refine (lineOfEnter_any id owner sym side kind price qty W (hT.kept0 k) (by omega) h1 h2 h3 h4 h5 h6).mono ?_
  rintro e w' ⟨rfl, k2⟩
  exact ⟨rfl, k.trans k2⟩

theorem i64_of {n : Int} (h : -1000000 ≤ n ∧ n ≤ 1000000) : i64B n := ⟨by omega, by omega⟩

end Go.Proofs.YtigaphnafnpfnaaGreatDoor

set_option linter.unusedVariables false
set_option linter.unusedSimpArgs false
namespace Go.Proofs.YtigaphnafnpfnaaGreatDoor
open Go.RowKit
attribute [local go_sem ↓] Go.wp_at_zero Go.wp_at_succ

/-- the line of a bust -/
def bustL (trade : Int) (again : Bool) : ByteArray := lineF (two trade (if again then 1 else 0)) wBust 2

theorem lineOfBust_any (trade : Int) (again : Bool) (w : World) (hT : Tab w) (h : i64B trade) :
    Calls Tryz.prog 72 #[.int .i64 trade, .bool again] w fun e w' => e = .returned (.string (bustL trade again)) ∧ Chg Non w w' := by
  have key : ∀ z : Int, i64B z → Calls Tryz.prog 65 #[.string ⟨#[98, 117, 115, 116]⟩, .slice (some ⟨w.heap.size, 0, none⟩) 2 2] (w.alloc (.cells #[.int .i64 trade, .int .i64 z] 3)) fun e w' => e = .returned (.string (lineF (two trade z) wBust 2)) ∧ Chg Non w w' := by
    intro z hz
    have k0 : Chg Non w (w.alloc (.cells #[.int .i64 trade, .int .i64 z] 3)) := (Chg.refl Non w).alloc _
    have b0 := Blk.new w #[.int .i64 trade, .int .i64 z] 3
    refine (lineOf_any wBust (two trade z) w.heap.size 2 2 _ (hT.kept0 k0) (by omega) (by decide) ?_ ?_).mono ?_
    · intro i hi
      match i, hi with
      | 0, _ => exact b0.cell 0
      | 1, _ => exact b0.cell 1
    · intro i hi
      match i, hi with
      | 0, _ => exact h
      | 1, _ => exact hz
    · rintro e w' ⟨rfl, k2⟩
      exact ⟨rfl, k0.trans k2⟩
  have K1 := hide (key 1 ⟨by omega, by omega⟩)
  have K0 := hide (key 0 ⟨by omega, by omega⟩)
  clear key hT
  cases again
  · go_enter Tryz.func72, Tryz.ntmps72
    go_wp2_with (go_at_call 65; refine (unhide K0).mono ?_; rintro e w' ⟨rfl, hk⟩; have HK := hide hk; clear hk)
    go_ret
    exact ⟨rfl, unhide HK⟩
  · go_enter Tryz.func72, Tryz.ntmps72
    go_wp2_with (go_at_call 65; refine (unhide K1).mono ?_; rintro e w' ⟨rfl, hk⟩; have HK := hide hk; clear hk)
    go_ret
    exact ⟨rfl, unhide HK⟩

theorem bustL_size (trade : Int) (again : Bool) (h : i64B trade) : 0 < (bustL trade again).size ∧ (bustL trade again).size ≤ 290 := by
  have z1 := lineF_size (two trade (if again then 1 else 0)) wBust 2 (fun i hi => by
    match i, hi with
    | 0, _ => exact h
    | 1, _ => show i64B (if again then 1 else 0); cases again <;> exact ⟨by simp, by simp⟩)
  have g1 := lineF_ge (two trade (if again then 1 else 0)) wBust 2
  have zE : wBust.size = 4 := by decide
  rw [zE] at z1 g1
  unfold bustL
  omega

theorem lineB_from (trade : Int) (again : Bool) (w : World) (hT : Tab w) (h : i64B trade) :
    ∀ W, Chg Non w W → Calls Tryz.prog 72 #[.int .i64 trade, .bool again] W fun e w' => e = .returned (.string (bustL trade again)) ∧ Chg Non w w' := by
  intro W k
  refine (lineOfBust_any trade again W (hT.kept0 k) h).mono ?_
  rintro e w' ⟨rfl, k2⟩
  exact ⟨rfl, k.trans k2⟩

def three (a b c : Int) (i : Nat) : Int := if i = 0 then a else if i = 1 then b else c

/-- a word and some numbers, in a world that has but grown -/
theorem lines_from (word : ByteArray) (f : Nat → Int) (m : Nat) (w : World) (hT : Tab w) (h0 : 0 < word.size) (hw : word.size ≤ 100) (hm : m ≤ 8) (hf : ∀ i, i < m → i64B (f i)) :
    (0 < (lineF f word m).size ∧ (lineF f word m).size ≤ 290) ∧ ∀ W, Chg Non w W → ∀ sb cap, (∀ i, i < m → W.cell? ⟨sb, i, none⟩ = some (.int .i64 (f i))) →
      Calls Tryz.prog 65 #[.string word, .slice (some ⟨sb, 0, none⟩) m cap] W fun e w' => e = .returned (.string (lineF f word m)) ∧ Chg Non w w' := by
  refine ⟨?_, fun W k sb cap hc => ?_⟩
  · have z1 := lineF_size f word m hf
    have g1 := lineF_ge f word m
    omega
  · refine (lineOf_any word f sb m cap W (hT.kept0 k) (by omega) (by omega) hc hf).mono ?_
    rintro e w' ⟨rfl, k2⟩
    exact ⟨rfl, k.trans k2⟩

theorem Tab.below {w w' : World} (h : Tab w) (b : Below w.heap.size w w') : Tab w' :=
  h.kept (S := fun k => w.heap.size ≤ k) ⟨b.os, b.tape, b.output, b.size, fun k hk _ => b.block k hk⟩ (fun x => by have := h.lt; omega)

end Go.Proofs.YtigaphnafnpfnaaGreatDoor

