import Derived.Test.YtigaphnafnpfnaaDoorJ5
set_option linter.unusedVariables false
set_option linter.unusedSimpArgs false
namespace Go.Proofs.YtigaphnafnpfnaaDoor
open Go.RowKit
attribute [local go_sem ↓] Go.wp_at_zero Go.wp_at_succ

/-- the line of a bust -/
def bustL (trade : Int) (again : Bool) : ByteArray := lineF (two trade (if again then 1 else 0)) wBust 2

theorem lineOfBust_any (trade : Int) (again : Bool) (w : World) (hT : Tab w) (h : i64B trade) :
    Calls Tryd.prog 24 #[.int .i64 trade, .bool again] w fun e w' => e = .returned (.string (bustL trade again)) ∧ Chg Non w w' := by
  have key : ∀ z : Int, i64B z → Calls Tryd.prog 29 #[.string ⟨#[98, 117, 115, 116]⟩, .slice (some ⟨w.heap.size, 0, none⟩) 2 2] (w.alloc (.cells #[.int .i64 trade, .int .i64 z] 3)) fun e w' => e = .returned (.string (lineF (two trade z) wBust 2)) ∧ Chg Non w w' := by
    intro z hz
    have k0 : Chg Non w (w.alloc (.cells #[.int .i64 trade, .int .i64 z] 3)) := (Chg.refl Non w).alloc _
    have b0 := Blk.new w #[.int .i64 trade, .int .i64 z] 3
    refine (lineOf_any wBust (two trade z) w.heap.size 2 2 _ (hT.kept0 k0) (by omega) (by decide) ?_ ?_).mono ?_
    · intro i hi
      match i, hi with
      | 0, _ => exact b0.cell 0
      | 1, _ => exact b0.cell 1
    · intro i hi
      match i, hi with
      | 0, _ => exact h
      | 1, _ => exact hz
    · rintro e w' ⟨rfl, k2⟩
      exact ⟨rfl, k0.trans k2⟩
  have K1 := hide (key 1 ⟨by omega, by omega⟩)
  have K0 := hide (key 0 ⟨by omega, by omega⟩)
  clear key hT
  cases again
  · go_enter Tryd.func24, Tryd.ntmps24
    go_wp2_with (go_at_call 29; refine (unhide K0).mono ?_; rintro e w' ⟨rfl, hk⟩; have HK := hide hk; clear hk)
    go_ret
    exact ⟨rfl, unhide HK⟩
  · go_enter Tryd.func24, Tryd.ntmps24
    go_wp2_with (go_at_call 29; refine (unhide K1).mono ?_; rintro e w' ⟨rfl, hk⟩; have HK := hide hk; clear hk)
    go_ret
    exact ⟨rfl, unhide HK⟩

theorem bustL_size (trade : Int) (again : Bool) (h : i64B trade) : 0 < (bustL trade again).size ∧ (bustL trade again).size ≤ 290 := by
  have z1 := lineF_size (two trade (if again then 1 else 0)) wBust 2 (fun i hi => by
    match i, hi with
    | 0, _ => exact h
    | 1, _ => show i64B (if again then 1 else 0); cases again <;> exact ⟨by simp, by simp⟩)
  have g1 := lineF_ge (two trade (if again then 1 else 0)) wBust 2
  have zE : wBust.size = 4 := by decide
  rw [zE] at z1 g1
  unfold bustL
  omega

theorem lineB_from (trade : Int) (again : Bool) (w : World) (hT : Tab w) (h : i64B trade) :
    ∀ W, Chg Non w W → Calls Tryd.prog 24 #[.int .i64 trade, .bool again] W fun e w' => e = .returned (.string (bustL trade again)) ∧ Chg Non w w' := by
  intro W k
  refine (lineOfBust_any trade again W (hT.kept0 k) h).mono ?_
  rintro e w' ⟨rfl, k2⟩
  exact ⟨rfl, k.trans k2⟩

/-- a word and some numbers, in a world that has but grown -/
theorem lines_from (word : ByteArray) (f : Nat → Int) (m : Nat) (w : World) (hT : Tab w) (h0 : 0 < word.size) (hw : word.size ≤ 100) (hm : m ≤ 8) (hf : ∀ i, i < m → i64B (f i)) :
    (0 < (lineF f word m).size ∧ (lineF f word m).size ≤ 290) ∧ ∀ W, Chg Non w W → ∀ sb cap, (∀ i, i < m → W.cell? ⟨sb, i, none⟩ = some (.int .i64 (f i))) →
      Calls Tryd.prog 29 #[.string word, .slice (some ⟨sb, 0, none⟩) m cap] W fun e w' => e = .returned (.string (lineF f word m)) ∧ Chg Non w w' := by
  refine ⟨?_, fun W k sb cap hc => ?_⟩
  · have z1 := lineF_size f word m hf
    have g1 := lineF_ge f word m
    omega
  · refine (lineOf_any word f sb m cap W (hT.kept0 k) (by omega) (by omega) hc hf).mono ?_
    rintro e w' ⟨rfl, k2⟩
    exact ⟨rfl, k.trans k2⟩

theorem Tab.below {w w' : World} (h : Tab w) (b : Below w.heap.size w w') : Tab w' :=
  h.kept (S := fun k => w.heap.size ≤ k) ⟨b.os, b.tape, b.output, b.size, fun k hk _ => b.block k hk⟩ (fun x => by have := h.lt; omega)

end Go.Proofs.YtigaphnafnpfnaaDoor
