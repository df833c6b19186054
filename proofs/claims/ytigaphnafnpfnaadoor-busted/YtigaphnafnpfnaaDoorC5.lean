import Derived.Test.YtigaphnafnpfnaaDoorC4
import Derived.Lib.BufferWrite
import Derived.Lib.UnsafeStr
import Derived.Deep.OwnRows
set_option linter.unusedVariables false
set_option linter.unusedSimpArgs false
namespace Go.Proofs.YtigaphnafnpfnaaDoor
open Go.RowKit Go.Maps Go.Lib
attribute [local go_sem ↓] Go.wp_at_zero Go.wp_at_succ

theorem info5 : (Tryd.prog.info? 5).map (fun i => (i.zero, i.size, i.bytes)) = some (some (.int .u8 0), 1, 1) := by kernel_rfl
theorem cells5 : Tryd.prog.cellsOf 5 = 1 := by kernel_rfl

theorem Blk.setRow {w : World} {b : Nat} {c : Array Value} {t : TypeId} (h : Blk w b c t) (cs : Array Value) : Blk (w.setRow b cs) b cs t := by
  unfold Blk at h ⊢; simp [World.setRow, Array.getElem?_modify, h]

theorem Blk.shape {w : World} {b : Nat} {c : Array Value} {t : TypeId} (h : Blk w b c t) : w.shape? b = some (t, c.size) := by
  unfold Blk at h
  unfold World.shape?
  rw [h]

theorem heap_freeze (w : World) (a : Addr) (n k : Nat) (h : k ≠ a.block) : (w.freeze a n).heap[k]? = w.heap[k]? := by
  unfold World.freeze
  split
  · rfl
  · simp only [Array.getElem?_modify]
    rw [if_neg (by omega)]

theorem Chg.setRow {S : Nat → Prop} {a w : World} (h : Chg S a w) {b : Nat} (hb : S b ∨ a.heap.size ≤ b) (cs : Array Value) : Chg S a (w.setRow b cs) :=
  ⟨h.os, h.tape, h.output, by have := h.size; simpa [World.setRow] using this, fun k hk hs => by
    have hne : k ≠ b := by rintro rfl; rcases hb with hb | hb; exact hs hb; omega
    have : (w.setRow b cs).heap[k]? = w.heap[k]? := by simp only [World.setRow, Array.getElem?_modify]; rw [if_neg (by omega)]
    rw [this]; exact h.block k hk hs⟩

theorem Chg.freeze {S : Nat → Prop} {a w : World} (h : Chg S a w) {p : Addr} (hp : S p.block ∨ a.heap.size ≤ p.block) (n : Nat) : Chg S a (w.freeze p n) := by
  refine ⟨?_, ?_, ?_, ?_, fun k hk hs => ?_⟩
  · unfold World.freeze; split <;> exact h.os
  · unfold World.freeze; split <;> exact h.tape
  · unfold World.freeze; split <;> exact h.output
  · unfold World.freeze; split
    · exact h.size
    · have := h.size; simpa using this
  · rw [heap_freeze _ _ _ _ (by rintro rfl; rcases hp with hp | hp; exact hs hp; omega)]
    exact h.block k hk hs

set_option maxHeartbeats 1000000 in
theorem cloneLite_any (s : ByteArray) (w : World) (hs : s.size ≤ 100000) : Calls Tryd.prog 47 #[.string s] w fun e w' => e = .returned (.string s) ∧ Chg Non w w' := by
  by_cases h0 : s.size = 0
  · have e0 : ((s.size : Int) == 0) = true := by rw [h0]; rfl
    have hse : Hid (s = ByteArray.empty) := by
      show s = _
      exact ByteArray.ext (Array.eq_empty_of_size_eq_zero h0)
    clear h0
    go_enter Tryd.func47, Tryd.ntmps47
    go_wp2
    go_ret
    exact ⟨by rw [unhide hse]; rfl, Chg.refl _ _⟩
  · have e0 : ((s.size : Int) == 0) = false := beq_eq_false_iff_ne.2 (by omega)
    have p0 : 0 < s.size := by omega
    have hmk := run_make_row' (P := Tryd.prog) 60 5 (.int .u8 0) 1 Tryd.underlying60 info5 rfl .i64 .i64 s.size (by omega) (by omega)
    have hbA : Blk (w.alloc (.cells (madeCells #[.int .u8 0] s.size) 5)) w.heap.size (madeCells #[.int .u8 0] s.size) 5 := Blk.new w _ _
    have hcp := fun ty => run_copy_row_string (P := Tryd.prog) (w.alloc (.cells (madeCells #[.int .u8 0] s.size) 5)) 60 9 ty 5 w.heap.size 0 s.size s.size s (madeCells #[.int .u8 0] s.size) 5 Tryd.underlying60 (by kernel_rfl) hbA (Nat.le_refl _) (by rw [size_madeCells]; omega)
    have hl : s.data.toList.length = s.size := by rw [Array.length_toList]; rfl
    obtain ⟨X, hX⟩ : ∃ X, X = (byteCells s.data.toList ++ List.drop s.size (madeCells #[.int .u8 0] s.size).toList).toArray := ⟨_, rfl⟩
    have hbB := hbA.setRow X
    have hXs : X.size = s.size := by rw [hX]; simp [byteCells_length, size_madeCells, hl]
    have hus := fun ty => run_unsafeString_row (P := Tryd.prog) (w := (w.alloc (.cells (madeCells #[.int .u8 0] s.size) 5)).setRow w.heap.size X) 109 3 ty 5 Tryd.underlying109 cells5 w.heap.size X.size (hbB.shape) s.data.toList (by intro e; rw [e] at hl; simp at hl; omega) (by rw [hl, hXs]; omega) (by rw [hl]; omega) (by
      intro j x hj
      refine World.news_of_block hbB j _ ?_
      have hj' : j < s.data.toList.length := (List.getElem?_eq_some_iff.1 hj).1
      rw [hX]
      simp only [List.toList_toArray]
      rw [List.getElem?_append_left (by rw [byteCells_length]; exact hj')]
      simp only [byteCells, List.getElem?_map, hj, Option.map_some])
    have hfin : (⟨s.data.toList.toArray⟩ : ByteArray) = s := by simp
    rw [hl, hfin, hX] at hus
    clear hbB hbA hXs hX h0 hl hfin
    go_enter Tryd.func47, Tryd.ntmps47
    go_wp2
    go_ret
    exact ⟨rfl, (((Chg.refl Non w).alloc _).setRow (.inr (Nat.le_refl _)) _).freeze (.inr (Nat.le_refl _)) _⟩

theorem clone_any (s : ByteArray) (w : World) (hs : s.size ≤ 100000) : Calls Tryd.prog 22 #[.string s] w fun e w' => e = .returned (.string s) ∧ Chg Non w w' := by
  go_enter Tryd.func22, Tryd.ntmps22
  go_wp2_with fail
  refine (cloneLite_any s w hs).mono ?_
  rintro e w' ⟨rfl, k⟩
  go_wp2
  go_ret
  exact ⟨rfl, k⟩

end Go.Proofs.YtigaphnafnpfnaaDoor
