import Derived.Test.YtigaphnafnpfnaaDoorRows
import Derived.Test.YtigaphnafnpfnaaDoorW
import Derived.Deep.QuietTactic
import Derived.BigQuiet
import Derived.BigRegion
import Derived.Deep.RegionWith
import Derived.Deep.LoopGhost
import Derived.Deep.RegionHeld3
import Derived.Deep.DrawnRows
import Derived.Shelf.LaysM
import Derived.Shelf.Strconv.Itoa3
import Derived.Lib.ItoaLen
set_option linter.unusedVariables false
set_option linter.unusedSimpArgs false
/- Lines of the journal: numbers in decimals, a word and numbers. -/
namespace Go.Proofs.YtigaphnafnpfnaaDoor
open Go.RowKit
open Go.Shelf
attribute [local go_sem ↓] Go.wp_at_zero Go.wp_at_succ

def laysM171_ren : Go.Shelf.Ren := ⟨fun | 171 => 51 | 243 => 61 | 246 => 67 | 283 => 72 | 284 => 73 | 285 => 74 | 286 => 75 | 129 => 77 | 317 => 76 | 318 => 78 | 319 => 79 | 320 => 80 | 337 => 81 | 338 => 82 | n => n, fun | 3 => 3 | 9 => 9 | 2 => 2 | 4 => 4 | 171 => 124 | 0 => 0 | 53 => 125 | 37 => 60 | 5 => 5 | 173 => 128 | 212 => 131 | 51 => 132 | 20 => 20 | 213 => 133 | 46 => 134 | 232 => 137 | 233 => 138 | n => n, fun | 17 => 0 | 18 => 1 | 19 => 2 | n => n⟩
theorem laysM171 : Go.Proofs.LaysM.n171 Tryd.prog laysM171_ren :=
  { mixed := by kernel_rfl,
    f129 := Tryd.func77.trans (congrArg some (by kernel_rfl)),
    f171 := Tryd.func51.trans (congrArg some (by kernel_rfl)),
    f243 := Tryd.func61.trans (congrArg some (by kernel_rfl)),
    f246 := Tryd.func67.trans (congrArg some (by kernel_rfl)),
    f283 := Tryd.func72.trans (congrArg some (by kernel_rfl)),
    f284 := Tryd.func73.trans (congrArg some (by kernel_rfl)),
    f285 := Tryd.func74.trans (congrArg some (by kernel_rfl)),
    f286 := Tryd.func75.trans (congrArg some (by kernel_rfl)),
    f317 := Tryd.func76.trans (congrArg some (by kernel_rfl)),
    f318 := Tryd.func78.trans (congrArg some (by kernel_rfl)),
    f319 := Tryd.func79.trans (congrArg some (by kernel_rfl)),
    f320 := Tryd.func80.trans (congrArg some (by kernel_rfl)),
    f337 := Tryd.func81.trans (congrArg some (by kernel_rfl)),
    f338 := Tryd.func82.trans (congrArg some (by kernel_rfl)),
    t0 := Tryd.underlying0,
    a0 := Tryd.isAgg0,
    z0 := Tryd.sizeOf0,
    v0 := Tryd.zeroValue0,
    t2 := Tryd.underlying2,
    a2 := Tryd.isAgg2,
    z2 := Tryd.sizeOf2,
    v2 := Tryd.zeroValue2,
    t3 := Tryd.underlying3,
    a3 := Tryd.isAgg3,
    z3 := Tryd.sizeOf3,
    v3 := Tryd.zeroValue3,
    t4 := Tryd.underlying4,
    a4 := Tryd.isAgg4,
    z4 := Tryd.sizeOf4,
    v4 := Tryd.zeroValue4,
    t5 := Tryd.underlying5,
    a5 := Tryd.isAgg5,
    z5 := Tryd.sizeOf5,
    v5 := Tryd.zeroValue5,
    t9 := Tryd.underlying9,
    a9 := Tryd.isAgg9,
    z9 := Tryd.sizeOf9,
    v9 := Tryd.zeroValue9,
    t20 := Tryd.underlying20,
    a20 := Tryd.isAgg20,
    z20 := Tryd.sizeOf20,
    v20 := Tryd.zeroValue20,
    t37 := Tryd.underlying60,
    a37 := Tryd.isAgg60,
    z37 := Tryd.sizeOf60,
    v37 := Tryd.zeroValue60,
    t46 := Tryd.underlying134,
    a46 := Tryd.isAgg134,
    z46 := Tryd.sizeOf134,
    v46 := Tryd.zeroValue134,
    t51 := Tryd.underlying132,
    a51 := Tryd.isAgg132,
    z51 := Tryd.sizeOf132,
    v51 := Tryd.zeroValue132,
    t53 := Tryd.underlying125,
    a53 := Tryd.isAgg125,
    z53 := Tryd.sizeOf125,
    v53 := Tryd.zeroValue125,
    t171 := Tryd.underlying124,
    a171 := Tryd.isAgg124,
    z171 := Tryd.sizeOf124,
    v171 := Tryd.zeroValue124,
    t173 := Tryd.underlying128,
    a173 := Tryd.isAgg128,
    z173 := Tryd.sizeOf128,
    v173 := Tryd.zeroValue128,
    t212 := Tryd.underlying131,
    a212 := Tryd.isAgg131,
    z212 := Tryd.sizeOf131,
    v212 := Tryd.zeroValue131,
    t213 := Tryd.underlying133,
    a213 := Tryd.isAgg133,
    z213 := Tryd.sizeOf133,
    t232 := Tryd.underlying137,
    a232 := Tryd.isAgg137,
    z232 := Tryd.sizeOf137,
    v232 := Tryd.zeroValue137,
    t233 := Tryd.underlying138,
    a233 := Tryd.isAgg138,
    z233 := Tryd.sizeOf138,
    v233 := Tryd.zeroValue138,
    g17 := by kernel_rfl,
    g18 := by kernel_rfl,
    g19 := by kernel_rfl,
    i0 := by kernel_rfl,
    i2 := by kernel_rfl,
    i3 := by kernel_rfl,
    i4 := by kernel_rfl,
    i5 := by kernel_rfl,
    i9 := by kernel_rfl,
    i20 := by kernel_rfl,
    i37 := by kernel_rfl,
    i46 := by kernel_rfl,
    i51 := by kernel_rfl,
    i53 := by kernel_rfl,
    i171 := by kernel_rfl,
    i173 := by kernel_rfl,
    i212 := by kernel_rfl,
    i232 := by kernel_rfl,
    i233 := by kernel_rfl,
    m17 := by kernel_rfl,
    m18 := by kernel_rfl,
    m19 := by kernel_rfl }

/-- the table that strconv reads -/
def Tab (w : World) : Prop := Lib.TabIs Tryd.prog w "internal/strconv.uint64pow10" .u64 Lib.pow10Tab

/-- its block -/
def tabAt : Nat := 0

theorem tab_at : Tryd.prog.globalNamed "internal/strconv.uint64pow10" = some tabAt := by kernel_rfl

theorem Tab.kept {S : Nat → Prop} {w w' : World} (h : Tab w) (k : Chg S w w') (hS : ¬ S tabAt) : Tab w' := by
  unfold Tab Lib.TabIs World.var? at h ⊢
  rw [tab_at] at h ⊢
  simp only [Option.bind_some] at h ⊢
  have hlt : tabAt < w.heap.size := by
    rcases Nat.lt_or_ge tabAt w.heap.size with h' | h'
    · exact h'
    · rw [Array.getElem?_eq_none h'] at h; simp at h
  rw [k.block tabAt hlt hS]
  exact h

theorem Tab.lt {w : World} (h : Tab w) : tabAt < w.heap.size := by
  unfold Tab Lib.TabIs World.var? at h
  rw [tab_at] at h
  simp only [Option.bind_some] at h
  rcases Nat.lt_or_ge tabAt w.heap.size with h' | h'
  · exact h'
  · rw [Array.getElem?_eq_none h'] at h; simp at h

theorem Tab.kept0 {w w' : World} (h : Tab w) (k : Chg Non w w') : Tab w' := h.kept k (fun x => x)

theorem itoa_any (n : Int) (h0 : -9223372036854775808 ≤ n) (h1 : n ≤ 9223372036854775807) (w : World) (hT : Tab w) :
    Calls Tryd.prog 51 #[.int .i64 n] w fun e w' => e = .returned (.string ⟨(Lib.itoa n).toArray⟩) ∧ Chg Non w w' := by
  refine (Any.strconv_Itoa laysM171 n h0 h1 w hT).mono ?_
  rintro e w' ⟨rfl, k, os, rfl⟩
  refine ⟨rfl, rfl, rfl, rfl, ?_, ?_⟩
  · show w.heap.size ≤ (w.heap ++ os).size
    rw [Array.size_append]; omega
  · intro j hj _
    show (w.heap ++ os)[j]? = w.heap[j]?
    rw [Array.getElem?_append_left hj]

/-- a blank and a number -/
def numS (n : Int) : ByteArray := ⟨#[32]⟩ ++ ⟨(Lib.itoa n).toArray⟩

def lineF (f : Nat → Int) (word : ByteArray) : Nat → ByteArray
  | 0 => word
  | i + 1 => lineF f word i ++ numS (f i)

theorem numS_size (n : Int) (h0 : -9223372036854775808 ≤ n) (h1 : n ≤ 9223372036854775807) : (numS n).size ≤ 22 := by
  have := Lib.itoa_length_le n h0 h1
  have e : (numS n).size = 1 + (Lib.itoa n).length := by simp [numS, ByteArray.size_append]; rfl
  omega

theorem lineF_size (f : Nat → Int) (word : ByteArray) : ∀ k, (∀ i, i < k → -9223372036854775808 ≤ f i ∧ f i ≤ 9223372036854775807) → (lineF f word k).size ≤ word.size + 22 * k
  | 0, _ => by simp [lineF]
  | k + 1, h => by
    have h1 := lineF_size f word k (fun i hi => h i (by omega))
    have h2 := numS_size (f k) (h k (by omega)).1 (h k (by omega)).2
    simp only [lineF, ByteArray.size_append]
    omega

end Go.Proofs.YtigaphnafnpfnaaDoor
