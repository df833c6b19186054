import Derived.Test.YtigaphnafnpfnaaGreatDoorRows
import Derived.RangeFuncBox
import Derived.RangeFuncNested
import Derived.RangeFuncBound
import Derived.RangeFuncCalls
import Derived.RangeFuncLeaves
import Derived.Shelf.Abstract
import Derived.Shelf.RegionOpen
import Derived.WalkKit
import Derived.OwnWalkIn
import Derived.TacticsInMore
import Derived.LoopNIn
import Derived.LoopIn
import Derived.Maps.AppendAt
import Derived.Test.YtigaphnafnpfnaaGreatDoorHA2
import Derived.Sort.Grow
import Derived.Shelf.Small.Bits
import Derived.Shelf.SlSortCmp.Kit1
import Derived.Shelf.GgSortFunc.Compose
import Derived.Test.YtigaphnafnpfnaaGreatDoorHE1
import Derived.Shelf.SlSortCmp.Whole1
import Derived.Laws.AppendOwn
/- slices.Values, AppendSeq, Collect at pointers to orders -/
set_option linter.unusedVariables false
set_option linter.unusedSimpArgs false
namespace Go.Proofs.YtigaphnafnpfnaaGreatDoor
open Go.RowKit Go.Shelf
attribute [local go_sem] Oper.semAt_some

/-- a pointer to the order of a block -/
def ptrV (x : Nat) : Value := .pointer (some ⟨x, 0, none⟩)

def upto (f : Nat → Nat) (k : Nat) : List Nat := (List.range k).map f
theorem upto_succ (f : Nat → Nat) (k : Nat) : upto f (k + 1) = upto f k ++ [f k] := by simp [upto, List.range_succ]
theorem upto_length (f : Nat → Nat) (k : Nat) : (upto f k).length = k := by simp [upto]

set_option maxRecDepth 100000 in
set_option maxHeartbeats 2000000 in
/-- the function that Values hands back: every place of the slice, in order -/
theorem values1_in (F : Fence) (n : Nat) (h7 : F.fn 129) (hro : F.round = none) (hn : 1 ≤ n) (l Bs n₀ b len cap : Nat) (f : Nat → Nat) (hreach : len * 8 ≤ 140737488351232) (hb : b < n₀) (J Jx : List Nat → World → Prop)
    (hY : ∀ pre x W, J pre W → pre.length < len → YieldAt F (n - 1) Tryz.prog l #[.pointer (some ⟨x, 0, none⟩)] W fun e W' =>
      (e = .returned (.bool true) ∧ J (pre ++ [x]) W' ∧ Below n₀ W W') ∨ (e = .returned (.bool false) ∧ Jx (pre ++ [x]) W'))
    (W : World) (hBs : W.cell? ⟨Bs, 0, none⟩ = some (.slice (some ⟨b, 0, none⟩) len cap)) (hc : ∀ j, j < len → W.cell? ⟨b, j, none⟩ = some (.pointer (some ⟨f j, 0, none⟩))) (h0 : J [] W) :
    CallsIn F n Tryz.prog 129 #[.func (.yield l) #[] #[], .pointer (some ⟨Bs, 0, none⟩)] W fun e W' => (∃ v, e = .returned v) ∧
      ((∃ ys, ys = upto f len ∧ J ys W') ∨ (∃ pre, (∃ k, k ≤ len ∧ pre = upto f k) ∧ Jx pre W')) := by
  refine callsIn_of_wp Tryz.func129 rfl h7 ?_ hro
  simp only [Tryz.ntmps129, List.size_toArray, List.length_cons, List.length_nil, Nat.reduceAdd, Nat.reduceSub, Array.replicate_succ, Array.replicate_zero, List.push_toArray, List.append_toArray, List.nil_append, List.cons_append]
  gi_wp2
  gi_loopw [7] (fun i wr => ∃ k : Nat, k ≤ len ∧ i = .int .i64 k ∧ J (upto f k) wr ∧ Below n₀ W wr)
    (fun i _ => len - (intOf i).toNat)
  case atStart => exact ⟨0, Nat.zero_le _, rfl, h0, Below.refl _ _⟩
  case round =>
    obtain ⟨k, hk, rfl, hJs, hnx⟩ := hrel
    have hcx : k < len → wr.cell? ⟨b, k, none⟩ = some (.pointer (some ⟨f k, 0, none⟩)) := fun h => (hnx.cell (p := ⟨b, k, none⟩) hb).trans (hc k h)
    by_cases hlt : k < len
    · obtain ⟨fn, tmps, assign, body, hy, hR⟩ := hY _ (f k) wr hJs (by rw [upto_length]; exact hlt)
      have hcx' := hcx hlt
      gi_wp2
      refine hR.mono ?_
      rintro e W3 (⟨rfl, hJ3, hk3⟩ | ⟨rfl, hJx3⟩)
      · gi_wp2
        go_roundw
        case rel => exact ⟨k + 1, by omega, by simp, by rw [upto_succ]; exact hJ3, hnx.trans hk3⟩
        case measure => simp [intOf]; omega
      · gi_wp2
        refine bodyPost_ret (results_none rfl _ _ _) rfl ?_
        exact ⟨⟨_, rfl⟩, .inr ⟨_, ⟨k + 1, by omega, (upto_succ _ _).symm⟩, hJx3⟩⟩
    · obtain rfl : k = len := by omega
      gi_wp2
      go_end0
      exact ⟨⟨_, rfl⟩, .inl ⟨_, rfl, hJs⟩⟩

set_option maxRecDepth 100000 in
set_option maxHeartbeats 1000000 in
theorem values1_nil_in (F : Fence) (n : Nat) (h7 : F.fn 129) (hro : F.round = none) (l Bs : Nat) (J : List Nat → World → Prop) (W : World) (hBs : W.cell? ⟨Bs, 0, none⟩ = some (.slice none 0 0)) (h0 : J [] W) :
    CallsIn F n Tryz.prog 129 #[.func (.yield l) #[] #[], .pointer (some ⟨Bs, 0, none⟩)] W fun e W' => (∃ v, e = .returned v) ∧ J [] W' := by
  refine callsIn_of_wp Tryz.func129 rfl h7 ?_ hro
  simp only [Tryz.ntmps129, List.size_toArray, List.length_cons, List.length_nil, Nat.reduceAdd, Nat.reduceSub, Array.replicate_succ, Array.replicate_zero, List.push_toArray, List.append_toArray, List.nil_append, List.cons_append]
  gi_wp2
  gi_loopw [7] (fun i wr => i = .int .i64 0 ∧ J [] wr) (fun _ _ => 0)
  case atStart => exact ⟨rfl, h0⟩
  case round =>
    obtain ⟨rfl, hJs⟩ := hrel
    gi_wp2
    go_end0
    exact ⟨⟨_, rfl⟩, hJs⟩

set_option maxHeartbeats 1000000 in
/-- Values boxes the slice -/
theorem values_in (F : Fence) (n : Nat) (h5 : F.fn 82) (hro : F.round = none) (a : Option Addr) (len cap : Nat) (w : World) :
    CallsIn F n Tryz.prog 82 #[.slice a len cap] w fun e w' => e = .returned (.func (.func 129) #[] #[.pointer (some ⟨w.heap.size, 0, none⟩)]) ∧ w' = w.alloc (.cells #[.slice a len cap] 155) := by
  refine callsIn_of_wp Tryz.func82 rfl h5 ?_ hro
  simp only [Tryz.ntmps82, List.size_toArray, List.length_cons, List.length_nil, Nat.reduceAdd, Nat.reduceSub, Array.replicate_succ, Array.replicate_zero, List.push_toArray, List.append_toArray, List.nil_append, List.cons_append]
  gi_wp2
  go_ret
  exact ⟨rfl, rfl⟩

/-- the slice holds pointers to f 0, .., f (len - 1), in a block below n₀; or is nil -/
def Ptrs (n₀ : Nat) (W : World) (a : Option Addr) (len cap : Nat) (f : Nat → Nat) : Prop :=
  (a = none ∧ len = 0 ∧ cap = 0) ∨ ∃ b, a = some ⟨b, 0, none⟩ ∧ b < n₀ ∧ ∀ j, j < len → W.cell? ⟨b, j, none⟩ = some (.pointer (some ⟨f j, 0, none⟩))
theorem Ptrs.below {n₀ : Nat} {A B : World} (h : Below n₀ A B) {a : Option Addr} {len cap : Nat} {f : Nat → Nat} (hp : Ptrs n₀ A a len cap f) : Ptrs n₀ B a len cap f := by
  rcases hp with e | ⟨b, e, hb, hc⟩
  · exact .inl e
  · exact .inr ⟨b, e, hb, fun j hj => (h.cell (p := ⟨b, j, none⟩) hb).trans (hc j hj)⟩

theorem values_stops (F : Fence) (n : Nat) (h7 : F.fn 129) (hro : F.round = none) (hn : 1 ≤ n) (Bs n₀ : Nat) (a : Option Addr) (len cap : Nat) (f : Nat → Nat) (hreach : len * 8 ≤ 140737488351232) (w : World) (hBs : Bs < w.heap.size) (hn₀ : n₀ ≤ w.heap.size)
    (hc : w.cell? ⟨Bs, 0, none⟩ = some (.slice a len cap)) (hI : Ptrs n₀ w a len cap f) :
    SeqStopsK F n Tryz.prog 129 #[.pointer (some ⟨Bs, 0, none⟩)] (fun x : Nat => #[Value.pointer (some ⟨x, 0, none⟩)]) (Below n₀) (fun ys => ys = upto f len) (fun pre => pre <+: upto f len) len w := fun l J Jx W hW _ _ hY h0 => by
  have hc' := (hW.cell (p := ⟨Bs, 0, none⟩) hBs).trans hc
  rcases hI.below (hW.mono hn₀) with ⟨rfl, rfl, rfl⟩ | ⟨b, rfl, hb, hcs⟩
  · exact (values1_nil_in F n h7 hro l Bs J W hc' h0).mono fun e W' ⟨he, hj⟩ => ⟨he, .inl ⟨_, rfl, hj⟩⟩
  · refine (values1_in F n h7 hro hn l Bs n₀ b len cap f hreach hb J Jx hY W hc' hcs h0).mono ?_
    rintro e W' ⟨he, ⟨ys, rfl, hj⟩ | ⟨pre, ⟨k, hk, rfl⟩, hj⟩⟩
    · exact ⟨he, .inl ⟨_, rfl, hj⟩⟩
    · refine ⟨he, .inr ⟨_, ?_, hj⟩⟩
      obtain ⟨d, rfl⟩ := Nat.exists_eq_add_of_le hk
      exact ⟨((List.range d).map (fun i => k + i)).map f, by unfold upto; rw [List.range_add, List.map_append]⟩

theorem info80e : (Tryz.prog.info? 114).map (fun i => (i.zero, i.size, i.bytes)) = some (some (.pointer none), 1, 8) := by kernel_rfl

set_option maxRecDepth 100000 in
set_option maxHeartbeats 2000000 in
/-- AppendSeq(nil, Values(s)) -/
theorem appendSeq_in (F : Fence) (n : Nat) (h62 : F.fn 156) (h59 : F.fn 129) (hro : F.round = none) (hn : 3 ≤ n) (Bs : Nat) (a : Option Addr) (len cap : Nat) (f : Nat → Nat) (hlen : len ≤ 100000) (w : World) (hBs : Bs < w.heap.size)
    (hcB : w.cell? ⟨Bs, 0, none⟩ = some (.slice a len cap)) (hI : Ptrs w.heap.size w a len cap f) :
    CallsIn F n Tryz.prog 156 #[.slice none 0 0, .func (.func 129) #[] #[.pointer (some ⟨Bs, 0, none⟩)]] w fun e W' => ∃ v, e = .returned v ∧ W'.ownsRow w.heap.size 114 1 v len ((upto f len).map ptrV) ∧ (v = .slice none 0 0 ↔ upto f len = []) ∧ Below w.heap.size w W' := by
  have h1 : 1 ≤ n := by omega
  have hm : len ≤ maxLen := by unfold maxLen; omega
  have hm8 : len * 8 ≤ 140737488355328 := by omega
  obtain ⟨i0, hi, hz0, hz1, hz2⟩ := info_parts info80e
  refine callsIn_of_wp_marks Tryz.func156 rfl h62 ?_ hro
  simp only [Tryz.ntmps156, List.size_toArray, List.length_cons, List.length_nil, Nat.reduceAdd, Nat.reduceSub, Array.replicate_succ, Array.replicate_zero, List.push_toArray, List.append_toArray, List.nil_append, List.cons_append]
  gi_wp2
  have bO := Boxed.new w 150 (.slice none 0 0)
  have hB0 : Below w.heap.size w (w.alloc (.cells #[.slice none 0 0] 150)) := (Below.refl _ w).alloc (Nat.le_refl _) _
  have hcB' := (hB0.cell (p := ⟨Bs, 0, none⟩) hBs).trans hcB
  refine wpIn_rangeFunc_ownG hro h1 (gf := 129) (lb := #[.pointer (some ⟨Bs, 0, none⟩)]) rfl h59 (enters_of Tryz.func129 (by kernel_rfl) rfl)
    (values_stops F (n - 1) h59 hro (by omega) Bs w.heap.size a len cap f (by omega) _ (by simp; omega) (by simp) hcB' (hI.below hB0)) belowK_t (belowK_b (by simp)) (Below.refl _ _) (fun _ => rfl)
    (fun pre W => (∃ v, Boxed W w.heap.size 150 v ∧ W.ownsRow w.heap.size 114 1 v pre.length (pre.map ptrV) ∧ (v = .slice none 0 0 ↔ pre = [])) ∧ Below w.heap.size w W)
    (fun _ _ _ => False)
    (OwnFrom.and (Own.from (holdsRow_own w.heap.size w.heap.size 150 114 1 (fun pre => pre.length) (fun pre => pre.map ptrV) (fun pre v => v = .slice none 0 0 ↔ pre = [])) _) (ownFrom_below (Nat.le_refl _) (by simp)))
    (fun _ _ _ _ _ hs _ _ => hs)
    ⟨⟨_, bO, World.ownsRow_nil _ _ _ _, by simp⟩, hB0⟩
    (fun x => { tmps := #[.slice none 0 0, .func (.func 129) #[] #[.pointer (some ⟨Bs, 0, none⟩)], .pointer (some ⟨w.heap.size, 0, none⟩), undef, .slice none 0 0, .pointer (some ⟨x, 0, none⟩), .func (.func 129) #[] #[.pointer (some ⟨Bs, 0, none⟩)], .pointer (some ⟨x, 0, none⟩), undef, undef, undef, undef, undef], defers := [] }) ?assign ?body ?done ?stop
  case assign =>
    intro l x W K hK
    gi_wp2
    exact hK
  case body =>
    rintro l pre x W ⟨⟨v, hv, hrow, hnil⟩, hB⟩ hlt
    have hc := hv.cell
    gi_wp2_with (gi_at_builtin; refine wpListIn_append_own _ rfl _ _ 150 rfl w.heap.size 114 i0 (.pointer none) 1 8 Tryz.underlying150 hi hz0 hz1 hz2 rfl (by decide) _ _ _ rfl (hrow.alloc _) ⟨W.heap.size, 0, none⟩ 1 1 [.pointer (some ⟨x, 0, none⟩)] rfl rfl (cell_one_new _ _ _) (by simp [Value.oneCell']) (by omega) (by omega) (by have := hB.size; simp; omega) ?_; intro v' w1 hown' hgrow _; obtain ⟨g', cap', rfl⟩ := ownsRow_succ hown'; obtain ⟨hv1, hv2, hr2, hk2, hb2⟩ := hv.appended (by decide) hrow hB.size (Nat.le_refl _) hown' hgrow; have hc1 := hv1.cell; have hf1 := hv1.frozen)
    exact ⟨hk2.from _, hb2, ⟨_, hv2, by simpa [ptrV] using hr2, by simp⟩, hB.trans hb2⟩
  case done =>
    rintro D ys W hD rfl ⟨⟨v, hv, hrow, hnil⟩, hB⟩ hK
    have hc := hv.cell
    gi_wp2
    refine ⟨by simp, .inl ⟨_, _, rfl, run_takeDeferred hK, ?_⟩⟩
    rw [upto_length] at hrow
    exact ⟨_, results_tmp rfl _ _ _, v, rfl, ownsRow_putObj hrow _ hK rfl, hnil, hB.trans (belowK_b (w := w) (Nat.le_refl _) W D _ _ (by simp at hD; omega) hK rfl rfl)⟩
  case stop =>
    rintro D c pre W _ _ h _
    exact h.elim

#print axioms appendSeq_in
end Go.Proofs.YtigaphnafnpfnaaGreatDoor

/- byRank lays nothing but blocks of its own; Collect -/
set_option linter.unusedVariables false
set_option linter.unusedSimpArgs false
namespace Go.Proofs.YtigaphnafnpfnaaGreatDoor
open Go.RowKit Go.Sort
attribute [local go_sem ↓] Go.wp_at_zero Go.wp_at_succ

set_option maxHeartbeats 1000000 in
theorem byRank_g (a b : Nat) (oa ob : Ord) (ia ib : Int) (w : World) (ha : IsOrd w a oa ia) (hb : IsOrd w b ob ib) :
    Calls Tryz.prog 83 #[.pointer (some ⟨a, 0, none⟩), .pointer (some ⟨b, 0, none⟩)] w fun e w' => e = .returned (.int .i64 (rankI oa ob)) ∧ ∃ q os', w' = grow (w.drewN q) os' := by
  have a3 := ha.cell 3
  have a5 := ha.cell 5
  have a12 := ha.cell 12
  have b5 := hb.cell 5
  have b12 := hb.cell 12
  have la := ha.lt
  have lb := hb.lt
  simp only [Ord.cells] at a3 a5 a12 b5 b12
  simp at a3 a5 a12 b5 b12
  clear ha hb
  obtain ⟨p1, p2⟩ := cmpI_b oa.price ob.price
  by_cases hs : oa.side = 0
  · have hs' : (oa.side == 0) = true := by simp [hs]
    have HF : Hid (rankI oa ob = orI (-(cmpI oa.price ob.price)) (cmpI oa.place ob.place)) := by show rankI oa ob = _; simp only [rankI, hs, if_true]
    clear hs
    go_enter Tryz.func83, Tryz.ntmps83
    go_wp2
    go_quiet ((go_at_call 130; exact Calls.quiet_of_same (compare_any _ _ _)))
    go_wp2
    go_region_held3 (fun w' => w'.cell? ⟨a, 12, none⟩ = some (.int .i64 oa.place) ∧ w'.cell? ⟨b, 12, none⟩ = some (.int .i64 ob.place)) (go_keep)
      (first | (go_at_call 130; refine (compare_any _ _ _).mono ?_; rintro e w' ⟨rfl, rfl⟩) | (go_at_call 131; refine (or_any _ _ (-(cmpI oa.price ob.price)) (cmpI oa.place ob.place) _ ?_ ?_).mono ?_; (exact (Blk.new _ _ _).cell 0); (exact (Blk.new _ _ _).cell 1); rintro e w' ⟨rfl, rfl⟩))
    go_wp2
    go_ret
    exact ⟨by rw [HF.out]; rfl, _, _, alloc_eq_grow _ _⟩
  · have hs' : (oa.side == 0) = false := by simp [hs]
    have HF : Hid (rankI oa ob = orI (cmpI oa.price ob.price) (cmpI oa.place ob.place)) := by show rankI oa ob = _; simp only [rankI, hs, if_false]
    clear hs
    go_enter Tryz.func83, Tryz.ntmps83
    go_wp2
    go_quiet ((go_at_call 130; exact Calls.quiet_of_same (compare_any _ _ _)))
    go_wp2
    go_region_held3 (fun w' => w'.cell? ⟨a, 12, none⟩ = some (.int .i64 oa.place) ∧ w'.cell? ⟨b, 12, none⟩ = some (.int .i64 ob.place)) (go_keep)
      (first | (go_at_call 130; refine (compare_any _ _ _).mono ?_; rintro e w' ⟨rfl, rfl⟩) | (go_at_call 131; refine (or_any _ _ (cmpI oa.price ob.price) (cmpI oa.place ob.place) _ ?_ ?_).mono ?_; (exact (Blk.new _ _ _).cell 0); (exact (Blk.new _ _ _).cell 1); rintro e w' ⟨rfl, rfl⟩))
    go_wp2
    go_ret
    exact ⟨by rw [HF.out]; rfl, _, _, alloc_eq_grow _ _⟩


theorem appendSeq_any (Bs : Nat) (a : Option Addr) (len cap : Nat) (f : Nat → Nat) (hlen : len ≤ 100000) (w : World) (hBs : Bs < w.heap.size)
    (hcB : w.cell? ⟨Bs, 0, none⟩ = some (.slice a len cap)) (hI : Ptrs w.heap.size w a len cap f) :
    Calls Tryz.prog 156 #[.slice none 0 0, .func (.func 129) #[] #[.pointer (some ⟨Bs, 0, none⟩)]] w fun e W' => ∃ v, e = .returned v ∧ W'.ownsRow w.heap.size 114 1 v len ((upto f len).map ptrV) ∧ (v = .slice none 0 0 ↔ upto f len = []) ∧ Below w.heap.size w W' :=
  callsIn_wide.1 (appendSeq_in Fence.wide 3 trivial trivial rfl (by omega) Bs a len cap f hlen w hBs hcB hI)

theorem values_any (a : Option Addr) (len cap : Nat) (w : World) :
    Calls Tryz.prog 82 #[.slice a len cap] w fun e w' => e = .returned (.func (.func 129) #[] #[.pointer (some ⟨w.heap.size, 0, none⟩)]) ∧ w' = w.alloc (.cells #[.slice a len cap] 155) :=
  callsIn_wide.1 (values_in Fence.wide 3 trivial rfl a len cap w)

set_option maxHeartbeats 1000000 in
theorem collect_any (Bs : Nat) (a : Option Addr) (len cap : Nat) (f : Nat → Nat) (hlen : len ≤ 100000) (w : World) (hBs : Bs < w.heap.size)
    (hcB : w.cell? ⟨Bs, 0, none⟩ = some (.slice a len cap)) (hI : Ptrs w.heap.size w a len cap f) :
    Calls Tryz.prog 127 #[.func (.func 129) #[] #[.pointer (some ⟨Bs, 0, none⟩)]] w fun e W' => ∃ v, e = .returned v ∧ W'.ownsRow w.heap.size 114 1 v len ((upto f len).map ptrV) ∧ (v = .slice none 0 0 ↔ upto f len = []) ∧ Below w.heap.size w W' := by
  have hcon := appendSeq_any Bs a len cap f hlen w hBs hcB hI
  clear hcB hI
  go_enter Tryz.func127, Tryz.ntmps127
  go_wp2_with (go_at_call 156; refine hcon.mono ?_; clear hcon; rintro e w' ⟨v, rfl, hv⟩)
  go_ret
  exact ⟨v, rfl, hv⟩

#print axioms collect_any
end Go.Proofs.YtigaphnafnpfnaaGreatDoor

/- SortFunc at no element -/
set_option linter.unusedVariables false
set_option linter.unusedSimpArgs false
namespace Go.Proofs.YtigaphnafnpfnaaGreatDoor
open Go.RowKit
attribute [local go_sem ↓] Go.wp_at_zero Go.wp_at_succ

set_option maxHeartbeats 1000000 in
theorem len64_0 (w : World) : Calls Tryz.prog 158 #[.int .u64 0] w fun e w' => (∃ n, e = .returned (.int .i64 n)) ∧ w' = w := by
  have h75 : Calls Tryz.prog 188 #[.int .u64 0] w fun e w' => (∃ n, e = .returned (.int .i64 n)) ∧ w' = w := by
    go_enter Tryz.func188, Tryz.ntmps188
    go_wp2
    all_goals (go_ret; exact ⟨⟨_, rfl⟩, rfl⟩)
  go_enter Tryz.func158, Tryz.ntmps158
  go_wp2_with (go_at_call 188; refine h75.mono ?_; rintro e w' ⟨⟨n, rfl⟩, rfl⟩)
  all_goals (go_ret; exact ⟨⟨_, rfl⟩, rfl⟩)

set_option maxHeartbeats 1000000 in
theorem insertion_0 (fv : Value) (w : World) : Calls Tryz.prog 179 #[.slice none 0 0, .int .i64 0, .int .i64 0, fv] w fun e w' => e = .returned (.tuple #[]) ∧ w' = w := by
  go_enter Tryz.func179, Tryz.ntmps179
  go_wp2
  refine wp_loop_rounds 1 ?_
  rw [rounds_succ]
  go_wp2
  go_end0
  exact ⟨rfl, rfl⟩

set_option maxHeartbeats 2000000 in
theorem pdq_0 (lim : Int) (fv : Value) (w : World) : Calls Tryz.prog 157 #[.slice none 0 0, .int .i64 0, .int .i64 0, .int .i64 lim, fv] w fun e w' => e = .returned (.tuple #[]) ∧ w' = w := by
  go_enter Tryz.func157, Tryz.ntmps157
  go_wp2
  refine wp_loop_rounds 1 ?_
  rw [rounds_succ]
  go_wp2_with (go_at_call 179; refine (insertion_0 _ _).mono ?_; rintro e w' ⟨rfl, rfl⟩)
  (try simp only [Exit.inBlock, Exit.then])
  refine bodyPost_ret (results_none rfl _ _ _) rfl ?_
  exact ⟨rfl, rfl⟩

set_option maxHeartbeats 1000000 in
theorem sortFunc_0 (fv : Value) (w : World) : Calls Tryz.prog 128 #[.slice none 0 0, fv] w fun e w' => e = .returned (.tuple #[]) ∧ w' = w := by
  go_enter Tryz.func128, Tryz.ntmps128
  go_wp2_with (first | (go_at_call 158; refine (len64_0 _).mono ?_; rintro e w' ⟨⟨n, rfl⟩, rfl⟩) | (go_at_call 157; refine (pdq_0 _ _ _).mono ?_; rintro e w' ⟨rfl, rfl⟩))
  go_end0
  exact ⟨rfl, rfl⟩

#print axioms sortFunc_0
end Go.Proofs.YtigaphnafnpfnaaGreatDoor

/- the orders of one side, ranked; what the sort asks and gives -/
set_option linter.unusedVariables false
set_option linter.unusedSimpArgs false
namespace Go.Proofs.YtigaphnafnpfnaaGreatDoor
open Go.RowKit Go.Sort

theorem lessB_iff (a b : Ord) : lessB a b = true ↔ ((if a.side = 0 then b.price < a.price else a.price < b.price) ∨ (a.price = b.price ∧ a.place < b.place)) := by
  unfold lessB rankI orI cmpI
  simp only [decide_eq_true_eq]
  by_cases hs : a.side = 0 <;> simp only [hs, if_true, if_false] <;> (repeat' split) <;> omega

theorem lessB_iff' (a b : Ord) : lessB a b = false ↔ ¬ ((if a.side = 0 then b.price < a.price else a.price < b.price) ∨ (a.price = b.price ∧ a.place < b.place)) := by
  rw [← lessB_iff, Bool.not_eq_true]

theorem pre_side (om : Nat → Ord) (s : Int) : Pre (ltB om) (fun x => (om x).side = s) := by
  refine ⟨?_, ?_, ?_⟩
  · intro x y hx hy h
    unfold ltB at *
    rw [lessB_iff] at h
    rw [lessB_iff']
    rw [hx] at h
    rw [hy]
    split at h <;> simp_all <;> omega
  · intro x y z hx hy hz h1 h2
    unfold ltB at *
    rw [lessB_iff'] at *
    rw [hy] at h1
    rw [hz] at h2
    rw [hz]
    by_cases hs : s = 0 <;> simp only [hs, if_true, if_false] at * <;> omega
  · intro x hx
    unfold ltB at *
    rw [lessB_iff']
    split <;> omega

/-- an order of side s that lies in w -/
def Liv (w : World) (om : Nat → Ord) (s : Int) (x : Nat) : Prop := (∃ ix, IsOrd w x (om x) ix) ∧ (om x).side = s

def encL {w : World} {om : Nat → Ord} {s : Int} (x : { x : Nat // Liv w om s x }) : Value := ptrV x.1
def cfL {w : World} {om : Nat → Ord} {s : Int} (x y : { x : Nat // Liv w om s x }) : Int := rankI (om x.1) (om y.1)

theorem ltOf_L {w : World} {om : Nat → Ord} {s : Int} (x y : { x : Nat // Liv w om s x }) : ltOf cfL x y = ltB om x.1 y.1 := rfl

theorem swo_L (w : World) (om : Nat → Ord) (s : Int) : SWO (ltOf (@cfL w om s)) := by
  have pre := pre_side om s
  refine ⟨fun x => ?_, fun x y z h1 h2 => ?_, fun x y z h1 h2 => ?_⟩
  · rw [ltOf_L]; exact pre.irr _ x.2.2
  · rw [ltOf_L] at *
    cases h : ltB om x.1 z.1 with
    | true => rfl
    | false =>
      have h3 := pre.trans y.1 z.1 x.1 y.2.2 z.2.2 x.2.2 (pre.asym _ _ y.2.2 z.2.2 h2) h
      rw [h3] at h1
      exact h1
  · rw [ltOf_L] at *
    exact pre.trans z.1 y.1 x.1 z.2.2 y.2.2 x.2.2 h2 h1


theorem heap_sortWorld {α : Type} [Inhabited α] (enc : α → Value) (w : World) (blk off m : Nat) (dk : Array α) (os : Array Obj) {k : Nat} (hk : k < w.heap.size) (hne : k ≠ blk) : (sortWorld enc w blk off m dk os).heap[k]? = w.heap[k]? := by
  unfold sortWorld putRow mapBlock grow
  simp only [Array.getElem?_append, Array.size_modify, Array.getElem?_modify]
  rw [if_pos (by simpa [Sort.ahead] using hk), if_neg (fun e => hne e.symm)]
  rfl

theorem chg_sortWorld {α : Type} [Inhabited α] (enc : α → Value) (w : World) (blk off m : Nat) (dk : Array α) (os : Array Obj) : Chg (fun x => x = blk) w (sortWorld enc w blk off m dk os) :=
  ⟨rfl, rfl, rfl, by simp [sortWorld, putRow, mapBlock, grow, Sort.ahead], fun k hk hne => heap_sortWorld enc w blk off m dk os hk hne⟩

theorem cmp_L {w : World} {om : Nat → Ord} {s : Int} [Inhabited { x : Nat // Liv w om s x }] {blk size : Nat} {cs : Array Value} (hb : Blk w blk cs 114) : CmpLays1 Tryz.prog 83 #[] (@encL w om s) cfL blk 0 size w := by
  intro m os dk hs x y
  obtain ⟨ix, hx⟩ := x.2.1
  obtain ⟨iy, hy⟩ := y.2.1
  have k := chg_sortWorld (@encL w om s) w blk 0 m dk os
  exact byRank_g x.1 y.1 _ _ ix iy _ (k.blk hx (Blk.ne hx hb (by decide))) (k.blk hy (Blk.ne hy hb (by decide)))

/-- what the sort has left -/
theorem sorted_L {w : World} {om : Nat → Ord} {s : Int} [Inhabited { x : Nat // Liv w om s x }] {blk len n : Nat} {f : Nat → Nat} {cs : Array Value} (hb : Blk w blk cs 114) {d d' : Array { x : Nat // Liv w om s x }} {os : Array Obj}
    (hd : d.size = len) (hdf : ∀ j, j < len → (d[j]!).1 = f j) (hH : Holds encL w blk 0 d) (hp : PermIn 0 d.size d d') (hs : SortedIn (ltOf cfL) 0 d.size d') :
    ∃ ys : List Nat, ys.Perm (upto f len) ∧ ys.Pairwise (fun a b => ltB om b a = false) ∧ (∀ j, j < len → (sortWorld encL w blk 0 n d' os).cell? ⟨blk, j, none⟩ = some (ptrV (ys.getD j 0))) := by
  have hd' : d'.size = len := hp.1.trans hd
  refine ⟨d'.toList.map Subtype.val, ?_, ?_, ?_⟩
  · have h3 := hp.2.2
    rw [hd, Array.extract_eq_self_of_le (by omega), Array.extract_eq_self_of_le (by omega)] at h3
    have h4 := h3.map Subtype.val
    have : d.toList.map Subtype.val = upto f len := by
      apply List.ext_getElem
      · simp [upto, hd]
      · intro i h1 h2
        have hi : i < len := by simpa [upto] using h2
        have := hdf i hi
        rw [getElem!_pos d i (by omega)] at this
        simp [upto, this]
    rw [← this]
    exact h4
  · rw [List.pairwise_map, List.pairwise_iff_getElem]
    intro i j hi hj hij
    have hi' : i < d'.size := by simpa using hi
    have hj' : j < d'.size := by simpa using hj
    have := hs i j (Nat.zero_le _) hij (by omega)
    rw [getElem!_pos d' i hi', getElem!_pos d' j hj', ltOf_L] at this
    simpa using this
  · intro j hj
    have := (holds_sortWorld encL w blk 0 n d d' os hb.lt hH hp.1 j (by omega)).1
    rw [Nat.zero_add, getElem!_pos d' j (by omega)] at this
    rw [this]
    have hj' : j < d'.toList.length := by simpa [hd'] using hj
    simp [encL, List.getD_eq_getElem?_getD, hj', hd', hj]

#print axioms sorted_L
end Go.Proofs.YtigaphnafnpfnaaGreatDoor

/- slices.SortedFunc(slices.Values(side), byRank) -/
set_option linter.unusedVariables false
set_option linter.unusedSimpArgs false
namespace Go.Proofs.YtigaphnafnpfnaaGreatDoor
open Go.RowKit Go.Sort
attribute [local go_sem ↓] Go.wp_at_zero Go.wp_at_succ

theorem sortFunc_any (blk cap len : Nat) (f : Nat → Nat) (om : Nat → Ord) (s : Int) (w : World) (h0 : 0 < len) (hlen : len ≤ 100000) (hl : ∀ j, j < len → Liv w om s (f j)) (cs : Array Value) (hb : Blk w blk cs 114) (hc : ∀ j, j < len → cs[j]? = some (ptrV (f j))) :
    Calls Tryz.prog 128 #[.slice (some ⟨blk, 0, none⟩) len cap, .func (.func 83) #[] #[]] w fun e w' => e = .returned (.tuple #[]) ∧
      ∃ ys : List Nat, ys.Perm (upto f len) ∧ ys.Pairwise (fun a b => ltB om b a = false) ∧ (∀ j, j < len → w'.cell? ⟨blk, j, none⟩ = some (ptrV (ys.getD j 0))) ∧ Chg (fun x => x = blk) w w' := by
  let inh : Inhabited { x : Nat // Liv w om s x } := ⟨⟨f 0, hl 0 h0⟩⟩
  obtain ⟨d, hd, hdf⟩ : ∃ d : Array { x : Nat // Liv w om s x }, d.size = len ∧ ∀ j, j < len → (d[j]!).1 = f j := by
    refine ⟨Array.ofFn (n := len) (fun j => ⟨f j, hl j j.2⟩), by simp, fun j hj => ?_⟩
    rw [getElem!_pos _ j (by simpa using hj)]
    simp
  have hH : Holds encL w blk 0 d := by
    intro j hj
    rw [hd] at hj
    rw [Nat.zero_add]
    refine ⟨(hb.cell j).trans ((hc j hj).trans ?_), hb.frozen j⟩
    unfold encL
    rw [hdf j hj]
  have eg : ∀ args w, (callFunc 83 args).run Tryz.prog w = .ok (.enter 83 args) w := enters_of Tryz.func83 (by kernel_rfl) rfl
  have hcon := Any.slices_SortFunc sortO (@encL w om s) (fun _ => rfl) cfL (swo_L w om s) 83 #[] blk 0 cap d w eg (cmp_L hb) hH hb.lt (by omega)
  change Calls Tryz.prog 128 _ _ _ at hcon
  rw [hd] at hcon
  refine hcon.mono ?_
  rintro e w' ⟨rfl, d', n, os, hp, hs, rfl⟩
  obtain ⟨ys, h1, h2, h3⟩ := sorted_L (n := n) (os := os) hb hd hdf hH (by rw [hd]; exact hp) (by rw [hd]; exact hs)
  exact ⟨rfl, ys, h1, h2, h3, chg_sortWorld _ _ _ _ _ _ _⟩

/-- v is a new slice of pointers to ys -/
def SliceL (n₀ : Nat) (w : World) (v : Value) (ys : List Nat) : Prop :=
  (v = .slice none 0 0 ∧ ys = []) ∨ ∃ b cap, v = .slice (some ⟨b, 0, none⟩) ys.length cap ∧ n₀ ≤ b ∧ ys.length ≤ cap ∧ ∀ j, j < ys.length → w.cell? ⟨b, j, none⟩ = some (ptrV (ys.getD j 0))

def SortedPost (len : Nat) (f : Nat → Nat) (om : Nat → Ord) (w : World) (v : Value) (w' : World) : Prop :=
  ∃ ys : List Nat, ys.Perm (upto f len) ∧ ys.Pairwise (fun a b => ltB om b a = false) ∧ SliceL w.heap.size w' v ys ∧ Below w.heap.size w w'

theorem sortV (len : Nat) (f : Nat → Nat) (om : Nat → Ord) (s : Int) (w W : World) (v : Value) (hlen : len ≤ 100000) (hl : ∀ j, j < len → Liv w om s (f j)) (hr : W.ownsRow w.heap.size 114 1 v len ((upto f len).map ptrV)) (hn : v = .slice none 0 0 ↔ upto f len = []) (hB : Below w.heap.size w W) :
    Calls Tryz.prog 128 #[v, .func (.func 83) #[] #[]] W fun e w' => e = .returned (.tuple #[]) ∧ SortedPost len f om w v w' := by
  obtain ⟨hr1, ⟨rfl, rfl⟩ | ⟨g, cap, cur, rfl, hg, hb, hcap, hcm, hsz, htk⟩⟩ := hr
  · refine (sortFunc_0 _ W).mono ?_
    rintro e w' ⟨rfl, rfl⟩
    exact ⟨rfl, [], by simp [upto], List.Pairwise.nil, .inl ⟨rfl, rfl⟩, hB⟩
  · have h0 : 0 < len := by
      rcases Nat.eq_zero_or_pos len with h | h
      · subst h
        have := hn.2 (by simp [upto])
        cases this
      · exact h
    have hl' : ∀ j, j < len → Liv W om s (f j) := fun j hj => by
      obtain ⟨⟨ix, ho⟩, hs⟩ := hl j hj
      exact ⟨⟨ix, (hB.block (f j) ho.lt).trans ho⟩, hs⟩
    have hc : ∀ j, j < len → cur[j]? = some (ptrV (f j)) := fun j hj => by
      have h1 : (cur.toList.take (len * 1))[j]? = ((upto f len).map ptrV)[j]? := by rw [htk]
      rw [List.getElem?_take, if_pos (by omega)] at h1
      rw [← Array.getElem?_toList, h1]
      simp [upto, hj]
    refine (sortFunc_any g cap len f om s W h0 hlen hl' cur hb hc).mono ?_
    rintro e w' ⟨rfl, ys, h1, h2, h3, h4⟩
    have hy : ys.length = len := by rw [h1.length_eq, upto_length]
    refine ⟨rfl, ys, h1, h2, .inr ⟨g, cap, by rw [hy], hg, by omega, fun j hj => h3 j (by omega)⟩, ?_⟩
    exact hB.trans (h4.belowOf hB.size (fun k e => by omega))

set_option maxHeartbeats 1000000 in
theorem sortedFunc_any (Bs : Nat) (a : Option Addr) (len cap : Nat) (f : Nat → Nat) (om : Nat → Ord) (s : Int) (hlen : len ≤ 100000) (w : World) (hBs : Bs < w.heap.size)
    (hcB : w.cell? ⟨Bs, 0, none⟩ = some (.slice a len cap)) (hI : Ptrs w.heap.size w a len cap f) (hl : ∀ j, j < len → Liv w om s (f j)) :
    Calls Tryz.prog 81 #[.func (.func 129) #[] #[.pointer (some ⟨Bs, 0, none⟩)], .func (.func 83) #[] #[]] w fun e w' => ∃ v, e = .returned v ∧ SortedPost len f om w v w' := by
  have hcol := collect_any Bs a len cap f hlen w hBs hcB hI
  have hsort := fun (W : World) (v : Value) hr hn hB => sortV len f om s w W v hlen hl hr hn hB
  clear hcB hI hl
  go_enter Tryz.func81, Tryz.ntmps81
  go_wp2_with (first | (go_at_call 127; refine hcol.mono ?_; clear hcol; rintro e w1 ⟨v, rfl, hr, hn, hB⟩; have hs := hsort w1 v hr hn hB; clear hsort hr hn hB) | (go_at_call 128; refine hs.mono ?_; clear hs; rintro e w2 ⟨rfl, hp⟩))
  go_ret
  exact ⟨v, rfl, hp⟩

#print axioms sortedFunc_any
end Go.Proofs.YtigaphnafnpfnaaGreatDoor

/- Levels -/
set_option linter.unusedVariables false
set_option linter.unusedSimpArgs false
namespace Go.Proofs.YtigaphnafnpfnaaGreatDoor
open Go.RowKit Go.Sort
attribute [local go_sem ↓] Go.wp_at_zero Go.wp_at_succ

structure Lvl where
  price : Int
  qty : Int
  num : Int

def Lvl.cells (l : Lvl) : List Value := [.int .i64 l.price, .int .i64 l.qty, .int .i64 l.num]
def flat (ls : List Lvl) : List Value := ls.flatMap Lvl.cells

theorem flat_length (ls : List Lvl) : (flat ls).length = 3 * ls.length := by
  induction ls with
  | nil => rfl
  | cons l ls ih => simp only [flat, List.flatMap_cons, List.length_append, List.length_cons] at *; simp only [Lvl.cells, List.length_cons, List.length_nil]; omega

theorem flat_at (ls : List Lvl) (k c : Nat) (hk : k < ls.length) (hc : c < 3) : (flat ls)[3 * k + c]? = (ls[k].cells)[c]? := by
  induction ls generalizing k with
  | nil => exact absurd hk (by simp)
  | cons l ls ih =>
    have hl : (Lvl.cells l).length = 3 := rfl
    cases k with
    | zero =>
      simp only [flat, List.flatMap_cons]
      rw [List.getElem?_append_left (by omega)]
      simp
    | succ k =>
      have := ih k (by simpa using hk)
      simp only [flat, List.flatMap_cons] at *
      rw [List.getElem?_append_right (by omega), hl, show 3 * (k + 1) + c - 3 = 3 * k + c from by omega, this]
      simp

/-- one more order comes to the levels -/
def lvStep (ls : List Lvl) (o : Ord) : List Lvl :=
  match ls.getLast? with
  | some l => if l.price = o.price then ls.dropLast ++ [⟨l.price, wrap64 (l.qty + o.opn), wrap64 (l.num + 1)⟩] else ls ++ [⟨o.price, wrap64 o.opn, 1⟩]
  | none => [⟨o.price, wrap64 o.opn, 1⟩]

def levelsOf (os : List Ord) : List Lvl := os.foldl lvStep []

/-- v is a new slice of levels -/
def LevV (n₀ : Nat) (W : World) (v : Value) (ls : List Lvl) : Prop :=
  (v = .slice none 0 0 ∧ ls = []) ∨ ∃ g cap cs, v = .slice (some ⟨g, 0, none⟩) ls.length cap ∧ n₀ ≤ g ∧ Blk W g cs 93 ∧ ls.length ≤ cap ∧ cap ≤ maxLen ∧ cs.size = cap * 3 ∧ cs.toList.take (ls.length * 3) = flat ls ∧ 0 < ls.length

theorem LevV.owns {n₀ : Nat} {W : World} {v : Value} {ls : List Lvl} (h : LevV n₀ W v ls) : W.ownsRow n₀ 93 3 v ls.length (flat ls) := by
  refine ⟨by rw [flat_length]; omega, ?_⟩
  rcases h with ⟨rfl, rfl⟩ | ⟨g, cap, cs, rfl, h1, h2, h3, h4, h5, h6⟩
  · exact .inl ⟨rfl, rfl⟩
  · exact .inr ⟨g, cap, cs, rfl, h1, h2, h3, h4, h5, h6.1⟩

theorem info68 : (Tryz.prog.info? 93).map (fun i => (i.zero, i.size, i.bytes)) = some (some (.agg #[.int .i64 0, .int .i64 0, .int .i64 0]), 3, 24) := by kernel_rfl

/-- the orders that the slice points to -/
def ordsOf (om : Nat → Ord) (ys : List Nat) : List Ord := ys.map om

def LevPost (om : Nat → Ord) (ys : List Nat) (n₀ : Nat) (w : World) (v : Value) (w' : World) : Prop := LevV n₀ w' v (levelsOf (ordsOf om ys)) ∧ Below n₀ w w'

/-- the world in a round: the sorted slice, the orders -/
structure LW (om : Nat → Ord) (ys : List Nat) (n₀ b : Nat) (W : World) : Prop where
  ptr : ∀ j, j < ys.length → W.cell? ⟨b, j, none⟩ = some (ptrV (ys.getD j 0))
  ord : ∀ x, x ∈ ys → ∃ ix, IsOrd W x (om x) ix

#print axioms flat_at
end Go.Proofs.YtigaphnafnpfnaaGreatDoor

