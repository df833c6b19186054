import Derived.Test.YtigaphnafnpfnaaGreatDoorGA2
import Derived.Test.YtigaphnafnpfnaaGreatDoorGE2
import Derived.Sort.Grow
/- byRank lays nothing but blocks of its own; Collect -/
set_option linter.unusedVariables false
set_option linter.unusedSimpArgs false
namespace Go.Proofs.YtigaphnafnpfnaaGreatDoor
open Go.RowKit Go.Sort
attribute [local go_sem ↓] Go.wp_at_zero Go.wp_at_succ

set_option maxHeartbeats 1000000 in
theorem byRank_g (a b : Nat) (oa ob : Ord) (ia ib : Int) (w : World) (ha : IsOrd w a oa ia) (hb : IsOrd w b ob ib) :
    Calls Tryz.prog 83 #[.pointer (some ⟨a, 0, none⟩), .pointer (some ⟨b, 0, none⟩)] w fun e w' => e = .returned (.int .i64 (rankI oa ob)) ∧ ∃ q os', w' = grow (w.drewN q) os' := by
  have a3 := ha.cell 3
  have a5 := ha.cell 5
  have a12 := ha.cell 12
  have b5 := hb.cell 5
  have b12 := hb.cell 12
  have la := ha.lt
  have lb := hb.lt
  simp only [Ord.cells] at a3 a5 a12 b5 b12
  simp at a3 a5 a12 b5 b12
  clear ha hb
  obtain ⟨p1, p2⟩ := cmpI_b oa.price ob.price
  by_cases hs : oa.side = 0
  · have hs' : (oa.side == 0) = true := by simp [hs]
    have HF : Hid (rankI oa ob = orI (-(cmpI oa.price ob.price)) (cmpI oa.place ob.place)) := by show rankI oa ob = _; simp only [rankI, hs, if_true]
    clear hs
    go_enter Tryz.func83, Tryz.ntmps83
    go_wp2
    go_quiet ((go_at_call 130; exact Calls.quiet_of_same (compare_any _ _ _)))
    go_wp2
    go_region_held3 (fun w' => w'.cell? ⟨a, 12, none⟩ = some (.int .i64 oa.place) ∧ w'.cell? ⟨b, 12, none⟩ = some (.int .i64 ob.place)) (go_keep)
      (first | (go_at_call 130; refine (compare_any _ _ _).mono ?_; rintro e w' ⟨rfl, rfl⟩) | (go_at_call 131; refine (or_any _ _ (-(cmpI oa.price ob.price)) (cmpI oa.place ob.place) _ ?_ ?_).mono ?_; (exact (Blk.new _ _ _).cell 0); (exact (Blk.new _ _ _).cell 1); rintro e w' ⟨rfl, rfl⟩))
    go_wp2
    go_ret
    exact ⟨by rw [HF.out]; rfl, _, _, alloc_eq_grow _ _⟩
  · have hs' : (oa.side == 0) = false := by simp [hs]
    have HF : Hid (rankI oa ob = orI (cmpI oa.price ob.price) (cmpI oa.place ob.place)) := by show rankI oa ob = _; simp only [rankI, hs, if_false]
    clear hs
    go_enter Tryz.func83, Tryz.ntmps83
    go_wp2
    go_quiet ((go_at_call 130; exact Calls.quiet_of_same (compare_any _ _ _)))
    go_wp2
    go_region_held3 (fun w' => w'.cell? ⟨a, 12, none⟩ = some (.int .i64 oa.place) ∧ w'.cell? ⟨b, 12, none⟩ = some (.int .i64 ob.place)) (go_keep)
      (first | (go_at_call 130; refine (compare_any _ _ _).mono ?_; rintro e w' ⟨rfl, rfl⟩) | (go_at_call 131; refine (or_any _ _ (cmpI oa.price ob.price) (cmpI oa.place ob.place) _ ?_ ?_).mono ?_; (exact (Blk.new _ _ _).cell 0); (exact (Blk.new _ _ _).cell 1); rintro e w' ⟨rfl, rfl⟩))
    go_wp2
    go_ret
    exact ⟨by rw [HF.out]; rfl, _, _, alloc_eq_grow _ _⟩


theorem appendSeq_any (Bs : Nat) (a : Option Addr) (len cap : Nat) (f : Nat → Nat) (hlen : len ≤ 100000) (w : World) (hBs : Bs < w.heap.size)
    (hcB : w.cell? ⟨Bs, 0, none⟩ = some (.slice a len cap)) (hI : Ptrs w.heap.size w a len cap f) :
    Calls Tryz.prog 156 #[.slice none 0 0, .func (.func 129) #[] #[.pointer (some ⟨Bs, 0, none⟩)]] w fun e W' => ∃ v, e = .returned v ∧ W'.ownsRow w.heap.size 114 1 v len ((upto f len).map ptrV) ∧ (v = .slice none 0 0 ↔ upto f len = []) ∧ Below w.heap.size w W' :=
  callsIn_wide.1 (appendSeq_in Fence.wide 3 trivial trivial rfl (by omega) Bs a len cap f hlen w hBs hcB hI)

theorem values_any (a : Option Addr) (len cap : Nat) (w : World) :
    Calls Tryz.prog 82 #[.slice a len cap] w fun e w' => e = .returned (.func (.func 129) #[] #[.pointer (some ⟨w.heap.size, 0, none⟩)]) ∧ w' = w.alloc (.cells #[.slice a len cap] 155) :=
  callsIn_wide.1 (values_in Fence.wide 3 trivial rfl a len cap w)

set_option maxHeartbeats 1000000 in
theorem collect_any (Bs : Nat) (a : Option Addr) (len cap : Nat) (f : Nat → Nat) (hlen : len ≤ 100000) (w : World) (hBs : Bs < w.heap.size)
    (hcB : w.cell? ⟨Bs, 0, none⟩ = some (.slice a len cap)) (hI : Ptrs w.heap.size w a len cap f) :
    Calls Tryz.prog 127 #[.func (.func 129) #[] #[.pointer (some ⟨Bs, 0, none⟩)]] w fun e W' => ∃ v, e = .returned v ∧ W'.ownsRow w.heap.size 114 1 v len ((upto f len).map ptrV) ∧ (v = .slice none 0 0 ↔ upto f len = []) ∧ Below w.heap.size w W' := by
  have hcon := appendSeq_any Bs a len cap f hlen w hBs hcB hI
  clear hcB hI
  go_enter Tryz.func127, Tryz.ntmps127
  go_wp2_with (go_at_call 156; refine hcon.mono ?_; clear hcon; rintro e w' ⟨v, rfl, hv⟩)
  go_ret
  exact ⟨v, rfl, hv⟩

#print axioms collect_any
end Go.Proofs.YtigaphnafnpfnaaGreatDoor

