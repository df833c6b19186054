import Derived.Test.YtigaphnafnpfnaaGreatDoorRows
import Derived.Test.YtigaphnafnpfnaaGreatDoorGW
import Derived.Deep.QuietTactic
import Derived.BigQuiet
import Derived.BigRegion
import Derived.Deep.RegionWith
import Derived.Deep.LoopGhost
import Derived.Deep.RegionHeld3
import Derived.Deep.DrawnRows
set_option linter.unusedVariables false
set_option linter.unusedSimpArgs false
namespace Go.Proofs.YtigaphnafnpfnaaGreatDoor
open Go.RowKit
attribute [local go_sem ↓] Go.wp_at_zero Go.wp_at_succ

theorem isNaN_any (a : Int) (w : World) : Calls Tryz.prog 159 #[.int .i64 a] w fun e w' => e = .returned (.bool false) ∧ w' = w := by
  go_enter Tryz.func159, Tryz.ntmps159
  go_wp2
  go_ret
  exact ⟨by simp, rfl⟩

def cmpI (a b : Int) : Int := if a < b then -1 else if b < a then 1 else 0

set_option maxHeartbeats 400000 in
theorem compare_any (a b : Int) (w : World) : Calls Tryz.prog 130 #[.int .i64 a, .int .i64 b] w fun e w' => e = .returned (.int .i64 (cmpI a b)) ∧ w' = w := by
  go_enter Tryz.func130, Tryz.ntmps130
  go_wp2_with (go_at_call 159; refine (isNaN_any _ _).mono ?_; rintro e w' ⟨rfl, rfl⟩)
  all_goals (go_ret; refine ⟨congrArg (fun n => Ending.returned (.int .i64 n)) ?_, rfl⟩)
  · rw [cmpI, if_pos (by omega)]
  · rw [cmpI, if_neg (by omega), if_pos (by omega)]
  · rw [cmpI, if_neg (by omega), if_neg (by omega)]

def orI (p q : Int) : Int := if p = 0 then q else p

set_option maxHeartbeats 400000 in
theorem or_any (g cap : Nat) (p q : Int) (w : World) (h0 : w.cell? ⟨g, 0, none⟩ = some (.int .i64 p)) (h1 : w.cell? ⟨g, 1, none⟩ = some (.int .i64 q)) :
    Calls Tryz.prog 131 #[.slice (some ⟨g, 0, none⟩) 2 cap] w fun e w' => e = .returned (.int .i64 (orI p q)) ∧ w' = w := by
  by_cases hp : p = 0
  · subst hp
    by_cases hq : q = 0
    · subst hq
      go_enter Tryz.func131, Tryz.ntmps131
      go_wp2
      go_loop [5, 8] (fun _ i => ∃ k : Nat, k ≤ 2 ∧ i = .int .i64 k) (fun _ i => 2 - (intOf i).toNat)
      case atStart => exact ⟨0, by omega, rfl⟩
      case round =>
        obtain ⟨k, hk, rfl⟩ := hrel
        by_cases hlt : k < 2
        · have hc : w.cell? ⟨g, k, none⟩ = some (.int .i64 0) := by
            have : k = 0 ∨ k = 1 := by omega
            rcases this with rfl | rfl
            · exact h0
            · exact h1
          clear h0 h1
          go_wp2
          go_round
          case rel => exact ⟨k + 1, by omega, by go_num⟩
          case measure => simp [intOf]; omega
        · go_wp2
          go_ret
          exact ⟨by simp [orI], rfl⟩
    · have hq' : (q != 0) = true := by simp [hq]
      go_enter Tryz.func131, Tryz.ntmps131
      go_wp2
      go_loop [5, 8] (fun _ i => ∃ k : Nat, k ≤ 1 ∧ i = .int .i64 k) (fun _ i => 2 - (intOf i).toNat)
      case atStart => exact ⟨0, by omega, rfl⟩
      case round =>
        obtain ⟨k, hk, rfl⟩ := hrel
        have : k = 0 ∨ k = 1 := by omega
        rcases this with rfl | rfl
        · go_wp2
          go_round
          case rel => exact ⟨1, by omega, by go_num⟩
          case measure => simp [intOf]
        · go_wp2
          go_ret
          exact ⟨by simp [orI], rfl⟩
  · have hp' : (p != 0) = true := by simp [hp]
    go_enter Tryz.func131, Tryz.ntmps131
    go_wp2
    go_loop [5, 8] (fun _ i => i = .int .i64 0) (fun _ _ => 0)
    case atStart => rfl
    case round =>
      subst hrel
      go_wp2
      go_ret
      exact ⟨by simp [orI, hp], rfl⟩

/-- an order without its place in the heap -/
structure Ord where
  id : Int
  owner : Int
  sym : ByteArray
  side : Int
  kind : Int
  price : Int
  qty : Int
  entered : Int
  opn : Int
  filled : Int
  canc : Int
  exp : Int
  place : Int

def Ord.cells (o : Ord) (idx : Int) : Array Value :=
  #[.int .i64 o.id, .int .i64 o.owner, .string o.sym, .int .i64 o.side, .int .i64 o.kind, .int .i64 o.price, .int .i64 o.qty,
    .int .i64 o.entered, .int .i64 o.opn, .int .i64 o.filled, .int .i64 o.canc, .int .i64 o.exp, .int .i64 o.place, .int .i64 idx]

def IsOrd (w : World) (b : Nat) (o : Ord) (idx : Int) : Prop := Blk w b (o.cells idx) 116

/-- how two orders of one side rank -/
def rankI (a b : Ord) : Int :=
  let p := cmpI a.price b.price
  let p' := if a.side = 0 then -p else p
  orI p' (cmpI a.place b.place)

theorem cmpI_b (a b : Int) : -1 ≤ cmpI a b ∧ cmpI a b ≤ 1 := by unfold cmpI; split <;> (try split) <;> omega

set_option maxHeartbeats 1000000 in
theorem byRank_any (a b : Nat) (oa ob : Ord) (ia ib : Int) (w : World) (ha : IsOrd w a oa ia) (hb : IsOrd w b ob ib) :
    Calls Tryz.prog 83 #[.pointer (some ⟨a, 0, none⟩), .pointer (some ⟨b, 0, none⟩)] w fun e w' => e = .returned (.int .i64 (rankI oa ob)) ∧ Below w.heap.size w w' := by
  have a3 := ha.cell 3
  have a5 := ha.cell 5
  have a12 := ha.cell 12
  have b5 := hb.cell 5
  have b12 := hb.cell 12
  have la := ha.lt
  have lb := hb.lt
  simp only [Ord.cells] at a3 a5 a12 b5 b12
  simp at a3 a5 a12 b5 b12
  clear ha hb
  obtain ⟨p1, p2⟩ := cmpI_b oa.price ob.price
  by_cases hs : oa.side = 0
  · have hs' : (oa.side == 0) = true := by simp [hs]
    have HF : Hid (rankI oa ob = orI (-(cmpI oa.price ob.price)) (cmpI oa.place ob.place)) := by show rankI oa ob = _; simp only [rankI, hs, if_true]
    clear hs
    go_enter Tryz.func83, Tryz.ntmps83
    go_wp2
    go_quiet ((go_at_call 130; exact Calls.quiet_of_same (compare_any _ _ _)))
    go_wp2
    go_region_held3 (fun w' => w'.cell? ⟨a, 12, none⟩ = some (.int .i64 oa.place) ∧ w'.cell? ⟨b, 12, none⟩ = some (.int .i64 ob.place)) (go_keep)
      (first | (go_at_call 130; refine (compare_any _ _ _).mono ?_; rintro e w' ⟨rfl, rfl⟩) | (go_at_call 131; refine (or_any _ _ (-(cmpI oa.price ob.price)) (cmpI oa.place ob.place) _ ?_ ?_).mono ?_; (exact (Blk.new _ _ _).cell 0); (exact (Blk.new _ _ _).cell 1); rintro e w' ⟨rfl, rfl⟩))
    go_wp2
    go_ret
    exact ⟨by rw [HF.out]; rfl, ((Chg.refl Non w).drewN _ |>.alloc _).below⟩
  · have hs' : (oa.side == 0) = false := by simp [hs]
    have HF : Hid (rankI oa ob = orI (cmpI oa.price ob.price) (cmpI oa.place ob.place)) := by show rankI oa ob = _; simp only [rankI, hs, if_false]
    clear hs
    go_enter Tryz.func83, Tryz.ntmps83
    go_wp2
    go_quiet ((go_at_call 130; exact Calls.quiet_of_same (compare_any _ _ _)))
    go_wp2
    go_region_held3 (fun w' => w'.cell? ⟨a, 12, none⟩ = some (.int .i64 oa.place) ∧ w'.cell? ⟨b, 12, none⟩ = some (.int .i64 ob.place)) (go_keep)
      (first | (go_at_call 130; refine (compare_any _ _ _).mono ?_; rintro e w' ⟨rfl, rfl⟩) | (go_at_call 131; refine (or_any _ _ (cmpI oa.price ob.price) (cmpI oa.place ob.place) _ ?_ ?_).mono ?_; (exact (Blk.new _ _ _).cell 0); (exact (Blk.new _ _ _).cell 1); rintro e w' ⟨rfl, rfl⟩))
    go_wp2
    go_ret
    exact ⟨by rw [HF.out]; rfl, ((Chg.refl Non w).drewN _ |>.alloc _).below⟩

end Go.Proofs.YtigaphnafnpfnaaGreatDoor

