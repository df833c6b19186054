import Derived.WalkKit
import Derived.WalkSpells
import Derived.WalkLawsBesides
import Derived.Maps.OwnSet
import Derived.Test.YtigaphnafnpfnaaGreatDoorRows
import Derived.Deep.QuietTactic
import Derived.BigQuiet
import Derived.BigRegion
import Derived.Deep.RegionWith
import Derived.Deep.LoopGhost
import Derived.Deep.RegionHeld3
import Derived.Deep.DrawnRows
set_option linter.unusedVariables false
set_option linter.unusedSimpArgs false
/- Worlds, block by block: what a block holds, what has turned. -/
namespace Go.Proofs.YtigaphnafnpfnaaGreatDoor
open Go.RowKit

theorem hide {p : Prop} (h : p) : Hid p := h
theorem unhide {p : Prop} (h : Hid p) : p := h

/-- w' is w but for the blocks of S, and new blocks. -/
structure Chg (S : Nat → Prop) (w w' : World) : Prop where
  os : w'.os = w.os
  tape : w'.tape = w.tape
  output : w'.output = w.output
  size : w.heap.size ≤ w'.heap.size
  block : ∀ k, k < w.heap.size → ¬ S k → w'.heap[k]? = w.heap[k]?

def Non : Nat → Prop := fun _ => False

theorem Chg.refl (S : Nat → Prop) (w : World) : Chg S w w := ⟨rfl, rfl, rfl, Nat.le_refl _, fun _ _ _ => rfl⟩
theorem Chg.trans {S : Nat → Prop} {a b c : World} (h : Chg S a b) (k : Chg S b c) : Chg S a c :=
  ⟨k.os.trans h.os, k.tape.trans h.tape, k.output.trans h.output, Nat.le_trans h.size k.size, fun i hi hs => (k.block i (Nat.lt_of_lt_of_le hi h.size) hs).trans (h.block i hi hs)⟩
theorem Chg.mono {S S' : Nat → Prop} {a b : World} (h : Chg S a b) (hS : ∀ k, S k → S' k) : Chg S' a b :=
  ⟨h.os, h.tape, h.output, h.size, fun k hk hs => h.block k hk (fun x => hs (hS k x))⟩
theorem Chg.of_non {S : Nat → Prop} {a b : World} (h : Chg Non a b) : Chg S a b := h.mono (fun _ x => x.elim)
/-- new blocks may turn, too -/
theorem Chg.from {S : Nat → Prop} {a b c : World} (h : Chg S a b) (k : Chg (fun i => S i ∨ a.heap.size ≤ i) b c) : Chg S a c :=
  ⟨k.os.trans h.os, k.tape.trans h.tape, k.output.trans h.output, Nat.le_trans h.size k.size, fun i hi hs => (k.block i (Nat.lt_of_lt_of_le hi h.size) (fun x => x.elim hs (fun y => by omega))).trans (h.block i hi hs)⟩
theorem Chg.drew {S : Nat → Prop} {a w : World} (h : Chg S a w) : Chg S a w.drew := ⟨h.os, h.tape, h.output, h.size, h.block⟩
theorem Chg.drewN {S : Nat → Prop} {a w : World} (h : Chg S a w) (n : Nat) : Chg S a (w.drewN n) := ⟨h.os, h.tape, h.output, h.size, h.block⟩
theorem Chg.alloc {S : Nat → Prop} {a w : World} (h : Chg S a w) (o : Obj) : Chg S a (w.alloc o) :=
  ⟨h.os, h.tape, h.output, by have := h.size; simp; omega, fun k hk hs => (Below.heap_alloc _ _ _ (Nat.lt_of_lt_of_le hk h.size)).trans (h.block k hk hs)⟩
theorem Chg.setCell {S : Nat → Prop} {a w : World} (h : Chg S a w) {p : Addr} (hp : S p.block ∨ a.heap.size ≤ p.block) (u : Value) : Chg S a (w.setCell p u) :=
  ⟨h.os, h.tape, h.output, by have := h.size; simpa [World.setCell] using this, fun k hk hs => (Below.heap_setCell _ _ _ _ (by rintro rfl; rcases hp with hp | hp; exact hs hp; omega)).trans (h.block k hk hs)⟩
theorem Chg.of_below {w w' : World} (h : Below w.heap.size w w') : Chg Non w w' := ⟨h.os, h.tape, h.output, h.size, fun k hk _ => h.block k hk⟩
theorem Chg.below {w w' : World} (h : Chg Non w w') : Below w.heap.size w w' := ⟨h.os, h.tape, h.output, h.size, fun k hk => h.block k hk (fun x => x)⟩
theorem Chg.belowOf {S : Nat → Prop} {B : Nat} {w w' : World} (h : Chg S w w') (hB : B ≤ w.heap.size) (hS : ∀ k, S k → B ≤ k) : Below B w w' := ⟨h.os, h.tape, h.output, h.size, fun k hk => h.block k (by omega) (fun x => by have := hS k x; omega)⟩
theorem Chg.grown {S : Nat → Prop} {a w w' : World} {row : Option Nat} (h : Chg S a w) (hg : w.grownBy w' row) (hr : ∀ k, row = some k → S k ∨ a.heap.size ≤ k) : Chg S a w' :=
  h.from ⟨hg.os, hg.tape, hg.output, hg.size, fun k hk hs => hg.block k hk (fun e => by rcases hr k e.symm with x | x; exact hs (.inl x); exact hs (.inr x))⟩

/-- block b holds just these cells, none frozen -/
def Blk (w : World) (b : Nat) (c : Array Value) (t : TypeId) : Prop := w.heap[b]? = some (.cells c t)

theorem Blk.lt {w : World} {b : Nat} {c : Array Value} {t : TypeId} (h : Blk w b c t) : b < w.heap.size := (Array.getElem?_eq_some_iff.1 h).1
theorem Blk.cell {w : World} {b : Nat} {c : Array Value} {t : TypeId} (h : Blk w b c t) (i : Nat) : w.cell? ⟨b, i, none⟩ = c[i]? := by
  unfold Blk at h; simp [World.cell?, h]
theorem Blk.frozen {w : World} {b : Nat} {c : Array Value} {t : TypeId} (h : Blk w b c t) (i : Nat) : w.frozen? ⟨b, i, none⟩ = false := by
  unfold Blk at h; simp [World.frozen?, h]
theorem Blk.ne {w : World} {b b' : Nat} {c c' : Array Value} {t t' : TypeId} (h : Blk w b c t) (h' : Blk w b' c' t') (ht : t ≠ t') : b ≠ b' := by
  rintro rfl; unfold Blk at h h'; rw [h] at h'; simp at h'; exact ht h'.2
theorem Blk.uniq {w : World} {b : Nat} {c c' : Array Value} {t t' : TypeId} (h : Blk w b c t) (h' : Blk w b c' t') : c = c' := by
  unfold Blk at h h'; rw [h] at h'; simp at h'; exact h'.1
theorem Blk.set {w : World} {b : Nat} {c : Array Value} {t : TypeId} (h : Blk w b c t) (i : Nat) (v : Value) : Blk (w.setCell ⟨b, i, none⟩ v) b (c.setIfInBounds i v) t := by
  unfold Blk at h ⊢; simp [World.setCell, Array.getElem?_modify, h]
theorem Blk.other {w : World} {b : Nat} {c : Array Value} {t : TypeId} (h : Blk w b c t) {a : Addr} (ha : b ≠ a.block) (v : Value) : Blk (w.setCell a v) b c t := by
  unfold Blk at h ⊢; rw [Below.heap_setCell _ _ _ _ ha]; exact h
theorem Blk.alloc {w : World} {b : Nat} {c : Array Value} {t : TypeId} (h : Blk w b c t) (o : Obj) : Blk (w.alloc o) b c t := by
  have := h.lt; unfold Blk at h ⊢; rw [Below.heap_alloc _ _ _ this]; exact h
theorem Blk.new (w : World) (c : Array Value) (t : TypeId) : Blk (w.alloc (.cells c t)) w.heap.size c t := by
  unfold Blk; show (w.heap.push _)[w.heap.size]? = _; simp
theorem Blk.drew {w : World} {b : Nat} {c : Array Value} {t : TypeId} (h : Blk w b c t) : Blk w.drew b c t := h
theorem Blk.drewN {w : World} {b : Nat} {c : Array Value} {t : TypeId} (h : Blk w b c t) (n : Nat) : Blk (w.drewN n) b c t := h
theorem Chg.blk {S : Nat → Prop} {w w' : World} (k : Chg S w w') {b : Nat} {c : Array Value} {t : TypeId} (h : Blk w b c t) (hs : ¬ S b) : Blk w' b c t := by
  have := h.lt; unfold Blk at h ⊢; rw [k.block b this hs]; exact h
theorem Chg.cell {S : Nat → Prop} {w w' : World} (k : Chg S w w') {p : Addr} {v : Value} (h : w.cell? p = some v) (hs : ¬ S p.block) : w'.cell? p = some v :=
  (World.cell?_of_block (k.block p.block (World.block_lt_of_cell? w p h) hs)).trans h

#print axioms Chg.blk
end Go.Proofs.YtigaphnafnpfnaaGreatDoor

set_option linter.unusedVariables false
set_option linter.unusedSimpArgs false
namespace Go.Proofs.YtigaphnafnpfnaaGreatDoor
open Go.RowKit
attribute [local go_sem ↓] Go.wp_at_zero Go.wp_at_succ

theorem isNaN_any (a : Int) (w : World) : Calls Tryz.prog 159 #[.int .i64 a] w fun e w' => e = .returned (.bool false) ∧ w' = w := by
  go_enter Tryz.func159, Tryz.ntmps159
  go_wp2
  go_ret
  exact ⟨by simp, rfl⟩

def cmpI (a b : Int) : Int := if a < b then -1 else if b < a then 1 else 0

set_option maxHeartbeats 400000 in
theorem compare_any (a b : Int) (w : World) : Calls Tryz.prog 130 #[.int .i64 a, .int .i64 b] w fun e w' => e = .returned (.int .i64 (cmpI a b)) ∧ w' = w := by
  go_enter Tryz.func130, Tryz.ntmps130
  go_wp2_with (go_at_call 159; refine (isNaN_any _ _).mono ?_; rintro e w' ⟨rfl, rfl⟩)
  all_goals (go_ret; refine ⟨congrArg (fun n => Ending.returned (.int .i64 n)) ?_, rfl⟩)
  · rw [cmpI, if_pos (by omega)]
  · rw [cmpI, if_neg (by omega), if_pos (by omega)]
  · rw [cmpI, if_neg (by omega), if_neg (by omega)]

def orI (p q : Int) : Int := if p = 0 then q else p

set_option maxHeartbeats 400000 in
theorem or_any (g cap : Nat) (p q : Int) (w : World) (h0 : w.cell? ⟨g, 0, none⟩ = some (.int .i64 p)) (h1 : w.cell? ⟨g, 1, none⟩ = some (.int .i64 q)) :
    Calls Tryz.prog 131 #[.slice (some ⟨g, 0, none⟩) 2 cap] w fun e w' => e = .returned (.int .i64 (orI p q)) ∧ w' = w := by
  by_cases hp : p = 0
  · subst hp
    by_cases hq : q = 0
    · subst hq
      go_enter Tryz.func131, Tryz.ntmps131
      go_wp2
      go_loop [5, 8] (fun _ i => ∃ k : Nat, k ≤ 2 ∧ i = .int .i64 k) (fun _ i => 2 - (intOf i).toNat)
      case atStart => exact ⟨0, by omega, rfl⟩
      case round =>
        obtain ⟨k, hk, rfl⟩ := hrel
        by_cases hlt : k < 2
        · have hc : w.cell? ⟨g, k, none⟩ = some (.int .i64 0) := by
            have : k = 0 ∨ k = 1 := by omega
            rcases this with rfl | rfl
            · exact h0
            · exact h1
          clear h0 h1
          go_wp2
          go_round
          case rel => exact ⟨k + 1, by omega, by go_num⟩
          case measure => simp [intOf]; omega
        · go_wp2
          go_ret
          exact ⟨by simp [orI], rfl⟩
    · have hq' : (q != 0) = true := by simp [hq]
      go_enter Tryz.func131, Tryz.ntmps131
      go_wp2
      go_loop [5, 8] (fun _ i => ∃ k : Nat, k ≤ 1 ∧ i = .int .i64 k) (fun _ i => 2 - (intOf i).toNat)
      case atStart => exact ⟨0, by omega, rfl⟩
      case round =>
        obtain ⟨k, hk, rfl⟩ := hrel
        have : k = 0 ∨ k = 1 := by omega
        rcases this with rfl | rfl
        · go_wp2
          go_round
          case rel => exact ⟨1, by omega, by go_num⟩
          case measure => simp [intOf]
        · go_wp2
          go_ret
          exact ⟨by simp [orI], rfl⟩
  · have hp' : (p != 0) = true := by simp [hp]
    go_enter Tryz.func131, Tryz.ntmps131
    go_wp2
    go_loop [5, 8] (fun _ i => i = .int .i64 0) (fun _ _ => 0)
    case atStart => rfl
    case round =>
      subst hrel
      go_wp2
      go_ret
      exact ⟨by simp [orI, hp], rfl⟩

/-- an order without its place in the heap -/
structure Ord where
  id : Int
  owner : Int
  sym : ByteArray
  side : Int
  kind : Int
  price : Int
  qty : Int
  entered : Int
  opn : Int
  filled : Int
  canc : Int
  exp : Int
  place : Int

def Ord.cells (o : Ord) (idx : Int) : Array Value :=
  #[.int .i64 o.id, .int .i64 o.owner, .string o.sym, .int .i64 o.side, .int .i64 o.kind, .int .i64 o.price, .int .i64 o.qty,
    .int .i64 o.entered, .int .i64 o.opn, .int .i64 o.filled, .int .i64 o.canc, .int .i64 o.exp, .int .i64 o.place, .int .i64 idx]

def IsOrd (w : World) (b : Nat) (o : Ord) (idx : Int) : Prop := Blk w b (o.cells idx) 116

/-- how two orders of one side rank -/
def rankI (a b : Ord) : Int :=
  let p := cmpI a.price b.price
  let p' := if a.side = 0 then -p else p
  orI p' (cmpI a.place b.place)

theorem cmpI_b (a b : Int) : -1 ≤ cmpI a b ∧ cmpI a b ≤ 1 := by unfold cmpI; split <;> (try split) <;> omega

set_option maxHeartbeats 1000000 in
theorem byRank_any (a b : Nat) (oa ob : Ord) (ia ib : Int) (w : World) (ha : IsOrd w a oa ia) (hb : IsOrd w b ob ib) :
    Calls Tryz.prog 83 #[.pointer (some ⟨a, 0, none⟩), .pointer (some ⟨b, 0, none⟩)] w fun e w' => e = .returned (.int .i64 (rankI oa ob)) ∧ Below w.heap.size w w' := by
  have a3 := ha.cell 3
  have a5 := ha.cell 5
  have a12 := ha.cell 12
  have b5 := hb.cell 5
  have b12 := hb.cell 12
  have la := ha.lt
  have lb := hb.lt
  simp only [Ord.cells] at a3 a5 a12 b5 b12
  simp at a3 a5 a12 b5 b12
  clear ha hb
  obtain ⟨p1, p2⟩ := cmpI_b oa.price ob.price
  by_cases hs : oa.side = 0
  · have hs' : (oa.side == 0) = true := by simp [hs]
    have HF : Hid (rankI oa ob = orI (-(cmpI oa.price ob.price)) (cmpI oa.place ob.place)) := by show rankI oa ob = _; simp only [rankI, hs, if_true]
    clear hs
    go_enter Tryz.func83, Tryz.ntmps83
    go_wp2
    go_quiet ((go_at_call 130; exact Calls.quiet_of_same (compare_any _ _ _)))
    go_wp2
    go_region_held3 (fun w' => w'.cell? ⟨a, 12, none⟩ = some (.int .i64 oa.place) ∧ w'.cell? ⟨b, 12, none⟩ = some (.int .i64 ob.place)) (go_keep)
      (first | (go_at_call 130; refine (compare_any _ _ _).mono ?_; rintro e w' ⟨rfl, rfl⟩) | (go_at_call 131; refine (or_any _ _ (-(cmpI oa.price ob.price)) (cmpI oa.place ob.place) _ ?_ ?_).mono ?_; (exact (Blk.new _ _ _).cell 0); (exact (Blk.new _ _ _).cell 1); rintro e w' ⟨rfl, rfl⟩))
    go_wp2
    go_ret
    exact ⟨by rw [HF.out]; rfl, ((Chg.refl Non w).drewN _ |>.alloc _).below⟩
  · have hs' : (oa.side == 0) = false := by simp [hs]
    have HF : Hid (rankI oa ob = orI (cmpI oa.price ob.price) (cmpI oa.place ob.place)) := by show rankI oa ob = _; simp only [rankI, hs, if_false]
    clear hs
    go_enter Tryz.func83, Tryz.ntmps83
    go_wp2
    go_quiet ((go_at_call 130; exact Calls.quiet_of_same (compare_any _ _ _)))
    go_wp2
    go_region_held3 (fun w' => w'.cell? ⟨a, 12, none⟩ = some (.int .i64 oa.place) ∧ w'.cell? ⟨b, 12, none⟩ = some (.int .i64 ob.place)) (go_keep)
      (first | (go_at_call 130; refine (compare_any _ _ _).mono ?_; rintro e w' ⟨rfl, rfl⟩) | (go_at_call 131; refine (or_any _ _ (cmpI oa.price ob.price) (cmpI oa.place ob.place) _ ?_ ?_).mono ?_; (exact (Blk.new _ _ _).cell 0); (exact (Blk.new _ _ _).cell 1); rintro e w' ⟨rfl, rfl⟩))
    go_wp2
    go_ret
    exact ⟨by rw [HF.out]; rfl, ((Chg.refl Non w).drewN _ |>.alloc _).below⟩

end Go.Proofs.YtigaphnafnpfnaaGreatDoor

