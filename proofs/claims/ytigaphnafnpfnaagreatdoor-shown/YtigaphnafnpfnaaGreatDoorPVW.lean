import Derived.WalkKit
import Derived.WalkSpells
import Derived.WalkLawsBesides
import Derived.Maps.OwnSet
import Derived.Test.YtigaphnafnpfnaaGreatDoorRows
import Derived.Deep.QuietTactic
import Derived.BigQuiet
import Derived.BigRegion
import Derived.Deep.RegionWith
import Derived.Deep.LoopGhost
import Derived.Deep.RegionHeld3
import Derived.Deep.DrawnRows
import Derived.Deep.AppendLies
import Derived.Shelf.LaysM
import Derived.Shelf.Strconv.Itoa3
import Derived.Lib.ItoaLen
import Derived.Shelf.SlLaysF
set_option linter.unusedVariables false
set_option linter.unusedSimpArgs false
/- Worlds, block by block: what a block holds, what has turned. -/
namespace Go.Proofs.YtigaphnafnpfnaaGreatDoor
open Go.RowKit

theorem hide {p : Prop} (h : p) : Hid p := h
theorem unhide {p : Prop} (h : Hid p) : p := h

/-- w' is w but for the blocks of S, and new blocks. -/
structure Chg (S : Nat → Prop) (w w' : World) : Prop where
  os : w'.os = w.os
  tape : w'.tape = w.tape
  output : w'.output = w.output
  size : w.heap.size ≤ w'.heap.size
  block : ∀ k, k < w.heap.size → ¬ S k → w'.heap[k]? = w.heap[k]?

def Non : Nat → Prop := fun _ => False

theorem Chg.refl (S : Nat → Prop) (w : World) : Chg S w w := ⟨rfl, rfl, rfl, Nat.le_refl _, fun _ _ _ => rfl⟩
theorem Chg.trans {S : Nat → Prop} {a b c : World} (h : Chg S a b) (k : Chg S b c) : Chg S a c :=
  ⟨k.os.trans h.os, k.tape.trans h.tape, k.output.trans h.output, Nat.le_trans h.size k.size, fun i hi hs => (k.block i (Nat.lt_of_lt_of_le hi h.size) hs).trans (h.block i hi hs)⟩
theorem Chg.mono {S S' : Nat → Prop} {a b : World} (h : Chg S a b) (hS : ∀ k, S k → S' k) : Chg S' a b :=
  ⟨h.os, h.tape, h.output, h.size, fun k hk hs => h.block k hk (fun x => hs (hS k x))⟩
theorem Chg.of_non {S : Nat → Prop} {a b : World} (h : Chg Non a b) : Chg S a b := h.mono (fun _ x => x.elim)
/-- new blocks may turn, too -/
theorem Chg.from {S : Nat → Prop} {a b c : World} (h : Chg S a b) (k : Chg (fun i => S i ∨ a.heap.size ≤ i) b c) : Chg S a c :=
  ⟨k.os.trans h.os, k.tape.trans h.tape, k.output.trans h.output, Nat.le_trans h.size k.size, fun i hi hs => (k.block i (Nat.lt_of_lt_of_le hi h.size) (fun x => x.elim hs (fun y => by omega))).trans (h.block i hi hs)⟩
theorem Chg.drew {S : Nat → Prop} {a w : World} (h : Chg S a w) : Chg S a w.drew := ⟨h.os, h.tape, h.output, h.size, h.block⟩
theorem Chg.drewN {S : Nat → Prop} {a w : World} (h : Chg S a w) (n : Nat) : Chg S a (w.drewN n) := ⟨h.os, h.tape, h.output, h.size, h.block⟩
theorem Chg.alloc {S : Nat → Prop} {a w : World} (h : Chg S a w) (o : Obj) : Chg S a (w.alloc o) :=
  ⟨h.os, h.tape, h.output, by have := h.size; simp; omega, fun k hk hs => (Below.heap_alloc _ _ _ (Nat.lt_of_lt_of_le hk h.size)).trans (h.block k hk hs)⟩
theorem Chg.setCell {S : Nat → Prop} {a w : World} (h : Chg S a w) {p : Addr} (hp : S p.block ∨ a.heap.size ≤ p.block) (u : Value) : Chg S a (w.setCell p u) :=
  ⟨h.os, h.tape, h.output, by have := h.size; simpa [World.setCell] using this, fun k hk hs => (Below.heap_setCell _ _ _ _ (by rintro rfl; rcases hp with hp | hp; exact hs hp; omega)).trans (h.block k hk hs)⟩
theorem Chg.of_below {w w' : World} (h : Below w.heap.size w w') : Chg Non w w' := ⟨h.os, h.tape, h.output, h.size, fun k hk _ => h.block k hk⟩
theorem Chg.below {w w' : World} (h : Chg Non w w') : Below w.heap.size w w' := ⟨h.os, h.tape, h.output, h.size, fun k hk => h.block k hk (fun x => x)⟩
theorem Chg.belowOf {S : Nat → Prop} {B : Nat} {w w' : World} (h : Chg S w w') (hB : B ≤ w.heap.size) (hS : ∀ k, S k → B ≤ k) : Below B w w' := ⟨h.os, h.tape, h.output, h.size, fun k hk => h.block k (by omega) (fun x => by have := hS k x; omega)⟩
theorem Chg.grown {S : Nat → Prop} {a w w' : World} {row : Option Nat} (h : Chg S a w) (hg : w.grownBy w' row) (hr : ∀ k, row = some k → S k ∨ a.heap.size ≤ k) : Chg S a w' :=
  h.from ⟨hg.os, hg.tape, hg.output, hg.size, fun k hk hs => hg.block k hk (fun e => by rcases hr k e.symm with x | x; exact hs (.inl x); exact hs (.inr x))⟩

/-- block b holds just these cells, none frozen -/
def Blk (w : World) (b : Nat) (c : Array Value) (t : TypeId) : Prop := w.heap[b]? = some (.cells c t)

theorem Blk.lt {w : World} {b : Nat} {c : Array Value} {t : TypeId} (h : Blk w b c t) : b < w.heap.size := (Array.getElem?_eq_some_iff.1 h).1
theorem Blk.cell {w : World} {b : Nat} {c : Array Value} {t : TypeId} (h : Blk w b c t) (i : Nat) : w.cell? ⟨b, i, none⟩ = c[i]? := by
  unfold Blk at h; simp [World.cell?, h]
theorem Blk.frozen {w : World} {b : Nat} {c : Array Value} {t : TypeId} (h : Blk w b c t) (i : Nat) : w.frozen? ⟨b, i, none⟩ = false := by
  unfold Blk at h; simp [World.frozen?, h]
theorem Blk.ne {w : World} {b b' : Nat} {c c' : Array Value} {t t' : TypeId} (h : Blk w b c t) (h' : Blk w b' c' t') (ht : t ≠ t') : b ≠ b' := by
  rintro rfl; unfold Blk at h h'; rw [h] at h'; simp at h'; exact ht h'.2
theorem Blk.uniq {w : World} {b : Nat} {c c' : Array Value} {t t' : TypeId} (h : Blk w b c t) (h' : Blk w b c' t') : c = c' := by
  unfold Blk at h h'; rw [h] at h'; simp at h'; exact h'.1
theorem Blk.set {w : World} {b : Nat} {c : Array Value} {t : TypeId} (h : Blk w b c t) (i : Nat) (v : Value) : Blk (w.setCell ⟨b, i, none⟩ v) b (c.setIfInBounds i v) t := by
  unfold Blk at h ⊢; simp [World.setCell, Array.getElem?_modify, h]
theorem Blk.other {w : World} {b : Nat} {c : Array Value} {t : TypeId} (h : Blk w b c t) {a : Addr} (ha : b ≠ a.block) (v : Value) : Blk (w.setCell a v) b c t := by
  unfold Blk at h ⊢; rw [Below.heap_setCell _ _ _ _ ha]; exact h
theorem Blk.alloc {w : World} {b : Nat} {c : Array Value} {t : TypeId} (h : Blk w b c t) (o : Obj) : Blk (w.alloc o) b c t := by
  have := h.lt; unfold Blk at h ⊢; rw [Below.heap_alloc _ _ _ this]; exact h
theorem Blk.new (w : World) (c : Array Value) (t : TypeId) : Blk (w.alloc (.cells c t)) w.heap.size c t := by
  unfold Blk; show (w.heap.push _)[w.heap.size]? = _; simp
theorem Blk.drew {w : World} {b : Nat} {c : Array Value} {t : TypeId} (h : Blk w b c t) : Blk w.drew b c t := h
theorem Blk.drewN {w : World} {b : Nat} {c : Array Value} {t : TypeId} (h : Blk w b c t) (n : Nat) : Blk (w.drewN n) b c t := h
theorem Chg.blk {S : Nat → Prop} {w w' : World} (k : Chg S w w') {b : Nat} {c : Array Value} {t : TypeId} (h : Blk w b c t) (hs : ¬ S b) : Blk w' b c t := by
  have := h.lt; unfold Blk at h ⊢; rw [k.block b this hs]; exact h
theorem Chg.cell {S : Nat → Prop} {w w' : World} (k : Chg S w w') {p : Addr} {v : Value} (h : w.cell? p = some v) (hs : ¬ S p.block) : w'.cell? p = some v :=
  (World.cell?_of_block (k.block p.block (World.block_lt_of_cell? w p h) hs)).trans h

#print axioms Chg.blk
end Go.Proofs.YtigaphnafnpfnaaGreatDoor

set_option linter.unusedVariables false
set_option linter.unusedSimpArgs false
namespace Go.Proofs.YtigaphnafnpfnaaGreatDoor
open Go.RowKit
attribute [local go_sem ↓] Go.wp_at_zero Go.wp_at_succ

theorem isNaN_any (a : Int) (w : World) : Calls Tryz.prog 159 #[.int .i64 a] w fun e w' => e = .returned (.bool false) ∧ w' = w := by
  go_enter Tryz.func159, Tryz.ntmps159
  go_wp2
  go_ret
  exact ⟨by simp, rfl⟩

def cmpI (a b : Int) : Int := if a < b then -1 else if b < a then 1 else 0

set_option maxHeartbeats 400000 in
theorem compare_any (a b : Int) (w : World) : Calls Tryz.prog 130 #[.int .i64 a, .int .i64 b] w fun e w' => e = .returned (.int .i64 (cmpI a b)) ∧ w' = w := by
  go_enter Tryz.func130, Tryz.ntmps130
  go_wp2_with (go_at_call 159; refine (isNaN_any _ _).mono ?_; rintro e w' ⟨rfl, rfl⟩)
  all_goals (go_ret; refine ⟨congrArg (fun n => Ending.returned (.int .i64 n)) ?_, rfl⟩)
  · rw [cmpI, if_pos (by omega)]
  · rw [cmpI, if_neg (by omega), if_pos (by omega)]
  · rw [cmpI, if_neg (by omega), if_neg (by omega)]

def orI (p q : Int) : Int := if p = 0 then q else p

set_option maxHeartbeats 400000 in
theorem or_any (g cap : Nat) (p q : Int) (w : World) (h0 : w.cell? ⟨g, 0, none⟩ = some (.int .i64 p)) (h1 : w.cell? ⟨g, 1, none⟩ = some (.int .i64 q)) :
    Calls Tryz.prog 131 #[.slice (some ⟨g, 0, none⟩) 2 cap] w fun e w' => e = .returned (.int .i64 (orI p q)) ∧ w' = w := by
  by_cases hp : p = 0
  · subst hp
    by_cases hq : q = 0
    · subst hq
      go_enter Tryz.func131, Tryz.ntmps131
      go_wp2
      go_loop [5, 8] (fun _ i => ∃ k : Nat, k ≤ 2 ∧ i = .int .i64 k) (fun _ i => 2 - (intOf i).toNat)
      case atStart => exact ⟨0, by omega, rfl⟩
      case round =>
        obtain ⟨k, hk, rfl⟩ := hrel
        by_cases hlt : k < 2
        · have hc : w.cell? ⟨g, k, none⟩ = some (.int .i64 0) := by
            have : k = 0 ∨ k = 1 := by omega
            rcases this with rfl | rfl
            · exact h0
            · exact h1
          clear h0 h1
          go_wp2
          go_round
          case rel => exact ⟨k + 1, by omega, by go_num⟩
          case measure => simp [intOf]; omega
        · go_wp2
          go_ret
          exact ⟨by simp [orI], rfl⟩
    · have hq' : (q != 0) = true := by simp [hq]
      go_enter Tryz.func131, Tryz.ntmps131
      go_wp2
      go_loop [5, 8] (fun _ i => ∃ k : Nat, k ≤ 1 ∧ i = .int .i64 k) (fun _ i => 2 - (intOf i).toNat)
      case atStart => exact ⟨0, by omega, rfl⟩
      case round =>
        obtain ⟨k, hk, rfl⟩ := hrel
        have : k = 0 ∨ k = 1 := by omega
        rcases this with rfl | rfl
        · go_wp2
          go_round
          case rel => exact ⟨1, by omega, by go_num⟩
          case measure => simp [intOf]
        · go_wp2
          go_ret
          exact ⟨by simp [orI], rfl⟩
  · have hp' : (p != 0) = true := by simp [hp]
    go_enter Tryz.func131, Tryz.ntmps131
    go_wp2
    go_loop [5, 8] (fun _ i => i = .int .i64 0) (fun _ _ => 0)
    case atStart => rfl
    case round =>
      subst hrel
      go_wp2
      go_ret
      exact ⟨by simp [orI, hp], rfl⟩

/-- an order without its place in the heap -/
structure Ord where
  id : Int
  owner : Int
  sym : ByteArray
  side : Int
  kind : Int
  price : Int
  qty : Int
  entered : Int
  opn : Int
  filled : Int
  canc : Int
  exp : Int
  place : Int

def Ord.cells (o : Ord) (idx : Int) : Array Value :=
  #[.int .i64 o.id, .int .i64 o.owner, .string o.sym, .int .i64 o.side, .int .i64 o.kind, .int .i64 o.price, .int .i64 o.qty,
    .int .i64 o.entered, .int .i64 o.opn, .int .i64 o.filled, .int .i64 o.canc, .int .i64 o.exp, .int .i64 o.place, .int .i64 idx]

def IsOrd (w : World) (b : Nat) (o : Ord) (idx : Int) : Prop := Blk w b (o.cells idx) 116

/-- how two orders of one side rank -/
def rankI (a b : Ord) : Int :=
  let p := cmpI a.price b.price
  let p' := if a.side = 0 then -p else p
  orI p' (cmpI a.place b.place)

theorem cmpI_b (a b : Int) : -1 ≤ cmpI a b ∧ cmpI a b ≤ 1 := by unfold cmpI; split <;> (try split) <;> omega

set_option maxHeartbeats 1000000 in
theorem byRank_any (a b : Nat) (oa ob : Ord) (ia ib : Int) (w : World) (ha : IsOrd w a oa ia) (hb : IsOrd w b ob ib) :
    Calls Tryz.prog 83 #[.pointer (some ⟨a, 0, none⟩), .pointer (some ⟨b, 0, none⟩)] w fun e w' => e = .returned (.int .i64 (rankI oa ob)) ∧ Below w.heap.size w w' := by
  have a3 := ha.cell 3
  have a5 := ha.cell 5
  have a12 := ha.cell 12
  have b5 := hb.cell 5
  have b12 := hb.cell 12
  have la := ha.lt
  have lb := hb.lt
  simp only [Ord.cells] at a3 a5 a12 b5 b12
  simp at a3 a5 a12 b5 b12
  clear ha hb
  obtain ⟨p1, p2⟩ := cmpI_b oa.price ob.price
  by_cases hs : oa.side = 0
  · have hs' : (oa.side == 0) = true := by simp [hs]
    have HF : Hid (rankI oa ob = orI (-(cmpI oa.price ob.price)) (cmpI oa.place ob.place)) := by show rankI oa ob = _; simp only [rankI, hs, if_true]
    clear hs
    go_enter Tryz.func83, Tryz.ntmps83
    go_wp2
    go_quiet ((go_at_call 130; exact Calls.quiet_of_same (compare_any _ _ _)))
    go_wp2
    go_region_held3 (fun w' => w'.cell? ⟨a, 12, none⟩ = some (.int .i64 oa.place) ∧ w'.cell? ⟨b, 12, none⟩ = some (.int .i64 ob.place)) (go_keep)
      (first | (go_at_call 130; refine (compare_any _ _ _).mono ?_; rintro e w' ⟨rfl, rfl⟩) | (go_at_call 131; refine (or_any _ _ (-(cmpI oa.price ob.price)) (cmpI oa.place ob.place) _ ?_ ?_).mono ?_; (exact (Blk.new _ _ _).cell 0); (exact (Blk.new _ _ _).cell 1); rintro e w' ⟨rfl, rfl⟩))
    go_wp2
    go_ret
    exact ⟨by rw [HF.out]; rfl, ((Chg.refl Non w).drewN _ |>.alloc _).below⟩
  · have hs' : (oa.side == 0) = false := by simp [hs]
    have HF : Hid (rankI oa ob = orI (cmpI oa.price ob.price) (cmpI oa.place ob.place)) := by show rankI oa ob = _; simp only [rankI, hs, if_false]
    clear hs
    go_enter Tryz.func83, Tryz.ntmps83
    go_wp2
    go_quiet ((go_at_call 130; exact Calls.quiet_of_same (compare_any _ _ _)))
    go_wp2
    go_region_held3 (fun w' => w'.cell? ⟨a, 12, none⟩ = some (.int .i64 oa.place) ∧ w'.cell? ⟨b, 12, none⟩ = some (.int .i64 ob.place)) (go_keep)
      (first | (go_at_call 130; refine (compare_any _ _ _).mono ?_; rintro e w' ⟨rfl, rfl⟩) | (go_at_call 131; refine (or_any _ _ (cmpI oa.price ob.price) (cmpI oa.place ob.place) _ ?_ ?_).mono ?_; (exact (Blk.new _ _ _).cell 0); (exact (Blk.new _ _ _).cell 1); rintro e w' ⟨rfl, rfl⟩))
    go_wp2
    go_ret
    exact ⟨by rw [HF.out]; rfl, ((Chg.refl Non w).drewN _ |>.alloc _).below⟩

end Go.Proofs.YtigaphnafnpfnaaGreatDoor

set_option linter.unusedVariables false
set_option linter.unusedSimpArgs false
namespace Go.Proofs.YtigaphnafnpfnaaGreatDoor
open Go.RowKit
attribute [local go_sem ↓] Go.wp_at_zero Go.wp_at_succ

def lessB (a b : Ord) : Bool := decide (rankI a b < 0)

set_option maxHeartbeats 1000000 in
theorem less_any (ab n cap i j a b : Nat) (oa ob : Ord) (ia ib : Int) (w : World) (hi : i < n) (hj : j < n) (_hn : n ≤ 1000)
    (ci : w.cell? ⟨ab, i, none⟩ = some (.pointer (some ⟨a, 0, none⟩))) (cj : w.cell? ⟨ab, j, none⟩ = some (.pointer (some ⟨b, 0, none⟩))) (ha : IsOrd w a oa ia) (hb : IsOrd w b ob ib) :
    Calls Tryz.prog 257 #[.slice (some ⟨ab, 0, none⟩) n cap, .int .i64 i, .int .i64 j] w fun e w' => e = .returned (.bool (lessB oa ob)) ∧ Below w.heap.size w w' := by
  have i0 : (0 : Int) ≤ (i : Int) := by omega
  have i1 : (i : Int) < (n : Int) := by omega
  have j0 : (0 : Int) ≤ (j : Int) := by omega
  have j1 : (j : Int) < (n : Int) := by omega
  go_enter Tryz.func257, Tryz.ntmps257
  go_wp2
  go_region_held3 (fun w' => w'.cell? ⟨ab, i, none⟩ = some (.pointer (some ⟨a, 0, none⟩)) ∧ w'.cell? ⟨ab, j, none⟩ = some (.pointer (some ⟨b, 0, none⟩))) (go_keep)
      (first | (go_at_call 83; refine (byRank_any _ _ oa ob ia ib _ ?_ ?_).mono ?_; (exact ha.drew); (exact hb.drew); rintro e w1 ⟨rfl, hb1⟩; have k1 := (Chg.of_below hb1).cell (p := ⟨ab, i, none⟩) ci id; have k2 := (Chg.of_below hb1).cell (p := ⟨ab, j, none⟩) cj id))
  go_wp2
  go_ret
  exact ⟨rfl, ((Chg.refl Non w).drew.trans (Chg.of_below hb1)).below⟩

theorem len_any (v : Option Addr) (n cap : Nat) (w : World) : Calls Tryz.prog 256 #[.slice v n cap] w fun e w' => e = .returned (.int .i64 n) ∧ w' = w := by
  go_enter Tryz.func256, Tryz.ntmps256
  go_wp2
  go_ret
  exact ⟨rfl, rfl⟩

set_option maxHeartbeats 1000000 in
theorem swap_any (ab n cap i j a b : Nat) (ia ib : Value) (w : World) (hi : i < n) (hj : j < n) (hij : i ≠ j) (hab : a ≠ b) (haa : a ≠ ab) (hba : b ≠ ab)
    (ci : w.cell? ⟨ab, i, none⟩ = some (.pointer (some ⟨a, 0, none⟩))) (cj : w.cell? ⟨ab, j, none⟩ = some (.pointer (some ⟨b, 0, none⟩)))
    (fi : w.frozen? ⟨ab, i, none⟩ = false) (fj : w.frozen? ⟨ab, j, none⟩ = false) (ca : w.cell? ⟨a, 13, none⟩ = some ia) (cb : w.cell? ⟨b, 13, none⟩ = some ib) (fa : w.frozen? ⟨a, 13, none⟩ = false) (fb : w.frozen? ⟨b, 13, none⟩ = false) :
    Calls Tryz.prog 258 #[.slice (some ⟨ab, 0, none⟩) n cap, .int .i64 i, .int .i64 j] w fun e w' => e = .returned (.tuple #[]) ∧
      ∃ q, w' = ((((w.setCell ⟨ab, i, none⟩ (.pointer (some ⟨b, 0, none⟩))).setCell ⟨ab, j, none⟩ (.pointer (some ⟨a, 0, none⟩))).setCell ⟨b, 13, none⟩ (.int .i64 i)).setCell ⟨a, 13, none⟩ (.int .i64 j)).drewN q := by
  have i0 : (0 : Int) ≤ (i : Int) := by omega
  have i1 : (i : Int) < (n : Int) := by omega
  have j0 : (0 : Int) ≤ (j : Int) := by omega
  have j1 : (j : Int) < (n : Int) := by omega
  go_enter Tryz.func258, Tryz.ntmps258
  go_wp2
  go_region
  go_wp2
  go_region
  go_wp2
  go_end0
  exact ⟨rfl, 2, rfl⟩

/-- a side of a book: its array, and the orders, each with its place in the heap -/
structure Side (w : World) (ab cap n : Nat) (h : Nat → Nat) (om : Nat → Ord) : Prop where
  arr : ∃ cs, Blk w ab cs 114 ∧ cs.size = cap ∧ ∀ i, i < n → cs[i]? = some (.pointer (some ⟨h i, 0, none⟩))
  ord : ∀ i, i < n → IsOrd w (h i) (om (h i)) i
  le : n ≤ cap
  small : n ≤ 1000
  capm : cap ≤ maxLen

/-- the blocks that a turn of the heap may write -/
def Sd (ab n : Nat) (h : Nat → Nat) : Nat → Prop := fun b => b = ab ∨ ∃ k, k < n ∧ b = h k

def sw (h : Nat → Nat) (i j : Nat) : Nat → Nat := fun k => if k = i then h j else if k = j then h i else h k

theorem Sd_sw {ab n : Nat} {h : Nat → Nat} {i j : Nat} (hi : i < n) (hj : j < n) : Sd ab n (sw h i j) = Sd ab n h := by
  funext b
  apply propext
  unfold Sd sw
  constructor
  · rintro (rfl | ⟨k, hk, rfl⟩)
    · exact .inl rfl
    · right
      split
      · exact ⟨j, hj, rfl⟩
      · split
        · exact ⟨i, hi, rfl⟩
        · exact ⟨k, hk, rfl⟩
  · rintro (rfl | ⟨k, hk, rfl⟩)
    · exact .inl rfl
    · right
      by_cases h1 : k = i
      · refine ⟨j, hj, ?_⟩
        split
        · subst h1; rename_i e; rw [e]
        · rw [if_pos rfl, h1]
      · by_cases h2 : k = j
        · exact ⟨i, hi, by rw [if_pos rfl, h2]⟩
        · exact ⟨k, hk, by rw [if_neg h1, if_neg h2]⟩

theorem Ord.cells_inj {o o' : Ord} {i j : Int} (h : o.cells i = o'.cells j) : i = j ∧ o = o' := by
  cases o; cases o'
  simp [Ord.cells] at h
  simp_all

theorem Side.inj {w : World} {ab cap n : Nat} {h : Nat → Nat} {om : Nat → Ord} (s : Side w ab cap n h om) {i j : Nat} (hi : i < n) (hj : j < n) (e : h i = h j) : i = j := by
  have h1 := s.ord i hi
  have h2 := s.ord j hj
  rw [e] at h1
  have := (Ord.cells_inj (Blk.uniq h1 h2)).1
  omega

theorem Side.kept {w w' : World} {ab cap n : Nat} {h : Nat → Nat} {om : Nat → Ord} (s : Side w ab cap n h om) {S : Nat → Prop} (k : Chg S w w') (hS : ∀ b, Sd ab n h b → ¬ S b) : Side w' ab cap n h om := by
  obtain ⟨cs, hb, hc, hp⟩ := s.arr
  exact ⟨⟨cs, k.blk hb (hS _ (.inl rfl)), hc, hp⟩, fun i hi => k.blk (s.ord i hi) (hS _ (.inr ⟨i, hi, rfl⟩)), s.le, s.small, s.capm⟩

theorem Alike.chg {w w' : World} (h : ∃ q, w' = w.drewN q) : Chg Non w w' := by
  obtain ⟨q, rfl⟩ := h
  exact (Chg.refl _ w).drewN q

theorem Alike.blk {w w' : World} (h : ∃ q, w' = w.drewN q) {b : Nat} {c : Array Value} {t : TypeId} (k : Blk w b c t) : Blk w' b c t := (Alike.chg h).blk k id

theorem Side.swap {w w' : World} {ab cap n : Nat} {h : Nat → Nat} {om : Nat → Ord} (s : Side w ab cap n h om) {i j : Nat} (hi : i < n) (hj : j < n) (hij : i ≠ j)
    (hw : ∃ q, w' = ((((w.setCell ⟨ab, i, none⟩ (.pointer (some ⟨h j, 0, none⟩))).setCell ⟨ab, j, none⟩ (.pointer (some ⟨h i, 0, none⟩))).setCell ⟨h j, 13, none⟩ (.int .i64 i)).setCell ⟨h i, 13, none⟩ (.int .i64 j)).drewN q) :
    Side w' ab cap n (sw h i j) om ∧ Chg (Sd ab n h) w w' := by
  obtain ⟨cs, hb, hc, hp⟩ := s.arr
  have hne : ∀ k, k < n → h k ≠ ab := fun k hk => Blk.ne (s.ord k hk) hb (by decide)
  have hab : h i ≠ h j := fun e => hij (s.inj hi hj e)
  have hle := s.le
  refine ⟨⟨⟨(cs.setIfInBounds i (.pointer (some ⟨h j, 0, none⟩))).setIfInBounds j (.pointer (some ⟨h i, 0, none⟩)), ?_, by simpa using hc, ?_⟩, ?_, s.le, s.small, s.capm⟩, ?_⟩
  · exact Alike.blk hw ((((hb.set i _).set j _).other (fun e => hne j hj e.symm) _).other (fun e => hne i hi e.symm) _)
  · intro k hk
    have := hp k hk
    unfold sw
    by_cases h1 : k = i
    · subst h1
      rw [if_pos rfl, Array.getElem?_setIfInBounds_ne (fun e => hij e.symm), Array.getElem?_setIfInBounds_self_of_lt (by omega)]
    · rw [if_neg h1]
      by_cases h2 : k = j
      · subst h2
        rw [if_pos rfl, Array.getElem?_setIfInBounds_self_of_lt (by simp; omega)]
      · rw [if_neg h2, Array.getElem?_setIfInBounds_ne (fun e => h2 e.symm), Array.getElem?_setIfInBounds_ne (fun e => h1 e.symm), this]
  · intro k hk
    unfold sw
    have base : ∀ {b : Nat} {c : Array Value} {t : TypeId}, Blk w b c t → b ≠ ab → Blk ((w.setCell ⟨ab, i, none⟩ (.pointer (some ⟨h j, 0, none⟩))).setCell ⟨ab, j, none⟩ (.pointer (some ⟨h i, 0, none⟩))) b c t := fun hb hn => (hb.other hn _).other hn _
    by_cases h1 : k = i
    · subst h1
      rw [if_pos rfl]
      have := (base (s.ord j hj) (hne j hj)).set 13 (.int .i64 (k : Int))
      exact Alike.blk hw (this.other (fun e => hab e.symm) _)
    · rw [if_neg h1]
      by_cases h2 : k = j
      · subst h2
        rw [if_pos rfl]
        exact Alike.blk hw (((base (s.ord i hi) (hne i hi)).other hab _).set 13 _)
      · rw [if_neg h2]
        exact Alike.blk hw (((base (s.ord k hk) (hne k hk)).other (fun e => h2 (s.inj hk hj e)) _).other (fun e => h1 (s.inj hk hi e)) _)
  · refine Chg.trans ?_ (Alike.chg hw).of_non
    exact ((((Chg.refl _ w).setCell (.inl (.inl rfl)) _).setCell (.inl (.inl rfl)) _).setCell (.inl (.inr ⟨j, hj, rfl⟩)) _).setCell (.inl (.inr ⟨i, hi, rfl⟩)) _

def ltB (om : Nat → Ord) (x y : Nat) : Bool := lessB (om x) (om y)

def upF (lt : Nat → Nat → Bool) (h : Nat → Nat) (j : Nat) : Nat → Nat :=
  if hj : j = 0 then h else
    if lt (h j) (h ((j - 1) / 2)) then upF lt (sw h ((j - 1) / 2) j) ((j - 1) / 2) else h


/-- the contract of Less, of two places of a side -/
theorem less_side (ab cap n i j : Nat) (h : Nat → Nat) (om : Nat → Ord) (w : World) (hs : Side w ab cap n h om) (hi : i < n) (hj : j < n) :
    Calls Tryz.prog 257 #[.slice (some ⟨ab, 0, none⟩) n cap, .int .i64 i, .int .i64 j] w fun e w' => e = .returned (.bool (ltB om (h i) (h j))) ∧ Chg Non w w' := by
  obtain ⟨cs, hb, hc, hp⟩ := hs.arr
  have := hs.le
  have := hs.small
  refine (less_any ab n cap i j (h i) (h j) (om (h i)) (om (h j)) i j w hi hj (by omega) ((hb.cell i).trans (hp i hi)) ((hb.cell j).trans (hp j hj)) (hs.ord i hi) (hs.ord j hj)).mono ?_
  rintro e w' ⟨rfl, hb⟩
  exact ⟨rfl, Chg.of_below hb⟩

theorem swap_side (ab cap n i j : Nat) (h : Nat → Nat) (om : Nat → Ord) (w : World) (hs : Side w ab cap n h om) (hi : i < n) (hj : j < n) (hij : i ≠ j) :
    Calls Tryz.prog 258 #[.slice (some ⟨ab, 0, none⟩) n cap, .int .i64 i, .int .i64 j] w fun e w' => e = .returned (.tuple #[]) ∧ Side w' ab cap n (sw h i j) om ∧ Chg (Sd ab n h) w w' := by
  obtain ⟨cs, hb, hc, hp⟩ := hs.arr
  have hne : ∀ k, k < n → h k ≠ ab := fun k hk => Blk.ne (hs.ord k hk) hb (by decide)
  have oi := hs.ord i hi
  have oj := hs.ord j hj
  refine (swap_any ab n cap i j (h i) (h j) (.int .i64 i) (.int .i64 j) w hi hj hij (fun e => hij (hs.inj hi hj e)) (hne i hi) (hne j hj) ((hb.cell i).trans (hp i hi)) ((hb.cell j).trans (hp j hj)) (hb.frozen i) (hb.frozen j)
    (oi.cell 13) (oj.cell 13) (oi.frozen 13) (oj.frozen 13)).mono ?_
  rintro e w' ⟨rfl, hw⟩
  exact ⟨rfl, hs.swap hi hj hij hw⟩
theorem load76 (a : Addr) (w : World) (s : Option Addr) (n c : Nat) (h : w.cell? a = some (.slice s n c)) : (loadVar 155 a).run Tryz.prog w = .ok (.slice s n c) w := by
  go_simp
theorem methLess (a : Addr) (w : World) (s : Option Addr) (n c : Nat) (h : w.cell? a = some (.slice s n c)) : Sem.run Tryz.prog (method 416 216 (.pointer (some a)) "Less") w = .ok (257, .slice s n c) w := by
  have e : Sem.run Tryz.prog (method 416 216 (.pointer (some a)) "Less") w = Sem.run Tryz.prog (do let v ← loadVar 155 a; pure (257, v)) w := by kernel_rfl
  rw [e]; have := load76 a w s n c h; go_simp
theorem methSwap (a : Addr) (w : World) (s : Option Addr) (n c : Nat) (h : w.cell? a = some (.slice s n c)) : Sem.run Tryz.prog (method 416 216 (.pointer (some a)) "Swap") w = .ok (258, .slice s n c) w := by
  have e : Sem.run Tryz.prog (method 416 216 (.pointer (some a)) "Swap") w = Sem.run Tryz.prog (do let v ← loadVar 155 a; pure (258, v)) w := by kernel_rfl
  rw [e]; have := load76 a w s n c h; go_simp
theorem methLen (a : Addr) (w : World) (s : Option Addr) (n c : Nat) (h : w.cell? a = some (.slice s n c)) : Sem.run Tryz.prog (method 416 216 (.pointer (some a)) "Len") w = .ok (256, .slice s n c) w := by
  have e : Sem.run Tryz.prog (method 416 216 (.pointer (some a)) "Len") w = Sem.run Tryz.prog (do let v ← loadVar 155 a; pure (256, v)) w := by kernel_rfl
  rw [e]; have := load76 a w s n c h; go_simp
theorem methPush (a : Addr) (w : World) : Sem.run Tryz.prog (method 416 216 (.pointer (some a)) "Push") w = .ok (260, .pointer (some a)) w := by kernel_rfl
theorem methPop (a : Addr) (w : World) : Sem.run Tryz.prog (method 416 216 (.pointer (some a)) "Pop") w = .ok (259, .pointer (some a)) w := by kernel_rfl
end Go.Proofs.YtigaphnafnpfnaaGreatDoor

set_option linter.unusedVariables false
set_option linter.unusedSimpArgs false
/- Lines of the journal: numbers in decimals, a word and numbers. -/
namespace Go.Proofs.YtigaphnafnpfnaaGreatDoor
open Go.RowKit
open Go.Shelf
attribute [local go_sem ↓] Go.wp_at_zero Go.wp_at_succ

def laysM171_ren : Go.Shelf.Ren := ⟨fun | 171 => 115 | 243 => 148 | 246 => 174 | 283 => 207 | 284 => 208 | 285 => 209 | 286 => 210 | 129 => 188 | 317 => 226 | 318 => 227 | 319 => 228 | 320 => 229 | 337 => 237 | 338 => 238 | n => n, fun | 3 => 3 | 9 => 9 | 2 => 2 | 4 => 4 | 171 => 268 | 0 => 0 | 53 => 253 | 37 => 98 | 5 => 5 | 173 => 270 | 212 => 287 | 51 => 251 | 20 => 20 | 213 => 288 | 46 => 223 | 232 => 301 | 233 => 302 | n => n, fun | 17 => 3 | 18 => 6 | 19 => 7 | n => n⟩
theorem laysM171 : Go.Proofs.LaysM.n171 Tryz.prog laysM171_ren :=
  { mixed := by kernel_rfl,
    f129 := Tryz.func188.trans (congrArg some (by kernel_rfl)),
    f171 := Tryz.func115.trans (congrArg some (by kernel_rfl)),
    f243 := Tryz.func148.trans (congrArg some (by kernel_rfl)),
    f246 := Tryz.func174.trans (congrArg some (by kernel_rfl)),
    f283 := Tryz.func207.trans (congrArg some (by kernel_rfl)),
    f284 := Tryz.func208.trans (congrArg some (by kernel_rfl)),
    f285 := Tryz.func209.trans (congrArg some (by kernel_rfl)),
    f286 := Tryz.func210.trans (congrArg some (by kernel_rfl)),
    f317 := Tryz.func226.trans (congrArg some (by kernel_rfl)),
    f318 := Tryz.func227.trans (congrArg some (by kernel_rfl)),
    f319 := Tryz.func228.trans (congrArg some (by kernel_rfl)),
    f320 := Tryz.func229.trans (congrArg some (by kernel_rfl)),
    f337 := Tryz.func237.trans (congrArg some (by kernel_rfl)),
    f338 := Tryz.func238.trans (congrArg some (by kernel_rfl)),
    t0 := Tryz.underlying0,
    a0 := Tryz.isAgg0,
    z0 := Tryz.sizeOf0,
    v0 := Tryz.zeroValue0,
    t2 := Tryz.underlying2,
    a2 := Tryz.isAgg2,
    z2 := Tryz.sizeOf2,
    v2 := Tryz.zeroValue2,
    t3 := Tryz.underlying3,
    a3 := Tryz.isAgg3,
    z3 := Tryz.sizeOf3,
    v3 := Tryz.zeroValue3,
    t4 := Tryz.underlying4,
    a4 := Tryz.isAgg4,
    z4 := Tryz.sizeOf4,
    v4 := Tryz.zeroValue4,
    t5 := Tryz.underlying5,
    a5 := Tryz.isAgg5,
    z5 := Tryz.sizeOf5,
    v5 := Tryz.zeroValue5,
    t9 := Tryz.underlying9,
    a9 := Tryz.isAgg9,
    z9 := Tryz.sizeOf9,
    v9 := Tryz.zeroValue9,
    t20 := Tryz.underlying20,
    a20 := Tryz.isAgg20,
    z20 := Tryz.sizeOf20,
    v20 := Tryz.zeroValue20,
    t37 := Tryz.underlying98,
    a37 := Tryz.isAgg98,
    z37 := Tryz.sizeOf98,
    v37 := Tryz.zeroValue98,
    t46 := Tryz.underlying223,
    a46 := Tryz.isAgg223,
    z46 := Tryz.sizeOf223,
    v46 := Tryz.zeroValue223,
    t51 := Tryz.underlying251,
    a51 := Tryz.isAgg251,
    z51 := Tryz.sizeOf251,
    v51 := Tryz.zeroValue251,
    t53 := Tryz.underlying253,
    a53 := Tryz.isAgg253,
    z53 := Tryz.sizeOf253,
    v53 := Tryz.zeroValue253,
    t171 := Tryz.underlying268,
    a171 := Tryz.isAgg268,
    z171 := Tryz.sizeOf268,
    v171 := Tryz.zeroValue268,
    t173 := Tryz.underlying270,
    a173 := Tryz.isAgg270,
    z173 := Tryz.sizeOf270,
    v173 := Tryz.zeroValue270,
    t212 := Tryz.underlying287,
    a212 := Tryz.isAgg287,
    z212 := Tryz.sizeOf287,
    v212 := Tryz.zeroValue287,
    t213 := Tryz.underlying288,
    a213 := Tryz.isAgg288,
    z213 := Tryz.sizeOf288,
    t232 := Tryz.underlying301,
    a232 := Tryz.isAgg301,
    z232 := Tryz.sizeOf301,
    v232 := Tryz.zeroValue301,
    t233 := Tryz.underlying302,
    a233 := Tryz.isAgg302,
    z233 := Tryz.sizeOf302,
    v233 := Tryz.zeroValue302,
    g17 := by kernel_rfl,
    g18 := by kernel_rfl,
    g19 := by kernel_rfl,
    i0 := by kernel_rfl,
    i2 := by kernel_rfl,
    i3 := by kernel_rfl,
    i4 := by kernel_rfl,
    i5 := by kernel_rfl,
    i9 := by kernel_rfl,
    i20 := by kernel_rfl,
    i37 := by kernel_rfl,
    i46 := by kernel_rfl,
    i51 := by kernel_rfl,
    i53 := by kernel_rfl,
    i171 := by kernel_rfl,
    i173 := by kernel_rfl,
    i212 := by kernel_rfl,
    i232 := by kernel_rfl,
    i233 := by kernel_rfl,
    m17 := by kernel_rfl,
    m18 := by kernel_rfl,
    m19 := by kernel_rfl }

/-- the table that strconv reads -/
def Tab (w : World) : Prop := Lib.TabIs Tryz.prog w "internal/strconv.uint64pow10" .u64 Lib.pow10Tab

/-- its block -/
def tabAt : Nat := 3

theorem tab_at : Tryz.prog.globalNamed "internal/strconv.uint64pow10" = some tabAt := by kernel_rfl

theorem Tab.kept {S : Nat → Prop} {w w' : World} (h : Tab w) (k : Chg S w w') (hS : ¬ S tabAt) : Tab w' := by
  unfold Tab Lib.TabIs World.var? at h ⊢
  rw [tab_at] at h ⊢
  simp only [Option.bind_some] at h ⊢
  have hlt : tabAt < w.heap.size := by
    rcases Nat.lt_or_ge tabAt w.heap.size with h' | h'
    · exact h'
    · rw [Array.getElem?_eq_none h'] at h; simp at h
  rw [k.block tabAt hlt hS]
  exact h

theorem Tab.lt {w : World} (h : Tab w) : tabAt < w.heap.size := by
  unfold Tab Lib.TabIs World.var? at h
  rw [tab_at] at h
  simp only [Option.bind_some] at h
  rcases Nat.lt_or_ge tabAt w.heap.size with h' | h'
  · exact h'
  · rw [Array.getElem?_eq_none h'] at h; simp at h

theorem Tab.kept0 {w w' : World} (h : Tab w) (k : Chg Non w w') : Tab w' := h.kept k (fun x => x)

theorem itoa_any (n : Int) (h0 : -9223372036854775808 ≤ n) (h1 : n ≤ 9223372036854775807) (w : World) (hT : Tab w) :
    Calls Tryz.prog 115 #[.int .i64 n] w fun e w' => e = .returned (.string ⟨(Lib.itoa n).toArray⟩) ∧ Chg Non w w' := by
  refine (Any.strconv_Itoa laysM171 n h0 h1 w hT).mono ?_
  rintro e w' ⟨rfl, k, os, rfl⟩
  refine ⟨rfl, rfl, rfl, rfl, ?_, ?_⟩
  · show w.heap.size ≤ (w.heap ++ os).size
    rw [Array.size_append]; omega
  · intro j hj _
    show (w.heap ++ os)[j]? = w.heap[j]?
    rw [Array.getElem?_append_left hj]

/-- a blank and a number -/
def numS (n : Int) : ByteArray := ⟨#[32]⟩ ++ ⟨(Lib.itoa n).toArray⟩

def lineF (f : Nat → Int) (word : ByteArray) : Nat → ByteArray
  | 0 => word
  | i + 1 => lineF f word i ++ numS (f i)

theorem numS_size (n : Int) (h0 : -9223372036854775808 ≤ n) (h1 : n ≤ 9223372036854775807) : (numS n).size ≤ 22 := by
  have := Lib.itoa_length_le n h0 h1
  have e : (numS n).size = 1 + (Lib.itoa n).length := by simp [numS, ByteArray.size_append]; rfl
  omega

theorem lineF_size (f : Nat → Int) (word : ByteArray) : ∀ k, (∀ i, i < k → -9223372036854775808 ≤ f i ∧ f i ≤ 9223372036854775807) → (lineF f word k).size ≤ word.size + 22 * k
  | 0, _ => by simp [lineF]
  | k + 1, h => by
    have h1 := lineF_size f word k (fun i hi => h i (by omega))
    have h2 := numS_size (f k) (h k (by omega)).1 (h k (by omega)).2
    simp only [lineF, ByteArray.size_append]
    omega

end Go.Proofs.YtigaphnafnpfnaaGreatDoor

set_option linter.unusedVariables false
namespace Go.Proofs.YtigaphnafnpfnaaGreatDoor
open Go.Shelf

def sortO_ren : Go.Shelf.Ren := ⟨fun | 6 => 128 | 15 => 158 | 14 => 157 | 28 => 187 | 29 => 188 | 20 => 179 | 21 => 180 | 22 => 181 | 23 => 182 | 24 => 183 | 25 => 184 | 26 => 185 | 27 => 186 | 46 => 213 | 47 => 214 | 48 => 215 | 49 => 216 | 50 => 217 | 57 => 230 | n => n, fun | 22 => 150 | 24 => 114 | 25 => 159 | 3 => 3 | 39 => 223 | 0 => 0 | 53 => 251 | 55 => 253 | 4 => 4 | 46 => 244 | 45 => 243 | 50 => 248 | 5 => 5 | 9 => 9 | 66 => 273 | 70 => 277 | 76 => 289 | 77 => 262 | n => n, fun | n => n⟩
theorem sortO : Go.Proofs.SlLaysF.n6 Tryz.prog sortO_ren :=
  { mixed := by kernel_rfl,
    f6 := ⟨Tryz.f128.name, by decide, Tryz.func128.trans (congrArg some (by kernel_rfl))⟩,
    f14 := ⟨Tryz.f157.name, by decide, Tryz.func157.trans (congrArg some (by kernel_rfl))⟩,
    f15 := Tryz.func158.trans (congrArg some (by kernel_rfl)),
    f20 := ⟨Tryz.f179.name, by decide, Tryz.func179.trans (congrArg some (by kernel_rfl))⟩,
    f21 := ⟨Tryz.f180.name, by decide, Tryz.func180.trans (congrArg some (by kernel_rfl))⟩,
    f22 := ⟨Tryz.f181.name, by decide, Tryz.func181.trans (congrArg some (by kernel_rfl))⟩,
    f23 := ⟨Tryz.f182.name, by decide, Tryz.func182.trans (congrArg some (by kernel_rfl))⟩,
    f24 := ⟨Tryz.f183.name, by decide, Tryz.func183.trans (congrArg some (by kernel_rfl))⟩,
    f25 := ⟨Tryz.f184.name, by decide, Tryz.func184.trans (congrArg some (by kernel_rfl))⟩,
    f26 := ⟨Tryz.f185.name, by decide, Tryz.func185.trans (congrArg some (by kernel_rfl))⟩,
    f27 := ⟨Tryz.f186.name, by decide, Tryz.func186.trans (congrArg some (by kernel_rfl))⟩,
    f28 := Tryz.func187.trans (congrArg some (by kernel_rfl)),
    f29 := Tryz.func188.trans (congrArg some (by kernel_rfl)),
    f46 := ⟨Tryz.f213.name, by decide, Tryz.func213.trans (congrArg some (by kernel_rfl))⟩,
    f47 := Tryz.func214.trans (congrArg some (by kernel_rfl)),
    f48 := Tryz.func215.trans (congrArg some (by kernel_rfl)),
    f49 := ⟨Tryz.f216.name, by decide, Tryz.func216.trans (congrArg some (by kernel_rfl))⟩,
    f50 := ⟨Tryz.f217.name, by decide, Tryz.func217.trans (congrArg some (by kernel_rfl))⟩,
    f57 := ⟨Tryz.f230.name, by decide, Tryz.func230.trans (congrArg some (by kernel_rfl))⟩,
    t0 := Tryz.underlying0,
    a0 := Tryz.isAgg0,
    z0 := Tryz.sizeOf0,
    v0 := Tryz.zeroValue0,
    t3 := Tryz.underlying3,
    a3 := Tryz.isAgg3,
    z3 := Tryz.sizeOf3,
    v3 := Tryz.zeroValue3,
    t4 := Tryz.underlying4,
    a4 := Tryz.isAgg4,
    z4 := Tryz.sizeOf4,
    v4 := Tryz.zeroValue4,
    t5 := Tryz.underlying5,
    a5 := Tryz.isAgg5,
    z5 := Tryz.sizeOf5,
    v5 := Tryz.zeroValue5,
    t9 := Tryz.underlying9,
    a9 := Tryz.isAgg9,
    z9 := Tryz.sizeOf9,
    v9 := Tryz.zeroValue9,
    t22 := Tryz.underlying150,
    a22 := Tryz.isAgg150,
    z22 := Tryz.sizeOf150,
    v22 := Tryz.zeroValue150,
    a24 := Tryz.isAgg114,
    z24 := Tryz.sizeOf114,
    t25 := Tryz.underlying159,
    a25 := Tryz.isAgg159,
    z25 := Tryz.sizeOf159,
    v25 := Tryz.zeroValue159,
    t39 := Tryz.underlying223,
    a39 := Tryz.isAgg223,
    z39 := Tryz.sizeOf223,
    v39 := Tryz.zeroValue223,
    t45 := Tryz.underlying243,
    a45 := Tryz.isAgg243,
    z45 := Tryz.sizeOf243,
    v45 := Tryz.zeroValue243,
    t46 := Tryz.underlying244,
    a46 := Tryz.isAgg244,
    z46 := Tryz.sizeOf244,
    v46 := Tryz.zeroValue244,
    t50 := Tryz.underlying248,
    a50 := Tryz.isAgg248,
    z50 := Tryz.sizeOf248,
    v50 := Tryz.zeroValue248,
    t53 := Tryz.underlying251,
    a53 := Tryz.isAgg251,
    z53 := Tryz.sizeOf251,
    v53 := Tryz.zeroValue251,
    t55 := Tryz.underlying253,
    a55 := Tryz.isAgg253,
    z55 := Tryz.sizeOf253,
    v55 := Tryz.zeroValue253,
    t66 := Tryz.underlying273,
    a66 := Tryz.isAgg273,
    z66 := Tryz.sizeOf273,
    v66 := Tryz.zeroValue273,
    t70 := Tryz.underlying277,
    a70 := Tryz.isAgg277,
    z70 := Tryz.sizeOf277,
    v70 := Tryz.zeroValue277,
    t76 := Tryz.underlying289,
    a76 := Tryz.isAgg289,
    z76 := Tryz.sizeOf289,
    v76 := Tryz.zeroValue289,
    t77 := Tryz.underlying262,
    a77 := Tryz.isAgg262,
    z77 := Tryz.sizeOf262,
    v77 := Tryz.zeroValue262 }
end Go.Proofs.YtigaphnafnpfnaaGreatDoor

