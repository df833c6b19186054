import Derived.Test.YtigaphnafnpfnaaDoorH
set_option linter.unusedVariables false
set_option linter.unusedSimpArgs false
namespace Go.Proofs.YtigaphnafnpfnaaDoor
open Go.RowKit
attribute [local go_sem ↓] Go.wp_at_zero Go.wp_at_succ

theorem other_any (s : Int) (w : World) (h0 : 0 ≤ s) (h1 : s ≤ 1) : Calls Tryd.prog 53 #[.int .i64 s] w fun e w' => e = .returned (.int .i64 (1 - s)) ∧ w' = w := by
  go_enter Tryd.func53, Tryd.ntmps53
  go_wp2
  go_ret
  exact ⟨rfl, rfl⟩

/-- what is asked for -/
structure Ask where
  id : Int
  owner : Int
  sym : ByteArray
  side : Int
  kind : Int
  price : Int
  qty : Int

def Ask.val (o : Ask) : Value := .agg #[.int .i64 o.id, .int .i64 o.owner, .string o.sym, .int .i64 o.side, .int .i64 o.kind, .int .i64 o.price, .int .i64 o.qty]

def goodB (kind side price p : Int) : Bool := if kind = 5 then true else if side = 0 then decide (p ≤ price) else decide (price ≤ p)

set_option maxHeartbeats 400000 in
theorem good_any (o : Ask) (p : Int) (w : World) : Calls Tryd.prog 54 #[o.val, .int .i64 p] w fun e w' => e = .returned (.bool (goodB o.kind o.side o.price p)) ∧ Chg Non w w' := by
  obtain ⟨id, owner, sym, side, kind, price, qty⟩ := o
  simp only [Ask.val]
  by_cases h1 : kind = 5
  · have e1 : (kind == 5) = true := by simp [h1]
    have HG : Hid (goodB kind side price p = true) := by show _ = _; unfold goodB; rw [if_pos h1]
    clear h1
    go_enter Tryd.func54, Tryd.ntmps54
    go_wp2
    go_ret
    exact ⟨by rw [HG.out]; rfl, (Chg.refl _ _).alloc _⟩
  · have e1 : (kind == 5) = false := by simp [h1]
    by_cases h2 : side = 0
    · have e2 : (side == 0) = true := by simp [h2]
      have HG : Hid (goodB kind side price p = decide (p ≤ price)) := by show _ = _; unfold goodB; rw [if_neg h1, if_pos h2]
      clear h1 h2
      go_enter Tryd.func54, Tryd.ntmps54
      go_wp2
      go_ret
      exact ⟨by rw [HG.out]; rfl, (Chg.refl _ _).alloc _⟩
    · have e2 : (side == 0) = false := by simp [h2]
      have HG : Hid (goodB kind side price p = decide (price ≤ p)) := by show _ = _; unfold goodB; rw [if_neg h1, if_neg h2]
      clear h1 h2
      go_enter Tryd.func54, Tryd.ntmps54
      go_wp2
      go_ret
      exact ⟨by rw [HG.out]; rfl, (Chg.refl _ _).alloc _⟩

/-- a book: by side: its slice, how many, the heap -/
structure Bk where
  sym : ByteArray
  sl : Nat → Option Addr
  n : Nat → Nat
  cap : Nat → Nat
  h : Nat → Nat → Nat
  places : Int

def Bk.cells (B : Bk) : Array Value := #[.string B.sym, .slice (B.sl 0) (B.n 0) (B.cap 0), .slice (B.sl 1) (B.n 1) (B.cap 1), .int .i64 B.places]

structure IsBook (w : World) (bb : Nat) (B : Bk) (om : Nat → Ord) : Prop where
  blk : Blk w bb B.cells 67
  side : ∀ s, s < 2 → SideV w (B.sl s) (B.n s) (B.cap s) (B.h s) om
  apart : ∀ a, adB (B.sl 0) = some a → adB (B.sl 1) ≠ some a
  disj : ∀ k j, k < B.n 0 → j < B.n 1 → B.h 0 k ≠ B.h 1 j

theorem IsBook.kept {w w' : World} {bb : Nat} {B : Bk} {om : Nat → Ord} (hb : IsBook w bb B om) {S : Nat → Prop} (k : Chg S w w') (hS : ∀ b, (b = bb ∨ ∃ s, s < 2 ∧ (adB (B.sl s) = some b ∨ ∃ k, k < B.n s ∧ b = B.h s k)) → ¬ S b) : IsBook w' bb B om :=
  ⟨k.blk hb.blk (hS _ (.inl rfl)), fun s hs => (hb.side s hs).kept k (fun b h => hS b (.inr ⟨s, hs, h⟩)), hb.apart, hb.disj⟩

theorem Bk.cells_side (B : Bk) {s : Nat} (hs : s < 2) : B.cells[1 + s]? = some (.slice (B.sl s) (B.n s) (B.cap s)) := by
  have : s = 0 ∨ s = 1 := by omega
  rcases this with rfl | rfl <;> rfl

theorem IsBook.cellSide {w : World} {bb : Nat} {B : Bk} {om : Nat → Ord} (hb : IsBook w bb B om) {s : Nat} (hs : s < 2) : w.cell? ⟨bb, 1 + s, none⟩ = some (.slice (B.sl s) (B.n s) (B.cap s)) := (hb.blk.cell _).trans (B.cells_side hs)

/-- what FirstGood answers: nothing, or the block of the first -/
def firstG (B : Bk) (om : Nat → Ord) (o : Ask) (s : Nat) : Option Nat := if B.n s = 0 then none else if goodB o.kind o.side o.price (om (B.h s 0)).price = true then some (B.h s 0) else none

def ptrO : Option Nat → Value
  | none => .pointer none
  | some b => .pointer (some ⟨b, 0, none⟩)

set_option maxHeartbeats 1000000 in
theorem firstGood_any (bb : Nat) (B : Bk) (om : Nat → Ord) (o : Ask) (s : Nat) (w : World) (hb : IsBook w bb B om) (hs : s < 2) (ho : o.side = 1 - (s : Int)) :
    Calls Tryd.prog 40 #[.pointer (some ⟨bb, 0, none⟩), o.val] w fun e w' => e = .returned (ptrO (firstG B om o s)) ∧ Chg Non w w' := by
  have hlt := hb.blk.lt
  have hsd := hb.side s hs
  by_cases hn : B.n s = 0
  · have e1 : ((B.n s : Int) == 0) = true := by simp [hn]
    have HF : Hid (firstG B om o s = none) := by show _ = _; unfold firstG; rw [if_pos hn]
    obtain ⟨id, owner, sym, side, kind, price, qty⟩ := o
    simp only at ho
    subst ho
    simp only [Ask.val]
    clear hn
    have : s = 0 ∨ s = 1 := by omega
    rcases this with rfl | rfl
    · have hcs : w.cell? ⟨bb, 1, none⟩ = some (.slice (B.sl 0) (B.n 0) (B.cap 0)) := hb.blk.cell 1
      go_enter Tryd.func40, Tryd.ntmps40
      go_wp2
      go_quiet ((go_at_call 53; exact Calls.quiet_of_same (other_any _ _ (by omega) (by omega))))
      go_wp2
      go_quiet (fail)
      go_wp2
      go_ret
      exact ⟨by rw [HF.out]; rfl, (by repeat (first | exact Chg.refl _ _ | refine Chg.drewN ?_ _ | refine Chg.drew ?_ | refine Chg.alloc ?_ _))⟩
    · have hcs : w.cell? ⟨bb, 2, none⟩ = some (.slice (B.sl 1) (B.n 1) (B.cap 1)) := hb.blk.cell 2
      go_enter Tryd.func40, Tryd.ntmps40
      go_wp2
      go_quiet ((go_at_call 53; exact Calls.quiet_of_same (other_any _ _ (by omega) (by omega))))
      go_wp2
      go_quiet (fail)
      go_wp2
      go_ret
      exact ⟨by rw [HF.out]; rfl, (by repeat (first | exact Chg.refl _ _ | refine Chg.drewN ?_ _ | refine Chg.drew ?_ | refine Chg.alloc ?_ _))⟩
  · have e1 : ((B.n s : Int) == 0) = false := by simp; omega
    rcases hsd with ⟨_, h0, _⟩ | ⟨ab, hab, hsd⟩
    · exact absurd h0 hn
    obtain ⟨cs, ha, hc, hp⟩ := hsd.arr
    have ca := (ha.cell 0).trans (hp 0 (by omega))
    have cp := (hsd.ord 0 (by omega)).cell 5
    simp only [Ord.cells] at cp
    simp at cp
    have n0 : 0 < B.n s := by omega
    have la := ha.lt
    have ho0 := hsd.ord 0 (by omega)
    have lo := ho0.lt
    have HP := hp 0 (by omega)
    clear hp hc hsd
    obtain ⟨id, owner, sym, side, kind, price, qty⟩ := o
    simp only at ho
    subst ho
    simp only [Ask.val]
    cases hg : goodB kind (1 - (s : Int)) price (om (B.h s 0)).price
    · have HF : Hid (firstG B om ⟨id, owner, sym, 1 - (s : Int), kind, price, qty⟩ s = none) := by show _ = _; unfold firstG; rw [if_neg hn, if_neg (by simp [hg])]
      clear hn
      have : s = 0 ∨ s = 1 := by omega
      rcases this with rfl | rfl
      · have GG : goodB kind 1 price (om (B.h 0 0)).price = false := hg
        clear hg
        have hcs : w.cell? ⟨bb, 1, none⟩ = some (.slice (some ⟨ab, 0, none⟩) (B.n 0) (B.cap 0)) := (hb.blk.cell 1).trans (by rw [← hab]; rfl)
        go_enter Tryd.func40, Tryd.ntmps40
        go_wp2
        go_quiet ((go_at_call 53; exact Calls.quiet_of_same (other_any _ _ (by omega) (by omega))))
        go_wp2
        go_region_held3 (fun w' => w'.cell? ⟨w.heap.size, 0, none⟩ = some (.int .i64 id) ∧ w'.cell? ⟨w.heap.size, 1, none⟩ = some (.int .i64 owner) ∧ w'.cell? ⟨w.heap.size, 2, none⟩ = some (.string sym) ∧ w'.cell? ⟨w.heap.size, 3, none⟩ = some (.int .i64 1) ∧ w'.cell? ⟨w.heap.size, 4, none⟩ = some (.int .i64 kind) ∧ w'.cell? ⟨w.heap.size, 5, none⟩ = some (.int .i64 price) ∧ w'.cell? ⟨w.heap.size, 6, none⟩ = some (.int .i64 qty) ∧ w'.cell? ⟨ab, 0, none⟩ = some (.pointer (some ⟨B.h 0 0, 0, none⟩)) ∧ w'.cell? ⟨B.h 0 0, 5, none⟩ = some (.int .i64 (om (B.h 0 0)).price)) (go_keep)
          (first | (go_at_call 54; refine (good_any ⟨id, owner, sym, 1, kind, price, qty⟩ _ _).mono ?_; rintro e w2 ⟨rfl, hc2⟩; rw [GG]; have k0 := hc2.cell (p := ⟨w.heap.size, 0, none⟩) ((Blk.new w _ _).cell 0) (fun x => x); have k1 := hc2.cell (p := ⟨w.heap.size, 1, none⟩) ((Blk.new w _ _).cell 1) (fun x => x); have k2 := hc2.cell (p := ⟨w.heap.size, 2, none⟩) ((Blk.new w _ _).cell 2) (fun x => x); have k3 := hc2.cell (p := ⟨w.heap.size, 3, none⟩) ((Blk.new w _ _).cell 3) (fun x => x); have k4 := hc2.cell (p := ⟨w.heap.size, 4, none⟩) ((Blk.new w _ _).cell 4) (fun x => x); have k5 := hc2.cell (p := ⟨w.heap.size, 5, none⟩) ((Blk.new w _ _).cell 5) (fun x => x); have k6 := hc2.cell (p := ⟨w.heap.size, 6, none⟩) ((Blk.new w _ _).cell 6) (fun x => x); have k7 := hc2.cell (p := ⟨ab, 0, none⟩) (((ha.alloc _).cell 0).trans HP) (fun x => x); have k8 : w2.cell? ⟨B.h 0 0, 5, none⟩ = some (.int .i64 (om (B.h 0 0)).price) := hc2.cell (p := ⟨B.h 0 0, 5, none⟩) ((ho0.alloc _).cell 5) (fun x => x)))
        go_wp2
        go_ret
        exact ⟨by rw [HF.out]; rfl, Chg.trans (by repeat (first | exact Chg.refl _ _ | refine Chg.drewN ?_ _ | refine Chg.drew ?_ | refine Chg.alloc ?_ _)) hc2⟩
      · have GG : goodB kind 0 price (om (B.h 1 0)).price = false := hg
        clear hg
        have hcs : w.cell? ⟨bb, 2, none⟩ = some (.slice (some ⟨ab, 0, none⟩) (B.n 1) (B.cap 1)) := (hb.blk.cell 2).trans (by rw [← hab]; rfl)
        go_enter Tryd.func40, Tryd.ntmps40
        go_wp2
        go_quiet ((go_at_call 53; exact Calls.quiet_of_same (other_any _ _ (by omega) (by omega))))
        go_wp2
        go_region_held3 (fun w' => w'.cell? ⟨w.heap.size, 0, none⟩ = some (.int .i64 id) ∧ w'.cell? ⟨w.heap.size, 1, none⟩ = some (.int .i64 owner) ∧ w'.cell? ⟨w.heap.size, 2, none⟩ = some (.string sym) ∧ w'.cell? ⟨w.heap.size, 3, none⟩ = some (.int .i64 0) ∧ w'.cell? ⟨w.heap.size, 4, none⟩ = some (.int .i64 kind) ∧ w'.cell? ⟨w.heap.size, 5, none⟩ = some (.int .i64 price) ∧ w'.cell? ⟨w.heap.size, 6, none⟩ = some (.int .i64 qty) ∧ w'.cell? ⟨ab, 0, none⟩ = some (.pointer (some ⟨B.h 1 0, 0, none⟩)) ∧ w'.cell? ⟨B.h 1 0, 5, none⟩ = some (.int .i64 (om (B.h 1 0)).price)) (go_keep)
          (first | (go_at_call 54; refine (good_any ⟨id, owner, sym, 0, kind, price, qty⟩ _ _).mono ?_; rintro e w2 ⟨rfl, hc2⟩; rw [GG]; have k0 := hc2.cell (p := ⟨w.heap.size, 0, none⟩) ((Blk.new w _ _).cell 0) (fun x => x); have k1 := hc2.cell (p := ⟨w.heap.size, 1, none⟩) ((Blk.new w _ _).cell 1) (fun x => x); have k2 := hc2.cell (p := ⟨w.heap.size, 2, none⟩) ((Blk.new w _ _).cell 2) (fun x => x); have k3 := hc2.cell (p := ⟨w.heap.size, 3, none⟩) ((Blk.new w _ _).cell 3) (fun x => x); have k4 := hc2.cell (p := ⟨w.heap.size, 4, none⟩) ((Blk.new w _ _).cell 4) (fun x => x); have k5 := hc2.cell (p := ⟨w.heap.size, 5, none⟩) ((Blk.new w _ _).cell 5) (fun x => x); have k6 := hc2.cell (p := ⟨w.heap.size, 6, none⟩) ((Blk.new w _ _).cell 6) (fun x => x); have k7 := hc2.cell (p := ⟨ab, 0, none⟩) (((ha.alloc _).cell 0).trans HP) (fun x => x); have k8 : w2.cell? ⟨B.h 1 0, 5, none⟩ = some (.int .i64 (om (B.h 1 0)).price) := hc2.cell (p := ⟨B.h 1 0, 5, none⟩) ((ho0.alloc _).cell 5) (fun x => x)))
        go_wp2
        go_ret
        exact ⟨by rw [HF.out]; rfl, Chg.trans (by repeat (first | exact Chg.refl _ _ | refine Chg.drewN ?_ _ | refine Chg.drew ?_ | refine Chg.alloc ?_ _)) hc2⟩
    · have HF : Hid (firstG B om ⟨id, owner, sym, 1 - (s : Int), kind, price, qty⟩ s = some (B.h s 0)) := by show _ = _; unfold firstG; rw [if_neg hn, if_pos hg]
      clear hn
      have : s = 0 ∨ s = 1 := by omega
      rcases this with rfl | rfl
      · have GG : goodB kind 1 price (om (B.h 0 0)).price = true := hg
        clear hg
        have hcs : w.cell? ⟨bb, 1, none⟩ = some (.slice (some ⟨ab, 0, none⟩) (B.n 0) (B.cap 0)) := (hb.blk.cell 1).trans (by rw [← hab]; rfl)
        go_enter Tryd.func40, Tryd.ntmps40
        go_wp2
        go_quiet ((go_at_call 53; exact Calls.quiet_of_same (other_any _ _ (by omega) (by omega))))
        go_wp2
        go_region_held3 (fun w' => w'.cell? ⟨w.heap.size, 0, none⟩ = some (.int .i64 id) ∧ w'.cell? ⟨w.heap.size, 1, none⟩ = some (.int .i64 owner) ∧ w'.cell? ⟨w.heap.size, 2, none⟩ = some (.string sym) ∧ w'.cell? ⟨w.heap.size, 3, none⟩ = some (.int .i64 1) ∧ w'.cell? ⟨w.heap.size, 4, none⟩ = some (.int .i64 kind) ∧ w'.cell? ⟨w.heap.size, 5, none⟩ = some (.int .i64 price) ∧ w'.cell? ⟨w.heap.size, 6, none⟩ = some (.int .i64 qty) ∧ w'.cell? ⟨ab, 0, none⟩ = some (.pointer (some ⟨B.h 0 0, 0, none⟩)) ∧ w'.cell? ⟨B.h 0 0, 5, none⟩ = some (.int .i64 (om (B.h 0 0)).price)) (go_keep)
          (first | (go_at_call 54; refine (good_any ⟨id, owner, sym, 1, kind, price, qty⟩ _ _).mono ?_; rintro e w2 ⟨rfl, hc2⟩; rw [GG]; have k0 := hc2.cell (p := ⟨w.heap.size, 0, none⟩) ((Blk.new w _ _).cell 0) (fun x => x); have k1 := hc2.cell (p := ⟨w.heap.size, 1, none⟩) ((Blk.new w _ _).cell 1) (fun x => x); have k2 := hc2.cell (p := ⟨w.heap.size, 2, none⟩) ((Blk.new w _ _).cell 2) (fun x => x); have k3 := hc2.cell (p := ⟨w.heap.size, 3, none⟩) ((Blk.new w _ _).cell 3) (fun x => x); have k4 := hc2.cell (p := ⟨w.heap.size, 4, none⟩) ((Blk.new w _ _).cell 4) (fun x => x); have k5 := hc2.cell (p := ⟨w.heap.size, 5, none⟩) ((Blk.new w _ _).cell 5) (fun x => x); have k6 := hc2.cell (p := ⟨w.heap.size, 6, none⟩) ((Blk.new w _ _).cell 6) (fun x => x); have k7 := hc2.cell (p := ⟨ab, 0, none⟩) (((ha.alloc _).cell 0).trans HP) (fun x => x); have k8 : w2.cell? ⟨B.h 0 0, 5, none⟩ = some (.int .i64 (om (B.h 0 0)).price) := hc2.cell (p := ⟨B.h 0 0, 5, none⟩) ((ho0.alloc _).cell 5) (fun x => x)))
        go_wp2
        go_ret
        exact ⟨by rw [HF.out]; rfl, Chg.trans (by repeat (first | exact Chg.refl _ _ | refine Chg.drewN ?_ _ | refine Chg.drew ?_ | refine Chg.alloc ?_ _)) hc2⟩
      · have GG : goodB kind 0 price (om (B.h 1 0)).price = true := hg
        clear hg
        have hcs : w.cell? ⟨bb, 2, none⟩ = some (.slice (some ⟨ab, 0, none⟩) (B.n 1) (B.cap 1)) := (hb.blk.cell 2).trans (by rw [← hab]; rfl)
        go_enter Tryd.func40, Tryd.ntmps40
        go_wp2
        go_quiet ((go_at_call 53; exact Calls.quiet_of_same (other_any _ _ (by omega) (by omega))))
        go_wp2
        go_region_held3 (fun w' => w'.cell? ⟨w.heap.size, 0, none⟩ = some (.int .i64 id) ∧ w'.cell? ⟨w.heap.size, 1, none⟩ = some (.int .i64 owner) ∧ w'.cell? ⟨w.heap.size, 2, none⟩ = some (.string sym) ∧ w'.cell? ⟨w.heap.size, 3, none⟩ = some (.int .i64 0) ∧ w'.cell? ⟨w.heap.size, 4, none⟩ = some (.int .i64 kind) ∧ w'.cell? ⟨w.heap.size, 5, none⟩ = some (.int .i64 price) ∧ w'.cell? ⟨w.heap.size, 6, none⟩ = some (.int .i64 qty) ∧ w'.cell? ⟨ab, 0, none⟩ = some (.pointer (some ⟨B.h 1 0, 0, none⟩)) ∧ w'.cell? ⟨B.h 1 0, 5, none⟩ = some (.int .i64 (om (B.h 1 0)).price)) (go_keep)
          (first | (go_at_call 54; refine (good_any ⟨id, owner, sym, 0, kind, price, qty⟩ _ _).mono ?_; rintro e w2 ⟨rfl, hc2⟩; rw [GG]; have k0 := hc2.cell (p := ⟨w.heap.size, 0, none⟩) ((Blk.new w _ _).cell 0) (fun x => x); have k1 := hc2.cell (p := ⟨w.heap.size, 1, none⟩) ((Blk.new w _ _).cell 1) (fun x => x); have k2 := hc2.cell (p := ⟨w.heap.size, 2, none⟩) ((Blk.new w _ _).cell 2) (fun x => x); have k3 := hc2.cell (p := ⟨w.heap.size, 3, none⟩) ((Blk.new w _ _).cell 3) (fun x => x); have k4 := hc2.cell (p := ⟨w.heap.size, 4, none⟩) ((Blk.new w _ _).cell 4) (fun x => x); have k5 := hc2.cell (p := ⟨w.heap.size, 5, none⟩) ((Blk.new w _ _).cell 5) (fun x => x); have k6 := hc2.cell (p := ⟨w.heap.size, 6, none⟩) ((Blk.new w _ _).cell 6) (fun x => x); have k7 := hc2.cell (p := ⟨ab, 0, none⟩) (((ha.alloc _).cell 0).trans HP) (fun x => x); have k8 : w2.cell? ⟨B.h 1 0, 5, none⟩ = some (.int .i64 (om (B.h 1 0)).price) := hc2.cell (p := ⟨B.h 1 0, 5, none⟩) ((ho0.alloc _).cell 5) (fun x => x)))
        go_wp2
        go_ret
        exact ⟨by rw [HF.out]; rfl, Chg.trans (by repeat (first | exact Chg.refl _ _ | refine Chg.drewN ?_ _ | refine Chg.drew ?_ | refine Chg.alloc ?_ _)) hc2⟩

end Go.Proofs.YtigaphnafnpfnaaDoor
