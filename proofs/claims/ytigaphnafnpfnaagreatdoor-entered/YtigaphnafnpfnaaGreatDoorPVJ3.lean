import Derived.Test.YtigaphnafnpfnaaGreatDoorPVX4
set_option linter.unusedVariables false
set_option linter.unusedSimpArgs false
namespace Go.Proofs.YtigaphnafnpfnaaGreatDoor
open Go.RowKit
attribute [local go_sem ↓] Go.wp_at_zero Go.wp_at_succ

def two (a b : Int) (i : Nat) : Int := if i = 0 then a else b
def four (a b c d : Int) (i : Nat) : Int := if i = 0 then a else if i = 1 then b else if i = 2 then c else d

def wEnter : ByteArray := ⟨#[101, 110, 116, 101, 114]⟩
def wBust : ByteArray := ⟨#[98, 117, 115, 116]⟩

/-- the line of an order that is entered -/
def enterL (id owner : Int) (sym : ByteArray) (side kind price qty : Int) : ByteArray := (lineF (two id owner) wEnter 2 ++ ⟨#[32]⟩) ++ lineF (four side kind price qty) sym 4

def i64B (n : Int) : Prop := -9223372036854775808 ≤ n ∧ n ≤ 9223372036854775807

def Want (W : World) (w1 : ByteArray) (a b : Int) (s1 w2 : ByteArray) (c d e f : Int) (s2 : ByteArray) (word : ByteArray) (sb m : Nat) (s : ByteArray) : Prop :=
  (m = 2 ∧ word = w1 ∧ W.cell? ⟨sb, 0, none⟩ = some (.int .i64 a) ∧ W.cell? ⟨sb, 1, none⟩ = some (.int .i64 b) ∧ s = s1) ∨
  (m = 4 ∧ word = w2 ∧ W.cell? ⟨sb, 0, none⟩ = some (.int .i64 c) ∧ W.cell? ⟨sb, 1, none⟩ = some (.int .i64 d) ∧ W.cell? ⟨sb, 2, none⟩ = some (.int .i64 e) ∧ W.cell? ⟨sb, 3, none⟩ = some (.int .i64 f) ∧ s = s2)

theorem want_any (w1 w2 : ByteArray) (a b c d e f : Int) (h1 : w1.size ≤ 1000) (h2 : w2.size ≤ 1000) (ha : i64B a) (hb : i64B b) (hc : i64B c) (hd : i64B d) (he : i64B e) (hf : i64B f) (w0 : World) (hT : Tab w0) :
    ∀ W, Chg Non w0 W → ∀ word sb m cap s, Want W w1 a b (lineF (two a b) w1 2) w2 c d e f (lineF (four c d e f) w2 4) word sb m s →
      Calls Tryz.prog 65 #[.string word, .slice (some ⟨sb, 0, none⟩) m cap] W fun e w' => e = .returned (.string s) ∧ Chg Non w0 w' ∧ Chg Non W w' := by
  intro W k word sb m cap s hw
  have hTW := hT.kept0 k
  rcases hw with ⟨rfl, rfl, c0, c1, rfl⟩ | ⟨rfl, rfl, c0, c1, c2, c3, rfl⟩
  · refine (lineOf_any word (two a b) sb 2 cap W hTW (by omega) h1 ?_ ?_).mono ?_
    · intro i hi
      match i, hi with
      | 0, _ => exact c0
      | 1, _ => exact c1
    · intro i hi
      match i, hi with
      | 0, _ => exact ha
      | 1, _ => exact hb
    · rintro e w' ⟨rfl, k2⟩
      exact ⟨rfl, k.trans k2, k2⟩
  · refine (lineOf_any word (four c d e f) sb 4 cap W hTW (by omega) h2 ?_ ?_).mono ?_
    · intro i hi
      match i, hi with
      | 0, _ => exact c0
      | 1, _ => exact c1
      | 2, _ => exact c2
      | 3, _ => exact c3
    · intro i hi
      match i, hi with
      | 0, _ => exact hc
      | 1, _ => exact hd
      | 2, _ => exact he
      | 3, _ => exact hf
    · rintro e w' ⟨rfl, k2⟩
      exact ⟨rfl, k.trans k2, k2⟩

set_option maxRecDepth 100000 in
set_option maxHeartbeats 2000000 in
theorem lineOfEnter_any (id owner : Int) (sym : ByteArray) (side kind price qty : Int) (w : World) (hT : Tab w) (hs : sym.size ≤ 1000) (h1 : i64B id) (h2 : i64B owner) (h3 : i64B side) (h4 : i64B kind) (h5 : i64B price) (h6 : i64B qty) :
    Calls Tryz.prog 113 #[.agg #[.int .i64 id, .int .i64 owner, .string sym, .int .i64 side, .int .i64 kind, .int .i64 price, .int .i64 qty]] w fun e w' => e = .returned (.string (enterL id owner sym side kind price qty)) ∧ Chg Non w w' := by
  obtain ⟨w1, hw1⟩ : ∃ w1, w1 = w.alloc (.cells #[.int .i64 id, .int .i64 owner, .string sym, .int .i64 side, .int .i64 kind, .int .i64 price, .int .i64 qty] 52) := ⟨_, rfl⟩
  have k0 : Chg Non w w1 := by rw [hw1]; exact (Chg.refl Non w).alloc _
  have b0 : Blk w1 w.heap.size #[.int .i64 id, .int .i64 owner, .string sym, .int .i64 side, .int .i64 kind, .int .i64 price, .int .i64 qty] 52 := by rw [hw1]; exact Blk.new _ _ _
  have hT1 := hT.kept0 k0
  have HW := want_any wEnter sym id owner side kind price qty (by decide) hs h1 h2 h3 h4 h5 h6 w1 hT1
  have z1 := lineF_size (two id owner) wEnter 2 (fun i hi => by match i, hi with | 0, _ => exact h1 | 1, _ => exact h2)
  have z2 := lineF_size (four side kind price qty) sym 4 (fun i hi => by match i, hi with | 0, _ => exact h3 | 1, _ => exact h4 | 2, _ => exact h5 | 3, _ => exact h6)
  unfold enterL
  have zE : wEnter.size = 5 := by decide
  rw [zE] at z1
  generalize lineF (two id owner) wEnter 2 = s1 at *
  generalize lineF (four side kind price qty) sym 4 = s2 at *
  have c1 := cat_run (P := Tryz.prog) s1 ⟨#[32]⟩ (by show s1.size + 1 ≤ 1000000; omega)
  have c2 := cat_run (P := Tryz.prog) (s1 ++ ⟨#[32]⟩) s2 (by rw [ByteArray.size_append]; show (s1.size + 1) + s2.size ≤ 1000000; omega)
  obtain ⟨H, hH⟩ : ∃ H, w.heap.size = H := ⟨_, rfl⟩
  rw [hH] at b0
  have x0 : w1.cell? ⟨H, 0, none⟩ = some (.int .i64 id) := b0.cell 0
  have x1 : w1.cell? ⟨H, 1, none⟩ = some (.int .i64 owner) := b0.cell 1
  have x2 : w1.cell? ⟨H, 2, none⟩ = some (.string sym) := b0.cell 2
  have x3 : w1.cell? ⟨H, 3, none⟩ = some (.int .i64 side) := b0.cell 3
  have x4 : w1.cell? ⟨H, 4, none⟩ = some (.int .i64 kind) := b0.cell 4
  have x5 : w1.cell? ⟨H, 5, none⟩ = some (.int .i64 price) := b0.cell 5
  have x6 : w1.cell? ⟨H, 6, none⟩ = some (.int .i64 qty) := b0.cell 6
  have lH : H < w1.heap.size := b0.lt
  have HWW := hide HW
  have HK0 := hide k0
  have HW1 := hide hw1
  clear HW k0 hw1 hT1 hT b0 h1 h2 h3 h4 h5 h6 z1 z2 zE hs
  go_enter Tryz.func113, Tryz.ntmps113
  go_wp2
  rw [← unhide HW1]
  go_region_held3 (fun w' => w'.cell? ⟨H, 0, none⟩ = some (.int .i64 id) ∧ w'.cell? ⟨H, 1, none⟩ = some (.int .i64 owner) ∧ w'.cell? ⟨H, 2, none⟩ = some (.string sym) ∧ w'.cell? ⟨H, 3, none⟩ = some (.int .i64 side) ∧ w'.cell? ⟨H, 4, none⟩ = some (.int .i64 kind) ∧ w'.cell? ⟨H, 5, none⟩ = some (.int .i64 price) ∧ w'.cell? ⟨H, 6, none⟩ = some (.int .i64 qty)) (go_keep)
    (first
      | (go_at_call 65; refine (unhide HWW _ ?cc _ _ _ _ s1 ?wt).mono ?_; (case wt => exact Or.inl ⟨rfl, rfl, by go_keep, by go_keep, rfl⟩); (case cc => repeat (first | exact unhide HKn | exact Chg.refl _ _ | refine Chg.drew ?_ | refine Chg.alloc ?_ _)); rintro e w3 ⟨rfl, hk, hkW⟩; have HKW := hide hkW; clear hkW; have k0 := hk.cell (p := ⟨H, 0, none⟩) x0 (fun x => x); have k1 := hk.cell (p := ⟨H, 1, none⟩) x1 (fun x => x); have k2 := hk.cell (p := ⟨H, 2, none⟩) x2 (fun x => x); have k3 := hk.cell (p := ⟨H, 3, none⟩) x3 (fun x => x); have k4 := hk.cell (p := ⟨H, 4, none⟩) x4 (fun x => x); have k5 := hk.cell (p := ⟨H, 5, none⟩) x5 (fun x => x); have k6 := hk.cell (p := ⟨H, 6, none⟩) x6 (fun x => x); have HKn := hide hk; clear hk)
      | (go_at_call 65; refine (unhide HWW _ ?cc _ _ _ _ s2 ?wt).mono ?_; (case wt => exact Or.inr ⟨rfl, rfl, (by first | go_keep | exact (unhide HKW).cell (by go_keep) (fun x => x)), (by first | go_keep | exact (unhide HKW).cell (by go_keep) (fun x => x)), (by first | go_keep | exact (unhide HKW).cell (by go_keep) (fun x => x)), (by first | go_keep | exact (unhide HKW).cell (by go_keep) (fun x => x)), rfl⟩); (case cc => repeat (first | exact unhide HKn | exact Chg.refl _ _ | refine Chg.drew ?_ | refine Chg.alloc ?_ _)); rintro e w3 ⟨rfl, hk, hkW⟩; have HKW := hide hkW; clear hkW; have k0 := hk.cell (p := ⟨H, 0, none⟩) x0 (fun x => x); have k1 := hk.cell (p := ⟨H, 1, none⟩) x1 (fun x => x); have k2 := hk.cell (p := ⟨H, 2, none⟩) x2 (fun x => x); have k3 := hk.cell (p := ⟨H, 3, none⟩) x3 (fun x => x); have k4 := hk.cell (p := ⟨H, 4, none⟩) x4 (fun x => x); have k5 := hk.cell (p := ⟨H, 5, none⟩) x5 (fun x => x); have k6 := hk.cell (p := ⟨H, 6, none⟩) x6 (fun x => x); have HKn := hide hk; clear hk))
  all_goals
    go_wp2
    go_ret
    exact ⟨rfl, (unhide HK0).trans (by repeat (first | exact unhide HKn | exact Chg.refl _ _ | refine Chg.drew ?_ | refine Chg.drewN ?_ _ | refine Chg.alloc ?_ _))⟩

end Go.Proofs.YtigaphnafnpfnaaGreatDoor

