import Derived.Test.YtigaphnafnpfnaaGreatDoorPVT1
import Derived.Test.YtigaphnafnpfnaaGreatDoorPVJ3
import Derived.Deep.QuietTactic
import Derived.BigQuiet
import Derived.Test.YtigaphnafnpfnaaGreatDoorPVY3
set_option linter.unusedVariables false
set_option linter.unusedSimpArgs false
/- The document's lines. -/
namespace Go.Proofs.YtigaphnafnpfnaaGreatDoor
open Go.RowKit
attribute [local go_sem ↓] Go.wp_at_zero Go.wp_at_succ

/-- a number that a line may have -/
def Fig (n : Int) : Prop := 0 ≤ n ∧ n < 10000000000
def txi (n : Int) : ByteArray := txt n.toNat

theorem text_int (n : Int) (h : Fig n) (w0 : World) : ∀ W, Chg Non w0 W → Calls Tryz.prog 173 #[.int .i64 n] W fun e w' => e = .returned (.string (txi n)) ∧ Chg Non w0 w' := fun W k => by
  have e : n = ((n.toNat : Nat) : Int) := by have := h.1; omega
  have h2 := h.2
  have := text_any n.toNat W (by omega)
  rw [← e] at this
  refine this.mono ?_
  rintro e' w' ⟨rfl, k'⟩
  exact ⟨rfl, k.trans k'⟩

theorem txi_size (n : Int) (h : Fig n) : 1 ≤ (txi n).size ∧ (txi n).size ≤ 10 := txt_size 9 _ (by have := h.1; have := h.2; omega)

set_option maxRecDepth 100000 in
set_option maxHeartbeats 8000000 in
theorem rline_list (s : ByteArray) (id owner : Int) (sym : ByteArray) (side okind price qty a b c : Int) (again : Bool) (w : World)  (hs : s.size ≤ 1000) :
    Calls Tryz.prog 139 #[.agg #[.int .u8 108, .string s, .int .i64 id, .int .i64 owner, .string sym, .int .i64 side, .int .i64 okind, .int .i64 price, .int .i64 qty, .int .i64 a, .int .i64 b, .int .i64 c, .bool again]] w fun e w' => e = .returned (.string ((⟨#[108, 105, 115, 116, 32]⟩ : ByteArray) ++ s)) ∧ Chg Non w w' := by
  obtain ⟨w1, hw1⟩ : ∃ w1, w1 = w.alloc (.cells #[.int .u8 108, .string s, .int .i64 id, .int .i64 owner, .string sym, .int .i64 side, .int .i64 okind, .int .i64 price, .int .i64 qty, .int .i64 a, .int .i64 b, .int .i64 c, .bool again] 169) := ⟨_, rfl⟩
  have k0 : Chg Non w w1 := by rw [hw1]; exact (Chg.refl Non w).alloc _
  have b0 : Blk w1 w.heap.size #[.int .u8 108, .string s, .int .i64 id, .int .i64 owner, .string sym, .int .i64 side, .int .i64 okind, .int .i64 price, .int .i64 qty, .int .i64 a, .int .i64 b, .int .i64 c, .bool again] 169 := by rw [hw1]; exact Blk.new _ _ _
  have HT : Hid (∀ n, Fig n → ∀ W, Chg Non w1 W → Calls Tryz.prog 173 #[.int .i64 n] W fun e w' => e = .returned (.string (txi n)) ∧ Chg Non w1 w') := fun n h => text_int n h w1
  have c0 := cat_run (P := Tryz.prog) (⟨#[108, 105, 115, 116, 32]⟩ : ByteArray) s (by (repeat rw [ByteArray.size_append]); show 5 + s.size ≤ 1000000; omega)
  obtain ⟨H, hH⟩ : ∃ H, w.heap.size = H := ⟨_, rfl⟩
  rw [hH] at b0
  have x0 : w1.cell? ⟨H, 0, none⟩ = some (.int .u8 108) := b0.cell 0
  have x1 : w1.cell? ⟨H, 1, none⟩ = some (.string s) := b0.cell 1
  have lH : H < w1.heap.size := b0.lt
  have HK0 := hide k0
  have HW1 := hide hw1
  have hK : Hid (Chg Non w1 w1) := Chg.refl _ _
  clear k0 hw1 b0
  go_enter Tryz.func139, Tryz.ntmps139
  go_wp2
  go_ret
  refine ⟨rfl, ?_⟩
  first | exact unhide HK0 | (rw [unhide HW1] at HK0; exact unhide HK0) | exact (Chg.refl _ _).alloc _

set_option maxRecDepth 100000 in
set_option maxHeartbeats 8000000 in
theorem rline_cancel (s : ByteArray) (id owner : Int) (sym : ByteArray) (side okind price qty a b c : Int) (again : Bool) (w : World) (h_a : Fig a)  :
    Calls Tryz.prog 139 #[.agg #[.int .u8 99, .string s, .int .i64 id, .int .i64 owner, .string sym, .int .i64 side, .int .i64 okind, .int .i64 price, .int .i64 qty, .int .i64 a, .int .i64 b, .int .i64 c, .bool again]] w fun e w' => e = .returned (.string ((⟨#[99, 97, 110, 99, 101, 108, 32]⟩ : ByteArray) ++ (txi a))) ∧ Chg Non w w' := by
  obtain ⟨w1, hw1⟩ : ∃ w1, w1 = w.alloc (.cells #[.int .u8 99, .string s, .int .i64 id, .int .i64 owner, .string sym, .int .i64 side, .int .i64 okind, .int .i64 price, .int .i64 qty, .int .i64 a, .int .i64 b, .int .i64 c, .bool again] 169) := ⟨_, rfl⟩
  have k0 : Chg Non w w1 := by rw [hw1]; exact (Chg.refl Non w).alloc _
  have b0 : Blk w1 w.heap.size #[.int .u8 99, .string s, .int .i64 id, .int .i64 owner, .string sym, .int .i64 side, .int .i64 okind, .int .i64 price, .int .i64 qty, .int .i64 a, .int .i64 b, .int .i64 c, .bool again] 169 := by rw [hw1]; exact Blk.new _ _ _
  have z_a := txi_size a h_a
  have HT : Hid (∀ n, Fig n → ∀ W, Chg Non w1 W → Calls Tryz.prog 173 #[.int .i64 n] W fun e w' => e = .returned (.string (txi n)) ∧ Chg Non w1 w') := fun n h => text_int n h w1
  have c0 := cat_run (P := Tryz.prog) (⟨#[99, 97, 110, 99, 101, 108, 32]⟩ : ByteArray) (txi a) (by (repeat rw [ByteArray.size_append]); show 7 + (txi a).size ≤ 1000000; omega)
  obtain ⟨H, hH⟩ : ∃ H, w.heap.size = H := ⟨_, rfl⟩
  rw [hH] at b0
  have x0 : w1.cell? ⟨H, 0, none⟩ = some (.int .u8 99) := b0.cell 0
  have x9 : w1.cell? ⟨H, 9, none⟩ = some (.int .i64 a) := b0.cell 9
  have lH : H < w1.heap.size := b0.lt
  have HK0 := hide k0
  have HW1 := hide hw1
  have hK : Hid (Chg Non w1 w1) := Chg.refl _ _
  clear k0 hw1 b0
  go_enter Tryz.func139, Tryz.ntmps139
  go_wp2_with (go_at_call 173; rw [← unhide HW1]; refine (unhide HT _ h_a _ (unhide hK)).mono ?_; rintro e w3 ⟨rfl, hk⟩; have HK3 := hide hk; clear hk)
  go_ret
  exact ⟨rfl, (unhide HK0).trans (unhide HK3)⟩

set_option maxRecDepth 100000 in
set_option maxHeartbeats 8000000 in
theorem rline_replace (s : ByteArray) (id owner : Int) (sym : ByteArray) (side okind price qty a b c : Int) (again : Bool) (w : World) (h_a : Fig a) (h_b : Fig b) (h_c : Fig c)  :
    Calls Tryz.prog 139 #[.agg #[.int .u8 114, .string s, .int .i64 id, .int .i64 owner, .string sym, .int .i64 side, .int .i64 okind, .int .i64 price, .int .i64 qty, .int .i64 a, .int .i64 b, .int .i64 c, .bool again]] w fun e w' => e = .returned (.string ((((((⟨#[114, 101, 112, 108, 97, 99, 101, 32]⟩ : ByteArray) ++ (txi a)) ++ (⟨#[32]⟩ : ByteArray)) ++ (txi b)) ++ (⟨#[32]⟩ : ByteArray)) ++ (txi c))) ∧ Chg Non w w' := by
  obtain ⟨w1, hw1⟩ : ∃ w1, w1 = w.alloc (.cells #[.int .u8 114, .string s, .int .i64 id, .int .i64 owner, .string sym, .int .i64 side, .int .i64 okind, .int .i64 price, .int .i64 qty, .int .i64 a, .int .i64 b, .int .i64 c, .bool again] 169) := ⟨_, rfl⟩
  have k0 : Chg Non w w1 := by rw [hw1]; exact (Chg.refl Non w).alloc _
  have b0 : Blk w1 w.heap.size #[.int .u8 114, .string s, .int .i64 id, .int .i64 owner, .string sym, .int .i64 side, .int .i64 okind, .int .i64 price, .int .i64 qty, .int .i64 a, .int .i64 b, .int .i64 c, .bool again] 169 := by rw [hw1]; exact Blk.new _ _ _
  have z_a := txi_size a h_a
  have z_b := txi_size b h_b
  have z_c := txi_size c h_c
  have HT : Hid (∀ n, Fig n → ∀ W, Chg Non w1 W → Calls Tryz.prog 173 #[.int .i64 n] W fun e w' => e = .returned (.string (txi n)) ∧ Chg Non w1 w') := fun n h => text_int n h w1
  have c0 := cat_run (P := Tryz.prog) (⟨#[114, 101, 112, 108, 97, 99, 101, 32]⟩ : ByteArray) (txi a) (by (repeat rw [ByteArray.size_append]); show 8 + (txi a).size ≤ 1000000; omega)
  have c1 := cat_run (P := Tryz.prog) ((⟨#[114, 101, 112, 108, 97, 99, 101, 32]⟩ : ByteArray) ++ (txi a)) (⟨#[32]⟩ : ByteArray) (by (repeat rw [ByteArray.size_append]); show (8 + (txi a).size) + 1 ≤ 1000000; omega)
  have c2 := cat_run (P := Tryz.prog) (((⟨#[114, 101, 112, 108, 97, 99, 101, 32]⟩ : ByteArray) ++ (txi a)) ++ (⟨#[32]⟩ : ByteArray)) (txi b) (by (repeat rw [ByteArray.size_append]); show ((8 + (txi a).size) + 1) + (txi b).size ≤ 1000000; omega)
  have c3 := cat_run (P := Tryz.prog) ((((⟨#[114, 101, 112, 108, 97, 99, 101, 32]⟩ : ByteArray) ++ (txi a)) ++ (⟨#[32]⟩ : ByteArray)) ++ (txi b)) (⟨#[32]⟩ : ByteArray) (by (repeat rw [ByteArray.size_append]); show (((8 + (txi a).size) + 1) + (txi b).size) + 1 ≤ 1000000; omega)
  have c4 := cat_run (P := Tryz.prog) (((((⟨#[114, 101, 112, 108, 97, 99, 101, 32]⟩ : ByteArray) ++ (txi a)) ++ (⟨#[32]⟩ : ByteArray)) ++ (txi b)) ++ (⟨#[32]⟩ : ByteArray)) (txi c) (by (repeat rw [ByteArray.size_append]); show ((((8 + (txi a).size) + 1) + (txi b).size) + 1) + (txi c).size ≤ 1000000; omega)
  obtain ⟨H, hH⟩ : ∃ H, w.heap.size = H := ⟨_, rfl⟩
  rw [hH] at b0
  have x0 : w1.cell? ⟨H, 0, none⟩ = some (.int .u8 114) := b0.cell 0
  have x9 : w1.cell? ⟨H, 9, none⟩ = some (.int .i64 a) := b0.cell 9
  have x10 : w1.cell? ⟨H, 10, none⟩ = some (.int .i64 b) := b0.cell 10
  have x11 : w1.cell? ⟨H, 11, none⟩ = some (.int .i64 c) := b0.cell 11
  have lH : H < w1.heap.size := b0.lt
  have HK0 := hide k0
  have HW1 := hide hw1
  have hK : Hid (Chg Non w1 w1) := Chg.refl _ _
  clear k0 hw1 b0
  go_enter Tryz.func139, Tryz.ntmps139
  go_wp2
  rw [← unhide HW1]
  go_region_held3 (fun w' => w'.cell? ⟨H, 9, none⟩ = some (.int .i64 a) ∧ w'.cell? ⟨H, 10, none⟩ = some (.int .i64 b) ∧ w'.cell? ⟨H, 11, none⟩ = some (.int .i64 c)) (go_keep)
    (first
      | (go_at_call 173; refine (unhide HT _ ?b _ ?cc).mono ?_; (case b => first | exact h_a | exact h_b | exact h_c); (case cc => repeat (first | exact unhide HKn | exact Chg.refl _ _ | refine Chg.drew ?_ | refine Chg.alloc ?_ _)); rintro e w3 ⟨rfl, hk⟩; have y9 := hk.cell (p := ⟨H, 9, none⟩) x9 (fun x => x); have y10 := hk.cell (p := ⟨H, 10, none⟩) x10 (fun x => x); have y11 := hk.cell (p := ⟨H, 11, none⟩) x11 (fun x => x); have HKn := hide hk; clear hk))
  all_goals
    go_wp2
    go_ret
    exact ⟨rfl, (unhide HK0).trans (by repeat (first | exact unhide HKn | refine Chg.drew ?_ | refine Chg.drewN ?_ _))⟩

theorem rline_close (s : ByteArray) (id owner : Int) (sym : ByteArray) (side okind price qty a b c : Int) (again : Bool) (w : World) :
    Calls Tryz.prog 139 #[.agg #[.int .u8 120, .string s, .int .i64 id, .int .i64 owner, .string sym, .int .i64 side, .int .i64 okind, .int .i64 price, .int .i64 qty, .int .i64 a, .int .i64 b, .int .i64 c, .bool again]] w fun e w' => e = .returned (.string (⟨#[99, 108, 111, 115, 101]⟩ : ByteArray)) ∧ Chg Non w w' := by
  go_enter Tryz.func139, Tryz.ntmps139
  go_wp2
  go_ret
  exact ⟨rfl, (Chg.refl _ _).alloc _⟩

end Go.Proofs.YtigaphnafnpfnaaGreatDoor

set_option linter.unusedVariables false
set_option linter.unusedSimpArgs false
/- The document's line of an enter: a region that draws its order, whose callees make blocks of their own. -/
namespace Go.Proofs.YtigaphnafnpfnaaGreatDoor
open Go.RowKit
attribute [local go_sem ↓] Go.wp_at_zero Go.wp_at_succ

/-- a world that has only grown -/
structure Near (w0 : World) where
  w : World
  k : Chg Non w0 w

theorem wp_region_near {P : Program} {id : Nat} {Q : Exit → Act → World → Prop} {a : Act} {w : World} {l : List Oper} (hm : P.follows .mixedOrders = true) (hB : Region.lexB .any l.toArray = true)
    (h : wpQuiet P l.toArray (fun w' => ∃ p : Near w, w' = p.w) (fun a' => ∀ w', (∃ p : Near w, w' = p.w) → Q .normal a' w') l a) : (Code.region id l.toArray true).wp P Q a w :=
  wp_region_quiet (C := fun w' => ∃ p : Near w, w' = p.w) hm hB ⟨⟨_, (Chg.refl Non w).drew⟩, rfl⟩ (by simpa using h)

theorem near_text {n : Int} (h : Fig n) {w0 : World} (p : Near w0) : Calls Tryz.prog 173 #[.int .i64 n] p.w fun e w' => e = .returned (.string (txi n)) ∧ ∃ q : Near w0, w' = q.w := by
  refine (text_int n h w0 p.w p.k).mono ?_
  rintro e w' ⟨rfl, k'⟩
  exact ⟨rfl, ⟨w', k'⟩, rfl⟩

def spc : ByteArray := ⟨#[32]⟩
def lineE (id owner : Int) (sym : ByteArray) (side okind price qty : Int) : ByteArray :=
  (⟨#[101, 110, 116, 101, 114, 32]⟩ : ByteArray) ++ txi id ++ ⟨#[32]⟩ ++ txi owner ++ ⟨#[32]⟩ ++ sym ++ ⟨#[32]⟩ ++ txi side ++ ⟨#[32]⟩ ++ txi okind ++ ⟨#[32]⟩ ++ txi price ++ ⟨#[32]⟩ ++ txi qty

theorem Blk.snd (w : World) (o : Obj) (c : Array Value) (t : TypeId) : Blk ((w.alloc o).alloc (.cells c t)) (w.heap.size + 1) c t := by
  have := Blk.new (w.alloc o) c t
  rw [show (w.alloc o).heap.size = w.heap.size + 1 by simp] at this
  exact this

theorem cat_small {P : Program} (a b : ByteArray) (h : a.size ≤ 100000) (h2 : b.size ≤ 100000) (W : World) : (Op.stringOp .add a b).run P W = .ok (.string (a ++ b)) W := cat_run a b (by omega) W
theorem size_small {a b : ByteArray} {n m : Nat} (h : a.size ≤ n) (h2 : b.size ≤ m) : (a ++ b).size ≤ n + m := by rw [ByteArray.size_append]; omega

set_option maxRecDepth 100000 in
set_option maxHeartbeats 8000000 in
theorem rline_enter (s : ByteArray) (id owner : Int) (sym : ByteArray) (side okind price qty a b c : Int) (again : Bool) (w : World) (h_id : Fig id) (h_ow : Fig owner) (h_si : Fig side) (h_ki : Fig okind) (h_pr : Fig price) (h_qt : Fig qty) (hs : sym.size ≤ 1000) :
    Calls Tryz.prog 139 #[.agg #[.int .u8 101, .string s, .int .i64 id, .int .i64 owner, .string sym, .int .i64 side, .int .i64 okind, .int .i64 price, .int .i64 qty, .int .i64 a, .int .i64 b, .int .i64 c, .bool again]] w fun e w' => e = .returned (.string (lineE id owner sym side okind price qty)) ∧ Chg Non w w' := by
  obtain ⟨w2, hw2⟩ : ∃ w2, w2 = (w.alloc (.cells #[.int .u8 101, .string s, .int .i64 id, .int .i64 owner, .string sym, .int .i64 side, .int .i64 okind, .int .i64 price, .int .i64 qty, .int .i64 a, .int .i64 b, .int .i64 c, .bool again] 169)).alloc (.cells #[.int .i64 id, .int .i64 owner, .string sym, .int .i64 side, .int .i64 okind, .int .i64 price, .int .i64 qty] 52) := ⟨_, rfl⟩
  have k2 : Chg Non w w2 := by rw [hw2]; exact ((Chg.refl Non w).alloc _).alloc _
  have b2 : Blk w2 (w.heap.size + 1) #[.int .i64 id, .int .i64 owner, .string sym, .int .i64 side, .int .i64 okind, .int .i64 price, .int .i64 qty] 52 := by rw [hw2]; exact Blk.snd _ _ _ _
  obtain ⟨H, hH⟩ : ∃ H, w.heap.size = H := ⟨_, rfl⟩
  have HW2 := hide hw2
  rw [hH] at b2
  have x0 : ∀ p : Near w2, p.w.cell? ⟨H + 1, 0, none⟩ = some (.int .i64 id) := fun p => p.k.cell (b2.cell 0) (fun x => x)
  have x1 : ∀ p : Near w2, p.w.cell? ⟨H + 1, 1, none⟩ = some (.int .i64 owner) := fun p => p.k.cell (b2.cell 1) (fun x => x)
  have x2 : ∀ p : Near w2, p.w.cell? ⟨H + 1, 2, none⟩ = some (.string sym) := fun p => p.k.cell (b2.cell 2) (fun x => x)
  have x3 : ∀ p : Near w2, p.w.cell? ⟨H + 1, 3, none⟩ = some (.int .i64 side) := fun p => p.k.cell (b2.cell 3) (fun x => x)
  have x4 : ∀ p : Near w2, p.w.cell? ⟨H + 1, 4, none⟩ = some (.int .i64 okind) := fun p => p.k.cell (b2.cell 4) (fun x => x)
  have x5 : ∀ p : Near w2, p.w.cell? ⟨H + 1, 5, none⟩ = some (.int .i64 price) := fun p => p.k.cell (b2.cell 5) (fun x => x)
  have x6 : ∀ p : Near w2, p.w.cell? ⟨H + 1, 6, none⟩ = some (.int .i64 qty) := fun p => p.k.cell (b2.cell 6) (fun x => x)
  have z1 := (txi_size id h_id).2
  have z2 := (txi_size owner h_ow).2
  have z3 := (txi_size side h_si).2
  have z4 := (txi_size okind h_ki).2
  have z5 := (txi_size price h_pr).2
  have z6 := (txi_size qty h_qt).2
  have zs : (⟨#[32]⟩ : ByteArray).size ≤ 1 := Nat.le_refl _
  have s0 : (⟨#[101, 110, 116, 101, 114, 32]⟩ : ByteArray).size ≤ 6 := Nat.le_refl _
  have s1 := size_small s0 z1
  have s2 := size_small s1 zs
  have s3 := size_small s2 z2
  have s4 := size_small s3 zs
  have s5 := size_small s4 hs
  have s6 := size_small s5 zs
  have s7 := size_small s6 z3
  have s8 := size_small s7 zs
  have s9 := size_small s8 z4
  have s10 := size_small s9 zs
  have s11 := size_small s10 z5
  have s12 := size_small s11 zs
  have c0 := cat_small (P := Tryz.prog) _ _ (Nat.le_trans s0 (by decide)) (Nat.le_trans z1 (by decide))
  have c1 := cat_small (P := Tryz.prog) _ _ (Nat.le_trans s1 (by decide)) (Nat.le_trans zs (by decide))
  have c2 := cat_small (P := Tryz.prog) _ _ (Nat.le_trans s2 (by decide)) (Nat.le_trans z2 (by decide))
  have c3 := cat_small (P := Tryz.prog) _ _ (Nat.le_trans s3 (by decide)) (Nat.le_trans zs (by decide))
  have c4 := cat_small (P := Tryz.prog) _ _ (Nat.le_trans s4 (by decide)) (Nat.le_trans hs (by decide))
  have c5 := cat_small (P := Tryz.prog) _ _ (Nat.le_trans s5 (by decide)) (Nat.le_trans zs (by decide))
  have c6 := cat_small (P := Tryz.prog) _ _ (Nat.le_trans s6 (by decide)) (Nat.le_trans z3 (by decide))
  have c7 := cat_small (P := Tryz.prog) _ _ (Nat.le_trans s7 (by decide)) (Nat.le_trans zs (by decide))
  have c8 := cat_small (P := Tryz.prog) _ _ (Nat.le_trans s8 (by decide)) (Nat.le_trans z4 (by decide))
  have c9 := cat_small (P := Tryz.prog) _ _ (Nat.le_trans s9 (by decide)) (Nat.le_trans zs (by decide))
  have c10 := cat_small (P := Tryz.prog) _ _ (Nat.le_trans s10 (by decide)) (Nat.le_trans z5 (by decide))
  have c11 := cat_small (P := Tryz.prog) _ _ (Nat.le_trans s11 (by decide)) (Nat.le_trans zs (by decide))
  have c12 := cat_small (P := Tryz.prog) _ _ (Nat.le_trans s12 (by decide)) (Nat.le_trans z6 (by decide))
  have HK2 := hide k2
  have HL : Hid (lineE id owner sym side okind price qty = lineE id owner sym side okind price qty) := rfl
  obtain ⟨ln, hln⟩ : ∃ ln, lineE id owner sym side okind price qty = ln := ⟨_, rfl⟩
  rw [hln]
  have HLN := hide hln
  clear HL hln k2 hw2 b2 z1 z2 z3 z4 z5 z6 zs s0 s1 s2 s3 s4 s5 s6 s7 s8 s9 s10 s11 s12 hs
  go_enter Tryz.func139, Tryz.ntmps139
  go_wp2
  rw [← unhide HW2]
  haveI : Nonempty (Near w2) := ⟨⟨w2, Chg.refl _ _⟩⟩
  refine wp_region_near (by kernel_rfl) (by kernel_rfl) ?_
  repeat (quiet_step ((refine near_text ?_ _; first | exact h_id | exact h_ow | exact h_si | exact h_ki | exact h_pr | exact h_qt)))
  refine wpQuiet_nil ?_
  rintro _ ⟨⟨w9, k9⟩, rfl⟩
  go_wp2
  go_ret
  exact ⟨by rw [← unhide HLN]; rfl, (unhide HK2).trans k9⟩

end Go.Proofs.YtigaphnafnpfnaaGreatDoor

/- takeBack of an order of which something is open; Bust and Correct at an error -/
set_option linter.unusedVariables false
set_option linter.unusedSimpArgs false
namespace Go.Proofs.YtigaphnafnpfnaaGreatDoor
open Go.RowKit Go.Maps
attribute [local go_sem ↓] Go.wp_at_zero Go.wp_at_succ

set_option maxHeartbeats 4000000 in
set_option maxRecDepth 100000 in
theorem takeBack_more (bv bm bo i b s t k : Nat) (V : Ven) (id q : Int) (w : World) (R : Rep w bv bm bo V) (hi : i < V.nb) (hid : V.oid id = some b) (hsym : (V.om b).sym = (V.B i).sym) (hlen : (V.B i).sym.size ≤ maxLen) (hs : s < 2) (ht : t = 1 - s) (hside : (V.om b).side = (t : Int))
    (hr : restsB (V.om b).kind = true) (hf : firstG (V.B i) V.om (askOf (V.om b)) s = none) (h0 : 0 < (V.om b).opn) (hk : k < (V.B i).n t) (hkb : (V.B i).h t k = b) (hn : (V.B i).n t < 1000) (hna : 0 < V.lg.na) (hna2 : V.lg.na ≤ 3000000) (hnt : V.lg.nt.length + 3 < 1000000000) :
    Calls Tryz.prog 75 #[.pointer (some ⟨bv, 0, none⟩), .pointer (some ⟨b, 0, none⟩), .int .i64 q, .bool true] w fun e w' => e = .returned (.tuple #[]) ∧
      ∃ g cap', Mk w' (V.bk i) (((V.B i).leave V.om t k).rest (againOm V i b q) t b g cap') (againOm V i b q) (fun x => ∃ id, V.oid id = some x) ∧ Noted bv bm bo V.lg V.lm [.left b, .now b (V.om b), .rested b (V.om b).place] w w' ∧ Chg (fun x => (x = V.bk i ∨ x = b ∨ SdB (V.B i) t x) ∨ ActF V.lm.av V.lm.ac x) w w' ∧ (adB ((V.B i).sl t) = some g ∨ w.heap.size ≤ g) := by
  obtain ⟨-, ix, ho⟩ := R.ords id b hid
  have t2 : t < 2 := by omega
  have L1 : ∀ n, (Instr.lookup 94 (.map (some bm)) (.string (V.B i).sym) false).run Tryz.prog (w.drewN n) = .ok (.pointer (some ⟨V.bk i, 0, none⟩)) (w.drewN n) := fun n => (R.kept0 ((Chg.refl Non w).drewN n)).lookB hi hlen
  have L1d : (Instr.lookup 94 (.map (some bm)) (.string (V.B i).sym) false).run Tryz.prog w.drew = .ok (.pointer (some ⟨V.bk i, 0, none⟩)) w.drew := L1 1
  have v0 : w.cell? ⟨bv, 0, none⟩ = some (.map (some bm)) := R.ven.cell 0
  have o2 : w.cell? ⟨b, 2, none⟩ = some (.string (V.B i).sym) := by rw [← hsym]; exact ho.cell 2
  have hinj : Inj ((V.B i).n t) ((V.B i).h t) := ((R.book i hi).side t t2).inj
  have sub : ∀ x, SdB ((V.B i).leave V.om t k) t x → SdB (V.B i) t x := by
    rintro x (h | ⟨l, hl, e⟩)
    · exact .inl h
    · obtain ⟨k', hk', e', _⟩ := leave_memk (om := V.om) hinj hk l hl
      exact .inr ⟨k', hk', by rw [e, e']⟩
  have HLe := hide (fun (W : World) (kk : Chg Non w W) => leave_mk (V.bk i) (V.B i) V.om (fun x => ∃ id, V.oid id = some x) t k W ((R.kept0 kk).mkt hi) t2 hk (by rw [hkb]; exact hside))
  have HC := hide (fun (W : World) (m : Mk W (V.bk i) ((V.B i).leave V.om t k) V.om (fun x => ∃ id, V.oid id = some x)) => openFilled_mk (V.bk i) b _ V.om _ q W m ⟨id, hid⟩)
  have HF := hide (fun (W : World) (k : Chg Non w W) => firstGood_any (V.bk i) (V.B i) V.om (askOf (V.om b)) s W ((R.kept0 k).book i hi) hs (by rw [show (askOf (V.om b)).side = (V.om b).side from rfl, hside, ht]; omega))
  have HO : Hid (∀ W, Chg Non w W → IsOrd W b (V.om b) ix) := fun W k => k.blk ho (fun x => x)
  have hnew : ∀ x, x < 2 → ∀ l, l < ((V.B i).leave V.om t k).n x → ((V.B i).leave V.om t k).h x l ≠ b := by
    intro x hx l hl
    by_cases e : x = t
    · subst e
      obtain ⟨k', _, e', hne⟩ := leave_memk (om := V.om) hinj hk l hl
      rw [e', ← hkb]; exact hne
    · simp only [Bk.leave, upd_other _ _ e] at hl ⊢
      rw [← hkb]
      have hd := (R.book i hi).disj
      have : (x = 0 ∧ t = 1) ∨ (x = 1 ∧ t = 0) := by omega
      rcases this with ⟨rfl, rfl⟩ | ⟨rfl, rfl⟩
      · exact hd l k hl hk
      · exact fun e => hd k l hk hl e.symm
  have HRest : Hid (∀ W, Mk W (V.bk i) ((V.B i).leave V.om t k) (upd V.om b (openF (V.om b) q)) (fun x => ∃ id, V.oid id = some x) → Calls Tryz.prog 122 #[.pointer (some ⟨V.bk i, 0, none⟩), .pointer (some ⟨b, 0, none⟩)] W fun e w' => ∃ fn cp, e = .returned (.func fn #[] cp) ∧ IsRestF w' (V.bk i) b (V.om b).place W.heap.size fn cp ∧
      ∃ g cap', Mk w' (V.bk i) (((V.B i).leave V.om t k).rest (againOm V i b q) t b g cap') (againOm V i b q) (fun x => ∃ id, V.oid id = some x) ∧ Chg (fun x => x = V.bk i ∨ x = b ∨ SdB ((V.B i).leave V.om t k) t x) W w' ∧ (adB ((V.B i).sl t) = some g ∨ W.heap.size ≤ g)) := by
    intro W m
    obtain ⟨ix', ho'⟩ := m.ords b ⟨id, hid⟩
    refine (rest_fn (V.bk i) b t ((V.B i).leave V.om t k) _ ix' W m.book ho' t2 (by rw [upd_same]; exact hside) hnew (by simp only [Bk.leave, upd_same]; omega)).mono ?_
    rintro e w' ⟨fn, cp, rfl, hcl, g, cap', hb, kk, hg⟩
    rw [upd_same] at hb hcl
    refine ⟨fn, cp, rfl, hcl, g, cap', m.rest (om' := againOm V i b q) t2 ⟨id, hid⟩ (fun x hx => by unfold againOm; rw [upd_other _ _ hx]) hb kk, kk, hg⟩
  have HN1 : Hid (∀ W w3 fn cp, Chg Non w W → Chg (fun x => x = V.bk i ∨ SdB (V.B i) t x) W w3 → Mk w3 (V.bk i) ((V.B i).leave V.om t k) V.om (fun x => ∃ id, V.oid id = some x) →
      Calls Tryz.prog 53 #[.pointer (some ⟨bv, 0, none⟩), .slice (some ⟨w3.heap.size, 0, none⟩) 1 1] (w3.alloc (.cells #[.func fn #[] cp] 1)) fun e w' => e = .returned (.tuple #[]) ∧ Mk w' (V.bk i) ((V.B i).leave V.om t k) V.om (fun x => ∃ id, V.oid id = some x) ∧
        ∃ lm3, IsLog w' bv bm bo (V.lg.noted [.left b]) lm3 ∧ (∀ x, lm3.F x → V.lm.F x ∨ w.heap.size ≤ x) ∧ (∀ x, ActF lm3.av lm3.ac x → ActF V.lm.av V.lm.ac x ∨ w.heap.size ≤ x) ∧ Chg (fun x => (x = V.bk i ∨ x = b ∨ SdB (V.B i) t x) ∨ ActF V.lm.av V.lm.ac x) w w') := by
    intro W w3 fn cp kW k3 m3
    have h3 := (R.log.kept0 kW).keptT k3 (fun x h => ((R.kept0 kW).mkt hi).typ (by
      rcases h with h | h
      · exact .inl h
      · exact .inr (.inr ⟨t, t2, h⟩)))
    refine (note1A bv bm bo V.lg V.lm (.left b) fn cp w3 h3 hna hna2 (by omega)).mono ?_
    rintro e w' ⟨rfl, lm', a1, a2, a3, a4⟩
    have kk : Chg (fun x => (x = V.bk i ∨ x = b ∨ SdB (V.B i) t x) ∨ ActF V.lm.av V.lm.ac x) w w3 := kW.of_non.trans (k3.mono (fun x h => .inl (h.imp_right .inr)))
    exact ⟨rfl, m3.keptLog h3 (a3.mono (fun _ h => .inr (.inr (.inr (.inr h))))), lm', a1, fun x hx => (a2 x hx).imp_right (fun h => Nat.le_trans kk.size h), fun x hx => (a4 x hx).imp_right (fun h => Nat.le_trans kk.size h), kk.trans (a3.mono (fun _ h => .inr h))⟩
  have HN2 : Hid (∀ w3 lm3 w4 w5 fn4 cp4 fn5 cp5 g cap', Mk w3 (V.bk i) ((V.B i).leave V.om t k) V.om (fun x => ∃ id, V.oid id = some x) → IsLog w3 bv bm bo (V.lg.noted [.left b]) lm3 → (∀ x, lm3.F x → V.lm.F x ∨ w.heap.size ≤ x) → (∀ x, ActF lm3.av lm3.ac x → ActF V.lm.av V.lm.ac x ∨ w.heap.size ≤ x) → Chg (fun x => (x = V.bk i ∨ x = b ∨ SdB (V.B i) t x) ∨ ActF V.lm.av V.lm.ac x) w w3 →
      Chg (fun x => x = b) w3 w4 → Mk w4 (V.bk i) ((V.B i).leave V.om t k) (upd V.om b (openF (V.om b) q)) (fun x => ∃ id, V.oid id = some x) → Mk w5 (V.bk i) (((V.B i).leave V.om t k).rest (againOm V i b q) t b g cap') (againOm V i b q) (fun x => ∃ id, V.oid id = some x) → Chg (fun x => x = V.bk i ∨ x = b ∨ SdB ((V.B i).leave V.om t k) t x) w4 w5 → (adB ((V.B i).sl t) = some g ∨ w4.heap.size ≤ g) →
      Calls Tryz.prog 53 #[.pointer (some ⟨bv, 0, none⟩), .slice (some ⟨w5.heap.size, 0, none⟩) 2 2] (w5.alloc (.cells #[.func fn4 #[] cp4, .func fn5 #[] cp5] 1)) fun e w' => e = .returned (.tuple #[]) ∧ ∃ g cap', Mk w' (V.bk i) (((V.B i).leave V.om t k).rest (againOm V i b q) t b g cap') (againOm V i b q) (fun x => ∃ id, V.oid id = some x) ∧ Noted bv bm bo V.lg V.lm [.left b, .now b (V.om b), .rested b (V.om b).place] w w' ∧ Chg (fun x => (x = V.bk i ∨ x = b ∨ SdB (V.B i) t x) ∨ ActF V.lm.av V.lm.ac x) w w' ∧ (adB ((V.B i).sl t) = some g ∨ w.heap.size ≤ g)) := by
    intro w3 lm3 w4 w5 fn4 cp4 fn5 cp5 g cap' m3 h3 f3 c3 kc3 k4 m4 m5 k5 hg
    have h4 := h3.keptT k4 (fun x h => by subst h; exact m3.typ (.inr (.inl ⟨id, hid⟩)))
    have h5 := h4.keptT k5 (fun x h => m4.typ (by
      rcases h with h | h | h
      · exact .inl h
      · exact .inr (.inl ⟨id, by rw [h]; exact hid⟩)
      · exact .inr (.inr ⟨t, t2, h⟩)))
    refine (note2A bv bm bo (V.lg.noted [.left b]) lm3 (.now b (V.om b)) (.rested b (V.om b).place) fn4 fn5 cp4 cp5 w5 h5 hna hna2 (by simp only [Lg.noted, List.length_append, List.length_cons, List.length_nil]; omega)).mono ?_
    rintro e w' ⟨rfl, lm', a1, a2, a3, -⟩
    rw [noted_noted] at a1
    have kc4 := kc3.trans (k4.mono (fun x h => .inl (.inr (.inl h))))
    have kc5 := kc4.trans (k5.mono (fun x h => by
      rcases h with h | h | h
      · exact .inl (.inl h)
      · exact .inl (.inr (.inl h))
      · exact .inl (.inr (.inr (sub x h)))))
    refine ⟨rfl, g, cap', m5.keptLog h5 (a3.mono (fun _ h => .inr (.inr (.inr (.inr h))))), ⟨lm', a1, fun x hx => ?_⟩, kc5.from (a3.mono (fun x h => (c3 x h).imp_left (fun h => .inr h))), hg.imp_right (fun h => Nat.le_trans kc4.size h)⟩
    rcases a2 x hx with h | h
    · exact f3 x h
    · exact .inr (Nat.le_trans kc5.size h)
  have HF' := hide hf
  have e0 : decide (0 < (V.om b).opn) = true := by simp [h0]
  have HE0 := hide e0
  have HR := hide hr
  have HKB := hide hkb
  rw [hkb] at HLe
  clear R hid hsym hside hf ho hs h0 e0 hr hnew hn hkb hinj sub
  go_enter Tryz.func75, Tryz.ntmps75
  go_wp2
  go_quiet (fail)
  have hq : Chg Non w (w.drewN nq) := (Chg.refl Non w).drewN _
  obtain ⟨w1, hw1⟩ : ∃ w1, w1 = w.drewN nq := ⟨_, rfl⟩
  rw [← hw1] at hq ⊢
  clear hw1 L1 L1d v0 o2
  go_wp2_with fail
  refine (rests_any b _ ix w1 (unhide HO w1 hq)).mono ?_
  rintro e w1' ⟨rfl, hww⟩
  rw [hww]
  clear hww w1'
  rw [unhide HR]
  have hoc := unhide HO _ hq
  have cc0 : w1.cell? ⟨b, 0, none⟩ = some (.int .i64 (V.om b).id) := hoc.cell 0
  have cc1 : w1.cell? ⟨b, 1, none⟩ = some (.int .i64 (V.om b).owner) := hoc.cell 1
  have cc2 : w1.cell? ⟨b, 2, none⟩ = some (.string (V.om b).sym) := hoc.cell 2
  have cc3 : w1.cell? ⟨b, 3, none⟩ = some (.int .i64 (V.om b).side) := hoc.cell 3
  have cc4 : w1.cell? ⟨b, 4, none⟩ = some (.int .i64 (V.om b).kind) := hoc.cell 4
  have cc5 : w1.cell? ⟨b, 5, none⟩ = some (.int .i64 (V.om b).price) := hoc.cell 5
  have cc6 : w1.cell? ⟨b, 6, none⟩ = some (.int .i64 (V.om b).qty) := hoc.cell 6
  clear hoc
  go_wp2_with fail
  refine (unhide HF _ hq).mono ?_
  rintro e w2 ⟨rfl, k2⟩
  rw [unhide HF']
  simp only [ptrO]
  have hq2 := hq.trans k2
  have o8 : w2.cell? ⟨b, 8, none⟩ = some (.int .i64 (V.om b).opn) := (unhide HO _ hq2).cell 8
  have e0 := unhide HE0
  clear cc0 cc1 cc2 cc3 cc4 cc5 cc6
  go_wp2_with fail
  refine (unhide HLe _ hq2).mono ?_
  rintro e w3 ⟨fn3, cp3, rfl, -, m3, k3⟩
  clear o8 e0
  go_wp2_with fail
  refine (unhide HN1 _ w3 fn3 cp3 hq2 k3 m3).mono ?_
  rintro e w3' ⟨rfl, m3', lm3, h3', f3', c3', kc3'⟩
  go_wp2_with fail
  refine (unhide HC _ m3').mono ?_
  rintro e w4 ⟨fn4, cp4, rfl, -, m4, k4⟩
  go_wp2_with fail
  refine (unhide HRest w4 m4).mono ?_
  rintro e w5 ⟨fn5, cp5, rfl, -, g, cap', m5, k5, hg⟩
  go_wp2_with fail
  refine (unhide HN2 w3' lm3 w4 w5 fn4 cp4 fn5 cp5 g cap' m3' h3' f3' c3' kc3' k4 m4 m5 k5 hg).mono ?_
  rintro e wz ⟨rfl, rz⟩
  go_wp2
  go_end0
  exact ⟨rfl, rz⟩

set_option maxHeartbeats 1000000 in
set_option maxRecDepth 100000 in
theorem bust_err (bv : Nat) (N E : Int) (again : Bool) (po : Option Addr) (w : World) (hE : E ≠ 0) (h : ∀ W, Chg Non w W → Calls Tryz.prog 71 #[.pointer (some ⟨bv, 0, none⟩), .int .i64 N] W fun e w' => e = .returned (.tuple #[.pointer po, .int .i64 E]) ∧ Chg Non W w') :
    Calls Tryz.prog 39 #[.pointer (some ⟨bv, 0, none⟩), .int .i64 N, .bool again] w fun e w' => e = .returned (.int .i64 E) ∧ Chg Non w w' := by
  have e0 : (E != 0) = true := by simp [hE]
  have k0 : Chg Non w (w.alloc (.cells #[.pointer (some ⟨bv, 0, none⟩)] 35)) := (Chg.refl Non w).alloc _
  have H := hide (h _ k0)
  clear hE h
  go_enter Tryz.func39, Tryz.ntmps39
  go_wp2_with fail
  refine (unhide H).mono ?_
  rintro e w1 ⟨rfl, k1⟩
  go_wp2
  go_ret
  exact ⟨rfl, (k0.trans k1).alloc _⟩

set_option maxHeartbeats 1000000 in
set_option maxRecDepth 100000 in
theorem correct_err (bv : Nat) (N E price : Int) (po : Option Addr) (w : World) (hE : E ≠ 0) (h : ∀ W, Chg Non w W → Calls Tryz.prog 71 #[.pointer (some ⟨bv, 0, none⟩), .int .i64 N] W fun e w' => e = .returned (.tuple #[.pointer po, .int .i64 E]) ∧ Chg Non W w') :
    Calls Tryz.prog 40 #[.pointer (some ⟨bv, 0, none⟩), .int .i64 N, .int .i64 price] w fun e w' => e = .returned (.int .i64 E) ∧ Chg Non w w' := by
  have e0 : (E != 0) = true := by simp [hE]
  have k0 : Chg Non w (w.alloc (.cells #[.pointer (some ⟨bv, 0, none⟩)] 35)) := (Chg.refl Non w).alloc _
  have H := hide (h _ k0)
  clear hE h
  go_enter Tryz.func40, Tryz.ntmps40
  go_wp2_with fail
  refine (unhide H).mono ?_
  rintro e w1 ⟨rfl, k1⟩
  go_wp2
  go_ret
  exact ⟨rfl, (k0.trans k1).alloc _⟩

end Go.Proofs.YtigaphnafnpfnaaGreatDoor

