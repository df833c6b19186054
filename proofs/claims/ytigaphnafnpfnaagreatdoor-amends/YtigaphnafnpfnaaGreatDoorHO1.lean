import Derived.Test.YtigaphnafnpfnaaGreatDoorHP6
import Derived.Deep.QuietTactic
import Derived.BigQuiet
import Derived.BigRegion
import Derived.Deep.RegionWith
/- player.order: the order of its operations -/
set_option linter.unusedVariables false
set_option linter.unusedSimpArgs false
namespace Go.Proofs.YtigaphnafnpfnaaGreatDoor
open Go.RowKit Go.Maps
attribute [local go_sem ↓] Go.wp_at_zero Go.wp_at_succ

theorem res53 (tmps : Array Value) (H : Nat) (w : World) (o : Ask) (ht : tmps.getD 4 undef = .pointer (some ⟨H, 0, none⟩)) (hb : Blk w H (askC o) 52) :
    (results Tryz.f63 tmps).run Tryz.prog w = .ok o.val w := by
  have c0 : w.cell? ⟨H, 0, none⟩ = some (.int .i64 o.id) := hb.cell 0
  have c1 : w.cell? ⟨H, 1, none⟩ = some (.int .i64 o.owner) := hb.cell 1
  have c2 : w.cell? ⟨H, 2, none⟩ = some (.string o.sym) := hb.cell 2
  have c3 : w.cell? ⟨H, 3, none⟩ = some (.int .i64 o.side) := hb.cell 3
  have c4 : w.cell? ⟨H, 4, none⟩ = some (.int .i64 o.kind) := hb.cell 4
  have c5 : w.cell? ⟨H, 5, none⟩ = some (.int .i64 o.price) := hb.cell 5
  have c6 : w.cell? ⟨H, 6, none⟩ = some (.int .i64 o.qty) := hb.cell 6
  simp only [Array.getD_eq_getD_getElem?] at ht
  simp [results, Tryz.results63, go_sem, ht, c0, c1, c2, c3, c4, c5, c6, Ask.val]

/-- what lies while the dice are rolled -/
structure Rolls (D : Nat) (ao : Option Addr) (len cap : Nat) (zs : Nat → Int) (base P bv n : Nat) (acts : Int) (w W : World) : Prop where
  dc : Dc D ao len cap zs base W
  ply : Blk W P #[.pointer (some ⟨bv, 0, none⟩), .int .i64 n, .int .i64 acts] 37
  res : Blk W w.heap.size #[.int .i64 0, .int .i64 0, .string ⟨#[]⟩, .int .i64 0, .int .i64 0, .int .i64 0, .int .i64 0] 52
  chg : Chg (fun x => x = D) w W
  cell : W.cell? ⟨P, 1, none⟩ = some (.int .i64 n)
  dw : D < w.heap.size

section
variable {D : Nat} {ao : Option Addr} {len cap : Nat} {zs : Nat → Int} {base P bv n : Nat} {acts : Int} {w W : World}
theorem Rolls.alloc (h : Rolls D ao len cap zs base P bv n acts w W) (o : Obj) : Rolls D ao len cap zs base P bv n acts w (W.alloc o) :=
  ⟨h.dc.keep0 ((Chg.refl Non W).alloc _), h.ply.alloc _, h.res.alloc _, h.chg.alloc _, (h.ply.alloc _).cell 1, h.dw⟩
theorem Rolls.drew (h : Rolls D ao len cap zs base P bv n acts w W) : Rolls D ao len cap zs base P bv n acts w W.drew :=
  ⟨h.dc.keep0 (Chg.refl Non W).drew, h.ply.drew, h.res.drew, h.chg.drew, h.cell, h.dw⟩
end

/-- the nine kinds lie here -/
structure NineAt (D : Nat) (W : World) (b : Nat) : Prop where
  cells : ∀ j, j < 9 → W.cell? ⟨b, j, none⟩ = some (.int .i64 (kindOf j))
  ne : b ≠ D
  lt : b < W.heap.size

theorem NineAt.new {D : Nat} {ao : Option Addr} {len cap : Nat} {zs : Nat → Int} {base P bv n : Nat} {acts : Int} {w W : World} (h : Rolls D ao len cap zs base P bv n acts w W) : NineAt D (W.alloc (.cells #[.int .i64 0, .int .i64 0, .int .i64 0, .int .i64 0, .int .i64 1, .int .i64 2, .int .i64 3, .int .i64 4, .int .i64 5] 3)) W.heap.size := by
  obtain ⟨a, ha, hb⟩ := h.dc.dice
  have := hb.lt
  exact ⟨fun j hj => (Blk.cell (Blk.new W _ _) j).trans (kinds9_at hj), by omega, (Blk.new W _ _).lt⟩
theorem NineAt.alloc {D : Nat} {W : World} {b : Nat} (h : NineAt D W b) (o : Obj) : NineAt D (W.alloc o) b :=
  ⟨fun j hj => ((Chg.refl Non W).alloc o).cell (h.cells j hj) (fun x => x), h.ne, by have := h.lt; simp; omega⟩
theorem NineAt.keep {D : Nat} {W w' : World} {b : Nat} (h : NineAt D W b) (k : Chg (fun x => x = D) W w') : NineAt D w' b :=
  ⟨fun j hj => k.cell (h.cells j hj) h.ne, h.ne, Nat.lt_of_lt_of_le h.lt k.size⟩

theorem size1 (W : World) (o : Obj) : (W.alloc o).heap.size = W.heap.size + 1 := by simp

theorem NineAt.new2 {D : Nat} {ao : Option Addr} {len cap : Nat} {zs : Nat → Int} {base P bv n : Nat} {acts : Int} {w W : World} (h : Rolls D ao len cap zs base P bv n acts w W) (o : Obj) : NineAt D ((W.alloc o).alloc (.cells #[.int .i64 0, .int .i64 0, .int .i64 0, .int .i64 0, .int .i64 1, .int .i64 2, .int .i64 3, .int .i64 4, .int .i64 5] 3)) (W.heap.size + 1) := by
  have := NineAt.new (h.alloc o)
  rw [size1] at this
  exact this

/-- the order's own block -/
structure SlotAt (D : Nat) (w W : World) (b : Nat) : Prop where
  blk : Blk W b #[.int .i64 0, .int .i64 0, .string ⟨#[]⟩, .int .i64 0, .int .i64 0, .int .i64 0, .int .i64 0] 52
  ne : b ≠ D
  new : w.heap.size < b

theorem SlotAt.make {D : Nat} {ao : Option Addr} {len cap : Nat} {zs : Nat → Int} {base P bv n : Nat} {acts : Int} {w W : World} (h : Rolls D ao len cap zs base P bv n acts w W) : SlotAt D w (W.alloc (.cells #[.int .i64 0, .int .i64 0, .string ⟨#[]⟩, .int .i64 0, .int .i64 0, .int .i64 0, .int .i64 0] 52)) W.heap.size := by
  obtain ⟨a, ha, hb⟩ := h.dc.dice
  have := hb.lt
  have := h.res.lt
  exact ⟨Blk.new W _ _, by omega, by omega⟩
theorem SlotAt.make2 {D : Nat} {ao : Option Addr} {len cap : Nat} {zs : Nat → Int} {base P bv n : Nat} {acts : Int} {w W : World} (h : Rolls D ao len cap zs base P bv n acts w W) (o : Obj) : SlotAt D w ((W.alloc o).alloc (.cells #[.int .i64 0, .int .i64 0, .string ⟨#[]⟩, .int .i64 0, .int .i64 0, .int .i64 0, .int .i64 0] 52)) (W.heap.size + 1) := by
  have := SlotAt.make (h.alloc o)
  rw [size1] at this
  exact this
theorem SlotAt.alloc {D : Nat} {w W : World} {b : Nat} (h : SlotAt D w W b) (o : Obj) : SlotAt D w (W.alloc o) b := ⟨h.blk.alloc _, h.ne, h.new⟩
theorem SlotAt.keep {D : Nat} {w W w' : World} {b : Nat} (h : SlotAt D w W b) (k : Chg (fun x => x = D) W w') : SlotAt D w w' b := ⟨k.blk h.blk h.ne, h.ne, h.new⟩
theorem SlotAt.cells {D : Nat} {w W : World} {b : Nat} (h : SlotAt D w W b) : (W.cell? ⟨b, 0, none⟩ = some (.int .i64 0) ∧ W.cell? ⟨b, 1, none⟩ = some (.int .i64 0) ∧ W.cell? ⟨b, 2, none⟩ = some (.string ⟨#[]⟩) ∧ W.cell? ⟨b, 3, none⟩ = some (.int .i64 0) ∧ W.cell? ⟨b, 4, none⟩ = some (.int .i64 0) ∧ W.cell? ⟨b, 5, none⟩ = some (.int .i64 0) ∧ W.cell? ⟨b, 6, none⟩ = some (.int .i64 0)) ∧
    (W.frozen? ⟨b, 0, none⟩ = false ∧ W.frozen? ⟨b, 1, none⟩ = false ∧ W.frozen? ⟨b, 2, none⟩ = false ∧ W.frozen? ⟨b, 3, none⟩ = false ∧ W.frozen? ⟨b, 4, none⟩ = false ∧ W.frozen? ⟨b, 5, none⟩ = false ∧ W.frozen? ⟨b, 6, none⟩ = false) ∧ b < W.heap.size :=
  ⟨⟨h.blk.cell 0, h.blk.cell 1, h.blk.cell 2, h.blk.cell 3, h.blk.cell 4, h.blk.cell 5, h.blk.cell 6⟩, ⟨h.blk.frozen 0, h.blk.frozen 1, h.blk.frozen 2, h.blk.frozen 3, h.blk.frozen 4, h.blk.frozen 5, h.blk.frozen 6⟩, h.blk.lt⟩

theorem roll_any (D : Nat) (ao : Option Addr) (len cap : Nat) (zs : Nat → Int) (base P bv n : Nat) (acts : Int) (w W : World) (m : Int) (h : Rolls D ao len cap zs base P bv n acts w W) (h1 : 0 < m) (h2 : m ≤ 1000000) :
    Calls Tryz.prog 35 #[.pointer (some ⟨D, 0, none⟩), .int .i64 m] W fun e w' => ∃ v : Nat, e = .returned (.int .i64 (v : Int)) ∧ (v : Int) < m ∧ Rolls D ao len cap zs base P bv n acts w w' ∧ Chg (fun x => x = D) W w' := by
  refine (next_dc D ao len cap zs base m W h.dc h1 h2).mono ?_
  rintro e w' ⟨v, rfl, hv, hd, k⟩
  obtain ⟨a, ha, hb⟩ := h.dc.dice
  have hp := k.blk h.ply (Blk.ne h.ply hb (by decide))
  exact ⟨v, rfl, hv, ⟨hd, hp, k.blk h.res (Blk.ne h.res hb (by decide)), h.chg.trans k, hp.cell 1, h.dw⟩, k⟩

noncomputable def ops53 : Array Oper := match Tryz.f63.body with | some (.seq _ (.seq (.region _ ops _) _)) => ops | _ => #[]
abbrev Z7 : Array Value := #[.int .i64 0, .int .i64 0, .string ⟨#[]⟩, .int .i64 0, .int .i64 0, .int .i64 0, .int .i64 0]

theorem Rolls.set {D : Nat} {ao : Option Addr} {len cap : Nat} {zs : Nat → Int} {base P bv n : Nat} {acts : Int} {w W : World} (h : Rolls D ao len cap zs base P bv n acts w W) {b : Nat} {c : Array Value} (hb : Blk W b c 52) (hbw : w.heap.size < b) (i : Nat) (u : Value) : Rolls D ao len cap zs base P bv n acts w (W.setCell ⟨b, i, none⟩ u) ∧ Blk (W.setCell ⟨b, i, none⟩ u) b (c.setIfInBounds i u) 52 := by
  obtain ⟨a, ha, hd⟩ := h.dc.dice
  have k : Chg (fun x => x = b) W (W.setCell ⟨b, i, none⟩ u) := (Chg.refl (fun x => x = b) W).setCell (p := ⟨b, i, none⟩) (.inl rfl) u
  have hp := k.blk h.ply (fun e => Blk.ne h.ply hb (by decide) e)
  refine ⟨⟨h.dc.keep k (fun e => Blk.ne hd hb (by decide) e) (fun x e => ?_), hp, k.blk h.res (by omega), h.chg.setCell (p := ⟨b, i, none⟩) (.inr (by show w.heap.size ≤ b; omega)) u, hp.cell 1, h.dw⟩, hb.set i u⟩
  have := h.dc.bD
  have := h.dw
  omega

theorem slot_set {D : Nat} {ao : Option Addr} {len cap : Nat} {zs : Nat → Int} {base P bv n : Nat} {acts : Int} {w W : World} {b : Nat} {a0 a1 a2 a3 a4 a5 a6 : Value} (h : Rolls D ao len cap zs base P bv n acts w W) (hO : SlotAt D w W b) :
    Rolls D ao len cap zs base P bv n acts w (((((((W.setCell ⟨b, 0, none⟩ a0).setCell ⟨b, 1, none⟩ a1).setCell ⟨b, 2, none⟩ a2).setCell ⟨b, 3, none⟩ a3).setCell ⟨b, 4, none⟩ a4).setCell ⟨b, 5, none⟩ a5).setCell ⟨b, 6, none⟩ a6) ∧ Blk (((((((W.setCell ⟨b, 0, none⟩ a0).setCell ⟨b, 1, none⟩ a1).setCell ⟨b, 2, none⟩ a2).setCell ⟨b, 3, none⟩ a3).setCell ⟨b, 4, none⟩ a4).setCell ⟨b, 5, none⟩ a5).setCell ⟨b, 6, none⟩ a6) b #[a0, a1, a2, a3, a4, a5, a6] 52 := by
  obtain ⟨r0, b0⟩ := h.set hO.blk hO.new 0 a0
  obtain ⟨r1, b1⟩ := r0.set b0 hO.new 1 a1
  obtain ⟨r2, b2⟩ := r1.set b1 hO.new 2 a2
  obtain ⟨r3, b3⟩ := r2.set b2 hO.new 3 a3
  obtain ⟨r4, b4⟩ := r3.set b3 hO.new 4 a4
  obtain ⟨r5, b5⟩ := r4.set b4 hO.new 5 a5
  obtain ⟨r6, b6⟩ := r5.set b5 hO.new 6 a6
  exact ⟨r6, b6⟩

def FinOK (D : Nat) (ao : Option Addr) (len cap : Nat) (zs : Nat → Int) (base P bv n : Nat) (acts : Int) (w : World) (Q : Exit → Act → World → Prop) : Prop :=
  (∀ (v1 v2 v3 v4 v5 Bs Bo : Nat) (W : World), (v1 : Int) < 4 → (v2 : Int) < 2 → (v3 : Int) < 9 → (v4 : Int) < 10 → (v5 : Int) < 9 → Rolls D ao len cap zs base P bv n acts w W → Bo ≠ D → w.heap.size < Bo →
    Blk W Bo #[.int .i64 (IntKind.i64.wrap ((n : Int) + 1)), .int .i64 (v1 : Int), .string ⟨#[65]⟩, .int .i64 (v2 : Int), .int .i64 (kindOf v3), .int .i64 (IntKind.i64.wrap (95 + (v4 : Int))), .int .i64 (IntKind.i64.wrap (1 + (v5 : Int)))] 52 →
    Q .normal ⟨((.pointer (some ⟨P, 0, none⟩)) :: (.pointer (some ⟨D, 0, none⟩)) :: (undef) :: (undef) :: (.pointer (some ⟨w.heap.size, 0, none⟩)) :: (.pointer (some ⟨Bo, 0, none⟩)) :: (.pointer (some ⟨P, 0, none⟩)) :: (.pointer (some ⟨P, 0, none⟩)) :: (.pointer (some ⟨P, 1, none⟩)) :: (.int .i64 (n : Int)) :: (.int .i64 (IntKind.i64.wrap ((n : Int) + 1))) :: (.pointer (some ⟨D, 0, none⟩)) :: (.int .i64 (v1 : Int)) :: (.pointer (some ⟨D, 0, none⟩)) :: (.int .i64 (v2 : Int)) :: (.slice (some ⟨Bs, 0, none⟩) 9 9) :: (.pointer (some ⟨D, 0, none⟩)) :: (.int .i64 (v3 : Int)) :: (.pointer (some ⟨Bs, v3, none⟩)) :: (.int .i64 (kindOf v3)) :: (.pointer (some ⟨D, 0, none⟩)) :: (.int .i64 (v4 : Int)) :: (.int .i64 (IntKind.i64.wrap (95 + (v4 : Int)))) :: (.pointer (some ⟨D, 0, none⟩)) :: (.int .i64 (v5 : Int)) :: (.int .i64 (IntKind.i64.wrap (1 + (v5 : Int)))) :: (.agg #[.int .i64 (IntKind.i64.wrap ((n : Int) + 1)), .int .i64 (v1 : Int), .string ⟨#[65]⟩, .int .i64 (v2 : Int), .int .i64 (kindOf v3), .int .i64 (IntKind.i64.wrap (95 + (v4 : Int))), .int .i64 (IntKind.i64.wrap (1 + (v5 : Int)))]) :: (undef) :: (undef) :: (undef) :: (undef) :: (undef) :: (undef) :: (undef) :: (undef) :: (undef) :: []).toArray, []⟩ W) ∧ ∀ x (a : Act) d v W, Q (.panic x) (a.put d v) W → Q (.panic x) a W

end Go.Proofs.YtigaphnafnpfnaaGreatDoor

/- player.order: every order of its operations -/
set_option linter.unusedVariables false
set_option linter.unusedSimpArgs false
namespace Go.Proofs.YtigaphnafnpfnaaGreatDoor
open Go.RowKit Go.Maps
attribute [local go_sem ↓] Go.wp_at_zero Go.wp_at_succ

set_option maxRecDepth 100000
set_option maxHeartbeats 4000000
theorem st_51111 (D : Nat) (ao : Option Addr) (len cap : Nat) (zs : Nat → Int) (base P bv n : Nat) (acts : Int) (w : World) (Q : Exit → Act → World → Prop) (HQ : FinOK D ao len cap zs base P bv n acts w Q) (v1 v2 v3 v4 v5 : Nat) (Bs : Nat) (Bo : Nat) (W : World) (hR : Rolls D ao len cap zs base P bv n acts w W) (hv1 : (v1 : Int) < 4) (hv2 : (v2 : Int) < 2) (hv3 : (v3 : Int) < 9) (hv4 : (v4 : Int) < 10) (hv5 : (v5 : Int) < 9) (hN : NineAt D W Bs) (hO : SlotAt D w W Bo) :
    wpAny Tryz.prog .any ops53 Q 1 #[true, true, true, true, true, true, true, true, true, true, true, true, true, true, true, true, true, true, true, true, true, true, false] ⟨((.pointer (some ⟨P, 0, none⟩)) :: (.pointer (some ⟨D, 0, none⟩)) :: (undef) :: (undef) :: (.pointer (some ⟨w.heap.size, 0, none⟩)) :: (.pointer (some ⟨Bo, 0, none⟩)) :: (.pointer (some ⟨P, 0, none⟩)) :: (.pointer (some ⟨P, 0, none⟩)) :: (.pointer (some ⟨P, 1, none⟩)) :: (.int .i64 (n : Int)) :: (.int .i64 (IntKind.i64.wrap ((n : Int) + 1))) :: (.pointer (some ⟨D, 0, none⟩)) :: (.int .i64 (v1 : Int)) :: (.pointer (some ⟨D, 0, none⟩)) :: (.int .i64 (v2 : Int)) :: (.slice (some ⟨Bs, 0, none⟩) 9 9) :: (.pointer (some ⟨D, 0, none⟩)) :: (.int .i64 (v3 : Int)) :: (.pointer (some ⟨Bs, v3, none⟩)) :: (.int .i64 (kindOf v3)) :: (.pointer (some ⟨D, 0, none⟩)) :: (.int .i64 (v4 : Int)) :: (.int .i64 (IntKind.i64.wrap (95 + (v4 : Int)))) :: (.pointer (some ⟨D, 0, none⟩)) :: (.int .i64 (v5 : Int)) :: (.int .i64 (IntKind.i64.wrap (1 + (v5 : Int)))) :: (.agg #[.int .i64 (IntKind.i64.wrap ((n : Int) + 1)), .int .i64 (v1 : Int), .string ⟨#[65]⟩, .int .i64 (v2 : Int), .int .i64 (kindOf v3), .int .i64 (IntKind.i64.wrap (95 + (v4 : Int))), .int .i64 (IntKind.i64.wrap (1 + (v5 : Int)))]) :: (undef) :: (undef) :: (undef) :: (undef) :: (undef) :: (undef) :: (undef) :: (undef) :: (undef) :: []).toArray, []⟩ W := by
  have hcell := hR.cell
  have hlt := hR.ply.lt
  have hcv := hN.cells v3 (by omega)
  have hNl := hN.lt
  have hv3n : v3 < 9 := by omega
  refine wpAny_ready (rs := [22]) (by kernel_rfl) (by simp) ?_
  refine AllReady.cons rfl (fun K hK => ?_) ?_
  · obtain ⟨⟨q0, q1, q2, q3, q4, q5, q6⟩, ⟨g0, g1, g2, g3, g4, g5, g6⟩, ql⟩ := hO.cells
    simp only [ops53, Tryz.f63]
    go_simp
    refine hK _ _ ?_
    refine wpAny_done (by kernel_rfl) ?_ _
    exact HQ.1 v1 v2 v3 v4 v5 Bs Bo _ hv1 hv2 hv3 hv4 hv5 (slot_set hR hO).1 hO.ne hO.new (slot_set hR hO).2
  exact AllReady.nil

theorem st_51101 (D : Nat) (ao : Option Addr) (len cap : Nat) (zs : Nat → Int) (base P bv n : Nat) (acts : Int) (w : World) (Q : Exit → Act → World → Prop) (HQ : FinOK D ao len cap zs base P bv n acts w Q) (v1 v2 v3 v4 v5 : Nat) (Bs : Nat) (W : World) (hR : Rolls D ao len cap zs base P bv n acts w W) (hv1 : (v1 : Int) < 4) (hv2 : (v2 : Int) < 2) (hv3 : (v3 : Int) < 9) (hv4 : (v4 : Int) < 10) (hv5 : (v5 : Int) < 9) (hN : NineAt D W Bs) :
    wpAny Tryz.prog .any ops53 Q 2 #[true, true, true, true, true, true, true, true, true, true, true, true, true, true, true, true, true, true, true, true, true, false, false] ⟨((.pointer (some ⟨P, 0, none⟩)) :: (.pointer (some ⟨D, 0, none⟩)) :: (undef) :: (undef) :: (.pointer (some ⟨w.heap.size, 0, none⟩)) :: (undef) :: (.pointer (some ⟨P, 0, none⟩)) :: (.pointer (some ⟨P, 0, none⟩)) :: (.pointer (some ⟨P, 1, none⟩)) :: (.int .i64 (n : Int)) :: (.int .i64 (IntKind.i64.wrap ((n : Int) + 1))) :: (.pointer (some ⟨D, 0, none⟩)) :: (.int .i64 (v1 : Int)) :: (.pointer (some ⟨D, 0, none⟩)) :: (.int .i64 (v2 : Int)) :: (.slice (some ⟨Bs, 0, none⟩) 9 9) :: (.pointer (some ⟨D, 0, none⟩)) :: (.int .i64 (v3 : Int)) :: (.pointer (some ⟨Bs, v3, none⟩)) :: (.int .i64 (kindOf v3)) :: (.pointer (some ⟨D, 0, none⟩)) :: (.int .i64 (v4 : Int)) :: (.int .i64 (IntKind.i64.wrap (95 + (v4 : Int)))) :: (.pointer (some ⟨D, 0, none⟩)) :: (.int .i64 (v5 : Int)) :: (.int .i64 (IntKind.i64.wrap (1 + (v5 : Int)))) :: (.agg #[.int .i64 (IntKind.i64.wrap ((n : Int) + 1)), .int .i64 (v1 : Int), .string ⟨#[65]⟩, .int .i64 (v2 : Int), .int .i64 (kindOf v3), .int .i64 (IntKind.i64.wrap (95 + (v4 : Int))), .int .i64 (IntKind.i64.wrap (1 + (v5 : Int)))]) :: (undef) :: (undef) :: (undef) :: (undef) :: (undef) :: (undef) :: (undef) :: (undef) :: (undef) :: []).toArray, []⟩ W := by
  have hcell := hR.cell
  have hlt := hR.ply.lt
  have hcv := hN.cells v3 (by omega)
  have hNl := hN.lt
  have hv3n : v3 < 9 := by omega
  refine wpAny_ready (rs := [21]) (by kernel_rfl) (by simp) ?_
  refine AllReady.cons rfl (fun K hK => ?_) ?_
  · simp only [ops53, Tryz.f63]
    go_simp
    refine hK _ _ ?_
    exact st_51111 D ao len cap zs base P bv n acts w Q HQ v1 v2 v3 v4 v5 Bs _ _ (hR.alloc _) hv1 hv2 hv3 hv4 hv5 (hN.alloc _) (SlotAt.make hR)
  exact AllReady.nil

theorem st_51110 (D : Nat) (ao : Option Addr) (len cap : Nat) (zs : Nat → Int) (base P bv n : Nat) (acts : Int) (w : World) (Q : Exit → Act → World → Prop) (HQ : FinOK D ao len cap zs base P bv n acts w Q) (v1 v2 v3 v4 v5 : Nat) (Bs : Nat) (Bo : Nat) (W : World) (hR : Rolls D ao len cap zs base P bv n acts w W) (hv1 : (v1 : Int) < 4) (hv2 : (v2 : Int) < 2) (hv3 : (v3 : Int) < 9) (hv4 : (v4 : Int) < 10) (hv5 : (v5 : Int) < 9) (hN : NineAt D W Bs) (hO : SlotAt D w W Bo) :
    wpAny Tryz.prog .any ops53 Q 3 #[true, true, true, true, true, true, true, true, true, true, true, true, true, false, true, true, true, true, true, true, false, true, false] ⟨((.pointer (some ⟨P, 0, none⟩)) :: (.pointer (some ⟨D, 0, none⟩)) :: (undef) :: (undef) :: (.pointer (some ⟨w.heap.size, 0, none⟩)) :: (.pointer (some ⟨Bo, 0, none⟩)) :: (.pointer (some ⟨P, 0, none⟩)) :: (.pointer (some ⟨P, 0, none⟩)) :: (.pointer (some ⟨P, 1, none⟩)) :: (.int .i64 (n : Int)) :: (.int .i64 (IntKind.i64.wrap ((n : Int) + 1))) :: (.pointer (some ⟨D, 0, none⟩)) :: (.int .i64 (v1 : Int)) :: (.pointer (some ⟨D, 0, none⟩)) :: (.int .i64 (v2 : Int)) :: (.slice (some ⟨Bs, 0, none⟩) 9 9) :: (.pointer (some ⟨D, 0, none⟩)) :: (.int .i64 (v3 : Int)) :: (.pointer (some ⟨Bs, v3, none⟩)) :: (undef) :: (.pointer (some ⟨D, 0, none⟩)) :: (.int .i64 (v4 : Int)) :: (.int .i64 (IntKind.i64.wrap (95 + (v4 : Int)))) :: (.pointer (some ⟨D, 0, none⟩)) :: (.int .i64 (v5 : Int)) :: (.int .i64 (IntKind.i64.wrap (1 + (v5 : Int)))) :: (undef) :: (undef) :: (undef) :: (undef) :: (undef) :: (undef) :: (undef) :: (undef) :: (undef) :: (undef) :: []).toArray, []⟩ W := by
  have hcell := hR.cell
  have hlt := hR.ply.lt
  have hcv := hN.cells v3 (by omega)
  have hNl := hN.lt
  have hv3n : v3 < 9 := by omega
  refine wpAny_ready (rs := [13]) (by kernel_rfl) (by simp) ?_
  refine AllReady.cons rfl (fun K hK => ?_) ?_
  · simp only [ops53, Tryz.f63]
    go_simp
    refine hK _ _ ?_
    refine wpAny_take (i := 20) (v := .agg #[.int .i64 (IntKind.i64.wrap ((n : Int) + 1)), .int .i64 (v1 : Int), .string ⟨#[65]⟩, .int .i64 (v2 : Int), .int .i64 (kindOf v3), .int .i64 (IntKind.i64.wrap (95 + (v4 : Int))), .int .i64 (IntKind.i64.wrap (1 + (v5 : Int)))]) rfl (by kernel_rfl) (by kernel_rfl) (by kernel_rfl) (fun _ _ _ h => HQ.2 _ _ _ _ _ h) (Or.inl ⟨by rfl, fun w => by simp only [ops53, Tryz.f63]; go_simp⟩) ?_
    exact st_51111 D ao len cap zs base P bv n acts w Q HQ v1 v2 v3 v4 v5 Bs Bo _ hR hv1 hv2 hv3 hv4 hv5 hN hO
  exact AllReady.nil

theorem st_51100 (D : Nat) (ao : Option Addr) (len cap : Nat) (zs : Nat → Int) (base P bv n : Nat) (acts : Int) (w : World) (Q : Exit → Act → World → Prop) (HQ : FinOK D ao len cap zs base P bv n acts w Q) (v1 v2 v3 v4 v5 : Nat) (Bs : Nat) (W : World) (hR : Rolls D ao len cap zs base P bv n acts w W) (hv1 : (v1 : Int) < 4) (hv2 : (v2 : Int) < 2) (hv3 : (v3 : Int) < 9) (hv4 : (v4 : Int) < 10) (hv5 : (v5 : Int) < 9) (hN : NineAt D W Bs) :
    wpAny Tryz.prog .any ops53 Q 4 #[true, true, true, true, true, true, true, true, true, true, true, true, true, false, true, true, true, true, true, true, false, false, false] ⟨((.pointer (some ⟨P, 0, none⟩)) :: (.pointer (some ⟨D, 0, none⟩)) :: (undef) :: (undef) :: (.pointer (some ⟨w.heap.size, 0, none⟩)) :: (undef) :: (.pointer (some ⟨P, 0, none⟩)) :: (.pointer (some ⟨P, 0, none⟩)) :: (.pointer (some ⟨P, 1, none⟩)) :: (.int .i64 (n : Int)) :: (.int .i64 (IntKind.i64.wrap ((n : Int) + 1))) :: (.pointer (some ⟨D, 0, none⟩)) :: (.int .i64 (v1 : Int)) :: (.pointer (some ⟨D, 0, none⟩)) :: (.int .i64 (v2 : Int)) :: (.slice (some ⟨Bs, 0, none⟩) 9 9) :: (.pointer (some ⟨D, 0, none⟩)) :: (.int .i64 (v3 : Int)) :: (.pointer (some ⟨Bs, v3, none⟩)) :: (undef) :: (.pointer (some ⟨D, 0, none⟩)) :: (.int .i64 (v4 : Int)) :: (.int .i64 (IntKind.i64.wrap (95 + (v4 : Int)))) :: (.pointer (some ⟨D, 0, none⟩)) :: (.int .i64 (v5 : Int)) :: (.int .i64 (IntKind.i64.wrap (1 + (v5 : Int)))) :: (undef) :: (undef) :: (undef) :: (undef) :: (undef) :: (undef) :: (undef) :: (undef) :: (undef) :: (undef) :: []).toArray, []⟩ W := by
  have hcell := hR.cell
  have hlt := hR.ply.lt
  have hcv := hN.cells v3 (by omega)
  have hNl := hN.lt
  have hv3n : v3 < 9 := by omega
  refine wpAny_ready (rs := [13, 21]) (by kernel_rfl) (by simp) ?_
  refine AllReady.cons rfl (fun K hK => ?_) ?_
  · simp only [ops53, Tryz.f63]
    go_simp
    refine hK _ _ ?_
    refine wpAny_take (i := 20) (v := .agg #[.int .i64 (IntKind.i64.wrap ((n : Int) + 1)), .int .i64 (v1 : Int), .string ⟨#[65]⟩, .int .i64 (v2 : Int), .int .i64 (kindOf v3), .int .i64 (IntKind.i64.wrap (95 + (v4 : Int))), .int .i64 (IntKind.i64.wrap (1 + (v5 : Int)))]) rfl (by kernel_rfl) (by kernel_rfl) (by kernel_rfl) (fun _ _ _ h => HQ.2 _ _ _ _ _ h) (Or.inl ⟨by rfl, fun w => by simp only [ops53, Tryz.f63]; go_simp⟩) ?_
    exact st_51101 D ao len cap zs base P bv n acts w Q HQ v1 v2 v3 v4 v5 Bs _ hR hv1 hv2 hv3 hv4 hv5 hN
  refine AllReady.cons rfl (fun K hK => ?_) ?_
  · simp only [ops53, Tryz.f63]
    go_simp
    refine hK _ _ ?_
    exact st_51110 D ao len cap zs base P bv n acts w Q HQ v1 v2 v3 v4 v5 Bs _ _ (hR.alloc _) hv1 hv2 hv3 hv4 hv5 (hN.alloc _) (SlotAt.make hR)
  exact AllReady.nil

theorem st_50111 (D : Nat) (ao : Option Addr) (len cap : Nat) (zs : Nat → Int) (base P bv n : Nat) (acts : Int) (w : World) (Q : Exit → Act → World → Prop) (HQ : FinOK D ao len cap zs base P bv n acts w Q) (v1 v2 v3 v4 v5 : Nat) (Bs : Nat) (Bo : Nat) (W : World) (hR : Rolls D ao len cap zs base P bv n acts w W) (hv1 : (v1 : Int) < 4) (hv2 : (v2 : Int) < 2) (hv3 : (v3 : Int) < 9) (hv4 : (v4 : Int) < 10) (hv5 : (v5 : Int) < 9) (hN : NineAt D W Bs) (hO : SlotAt D w W Bo) :
    wpAny Tryz.prog .any ops53 Q 4 #[true, true, true, false, false, true, true, true, true, true, true, true, true, true, true, true, true, true, true, true, false, true, false] ⟨((.pointer (some ⟨P, 0, none⟩)) :: (.pointer (some ⟨D, 0, none⟩)) :: (undef) :: (undef) :: (.pointer (some ⟨w.heap.size, 0, none⟩)) :: (.pointer (some ⟨Bo, 0, none⟩)) :: (.pointer (some ⟨P, 0, none⟩)) :: (.pointer (some ⟨P, 0, none⟩)) :: (.pointer (some ⟨P, 1, none⟩)) :: (undef) :: (undef) :: (.pointer (some ⟨D, 0, none⟩)) :: (.int .i64 (v1 : Int)) :: (.pointer (some ⟨D, 0, none⟩)) :: (.int .i64 (v2 : Int)) :: (.slice (some ⟨Bs, 0, none⟩) 9 9) :: (.pointer (some ⟨D, 0, none⟩)) :: (.int .i64 (v3 : Int)) :: (.pointer (some ⟨Bs, v3, none⟩)) :: (.int .i64 (kindOf v3)) :: (.pointer (some ⟨D, 0, none⟩)) :: (.int .i64 (v4 : Int)) :: (.int .i64 (IntKind.i64.wrap (95 + (v4 : Int)))) :: (.pointer (some ⟨D, 0, none⟩)) :: (.int .i64 (v5 : Int)) :: (.int .i64 (IntKind.i64.wrap (1 + (v5 : Int)))) :: (undef) :: (undef) :: (undef) :: (undef) :: (undef) :: (undef) :: (undef) :: (undef) :: (undef) :: (undef) :: []).toArray, []⟩ W := by
  have hcell := hR.cell
  have hlt := hR.ply.lt
  have hcv := hN.cells v3 (by omega)
  have hNl := hN.lt
  have hv3n : v3 < 9 := by omega
  refine wpAny_ready (rs := [3]) (by kernel_rfl) (by simp) ?_
  refine AllReady.cons rfl (fun K hK => ?_) ?_
  · simp only [ops53, Tryz.f63]
    go_simp
    refine hK _ _ ?_
    refine wpAny_take (i := 4) (v := .int .i64 (IntKind.i64.wrap ((n : Int) + 1))) rfl (by kernel_rfl) (by kernel_rfl) (by kernel_rfl) (fun _ _ _ h => HQ.2 _ _ _ _ _ h) (Or.inl ⟨by rfl, fun w => by simp only [ops53, Tryz.f63]; go_simp⟩) ?_
    refine wpAny_take (i := 20) (v := .agg #[.int .i64 (IntKind.i64.wrap ((n : Int) + 1)), .int .i64 (v1 : Int), .string ⟨#[65]⟩, .int .i64 (v2 : Int), .int .i64 (kindOf v3), .int .i64 (IntKind.i64.wrap (95 + (v4 : Int))), .int .i64 (IntKind.i64.wrap (1 + (v5 : Int)))]) rfl (by kernel_rfl) (by kernel_rfl) (by kernel_rfl) (fun _ _ _ h => HQ.2 _ _ _ _ _ h) (Or.inl ⟨by rfl, fun w => by simp only [ops53, Tryz.f63]; go_simp⟩) ?_
    exact st_51111 D ao len cap zs base P bv n acts w Q HQ v1 v2 v3 v4 v5 Bs Bo _ hR hv1 hv2 hv3 hv4 hv5 hN hO
  exact AllReady.nil

theorem st_41111 (D : Nat) (ao : Option Addr) (len cap : Nat) (zs : Nat → Int) (base P bv n : Nat) (acts : Int) (w : World) (Q : Exit → Act → World → Prop) (HQ : FinOK D ao len cap zs base P bv n acts w Q) (v1 v2 v3 v4 : Nat) (Bs : Nat) (Bo : Nat) (W : World) (hR : Rolls D ao len cap zs base P bv n acts w W) (hv1 : (v1 : Int) < 4) (hv2 : (v2 : Int) < 2) (hv3 : (v3 : Int) < 9) (hv4 : (v4 : Int) < 10) (hN : NineAt D W Bs) (hO : SlotAt D w W Bo) :
    wpAny Tryz.prog .any ops53 Q 4 #[true, true, true, true, true, true, true, true, true, true, true, true, true, true, true, true, true, true, false, false, false, true, false] ⟨((.pointer (some ⟨P, 0, none⟩)) :: (.pointer (some ⟨D, 0, none⟩)) :: (undef) :: (undef) :: (.pointer (some ⟨w.heap.size, 0, none⟩)) :: (.pointer (some ⟨Bo, 0, none⟩)) :: (.pointer (some ⟨P, 0, none⟩)) :: (.pointer (some ⟨P, 0, none⟩)) :: (.pointer (some ⟨P, 1, none⟩)) :: (.int .i64 (n : Int)) :: (.int .i64 (IntKind.i64.wrap ((n : Int) + 1))) :: (.pointer (some ⟨D, 0, none⟩)) :: (.int .i64 (v1 : Int)) :: (.pointer (some ⟨D, 0, none⟩)) :: (.int .i64 (v2 : Int)) :: (.slice (some ⟨Bs, 0, none⟩) 9 9) :: (.pointer (some ⟨D, 0, none⟩)) :: (.int .i64 (v3 : Int)) :: (.pointer (some ⟨Bs, v3, none⟩)) :: (.int .i64 (kindOf v3)) :: (.pointer (some ⟨D, 0, none⟩)) :: (.int .i64 (v4 : Int)) :: (.int .i64 (IntKind.i64.wrap (95 + (v4 : Int)))) :: (.pointer (some ⟨D, 0, none⟩)) :: (undef) :: (undef) :: (undef) :: (undef) :: (undef) :: (undef) :: (undef) :: (undef) :: (undef) :: (undef) :: (undef) :: (undef) :: []).toArray, []⟩ W := by
  have hcell := hR.cell
  have hlt := hR.ply.lt
  have hcv := hN.cells v3 (by omega)
  have hNl := hN.lt
  have hv3n : v3 < 9 := by omega
  refine wpAny_ready (rs := [18]) (by kernel_rfl) (by simp) ?_
  refine AllReady.cons rfl (fun K hK => ?_) ?_
  · simp only [ops53, Tryz.f63]
    go_wp2_with (go_at_call 35; refine (roll_any D ao len cap zs base P bv n acts w W _ hR (by decide) (by decide)).mono ?_; rintro e w' ⟨v5, rfl, hv5, hr, hk⟩)
    refine wpAny_take (i := 19) (v := .int .i64 (IntKind.i64.wrap (1 + (v5 : Int)))) rfl (by kernel_rfl) (by kernel_rfl) (by kernel_rfl) (fun _ _ _ h => HQ.2 _ _ _ _ _ h) (Or.inl ⟨by rfl, fun w => by simp only [ops53, Tryz.f63]; go_simp⟩) ?_
    refine wpAny_take (i := 20) (v := .agg #[.int .i64 (IntKind.i64.wrap ((n : Int) + 1)), .int .i64 (v1 : Int), .string ⟨#[65]⟩, .int .i64 (v2 : Int), .int .i64 (kindOf v3), .int .i64 (IntKind.i64.wrap (95 + (v4 : Int))), .int .i64 (IntKind.i64.wrap (1 + (v5 : Int)))]) rfl (by kernel_rfl) (by kernel_rfl) (by kernel_rfl) (fun _ _ _ h => HQ.2 _ _ _ _ _ h) (Or.inl ⟨by rfl, fun w => by simp only [ops53, Tryz.f63]; go_simp⟩) ?_
    exact st_51111 D ao len cap zs base P bv n acts w Q HQ v1 v2 v3 v4 v5 Bs Bo w' hr hv1 hv2 hv3 hv4 hv5 (hN.keep hk) (hO.keep hk)
  exact AllReady.nil

theorem st_51010 (D : Nat) (ao : Option Addr) (len cap : Nat) (zs : Nat → Int) (base P bv n : Nat) (acts : Int) (w : World) (Q : Exit → Act → World → Prop) (HQ : FinOK D ao len cap zs base P bv n acts w Q) (v1 v2 v3 v4 v5 : Nat) (Bo : Nat) (W : World) (hR : Rolls D ao len cap zs base P bv n acts w W) (hv1 : (v1 : Int) < 4) (hv2 : (v2 : Int) < 2) (hv3 : (v3 : Int) < 9) (hv4 : (v4 : Int) < 10) (hv5 : (v5 : Int) < 9) (hO : SlotAt D w W Bo) :
    wpAny Tryz.prog .any ops53 Q 5 #[true, true, true, true, true, true, true, true, true, false, true, true, false, false, true, true, true, true, true, true, false, true, false] ⟨((.pointer (some ⟨P, 0, none⟩)) :: (.pointer (some ⟨D, 0, none⟩)) :: (undef) :: (undef) :: (.pointer (some ⟨w.heap.size, 0, none⟩)) :: (.pointer (some ⟨Bo, 0, none⟩)) :: (.pointer (some ⟨P, 0, none⟩)) :: (.pointer (some ⟨P, 0, none⟩)) :: (.pointer (some ⟨P, 1, none⟩)) :: (.int .i64 (n : Int)) :: (.int .i64 (IntKind.i64.wrap ((n : Int) + 1))) :: (.pointer (some ⟨D, 0, none⟩)) :: (.int .i64 (v1 : Int)) :: (.pointer (some ⟨D, 0, none⟩)) :: (.int .i64 (v2 : Int)) :: (undef) :: (.pointer (some ⟨D, 0, none⟩)) :: (.int .i64 (v3 : Int)) :: (undef) :: (undef) :: (.pointer (some ⟨D, 0, none⟩)) :: (.int .i64 (v4 : Int)) :: (.int .i64 (IntKind.i64.wrap (95 + (v4 : Int)))) :: (.pointer (some ⟨D, 0, none⟩)) :: (.int .i64 (v5 : Int)) :: (.int .i64 (IntKind.i64.wrap (1 + (v5 : Int)))) :: (undef) :: (undef) :: (undef) :: (undef) :: (undef) :: (undef) :: (undef) :: (undef) :: (undef) :: (undef) :: []).toArray, []⟩ W := by
  have hcell := hR.cell
  have hlt := hR.ply.lt
  refine wpAny_ready (rs := [9]) (by kernel_rfl) (by simp) ?_
  refine AllReady.cons rfl (fun K hK => ?_) ?_
  · simp only [ops53, Tryz.f63]
    go_simp
    refine hK _ _ ?_
    have hv3n : v3 < 9 := by omega
    refine wpAny_take (i := 12) (v := .pointer (some ⟨W.heap.size, v3, none⟩)) rfl (by kernel_rfl) (by kernel_rfl) (by kernel_rfl) (fun _ _ _ h => HQ.2 _ _ _ _ _ h) (Or.inl ⟨by rfl, fun w => by simp only [ops53, Tryz.f63]; go_simp⟩) ?_
    exact st_51110 D ao len cap zs base P bv n acts w Q HQ v1 v2 v3 v4 v5 _ Bo _ (hR.alloc _) hv1 hv2 hv3 hv4 hv5 (NineAt.new hR) (hO.alloc _)
  exact AllReady.nil

theorem st_50110 (D : Nat) (ao : Option Addr) (len cap : Nat) (zs : Nat → Int) (base P bv n : Nat) (acts : Int) (w : World) (Q : Exit → Act → World → Prop) (HQ : FinOK D ao len cap zs base P bv n acts w Q) (v1 v2 v3 v4 v5 : Nat) (Bs : Nat) (Bo : Nat) (W : World) (hR : Rolls D ao len cap zs base P bv n acts w W) (hv1 : (v1 : Int) < 4) (hv2 : (v2 : Int) < 2) (hv3 : (v3 : Int) < 9) (hv4 : (v4 : Int) < 10) (hv5 : (v5 : Int) < 9) (hN : NineAt D W Bs) (hO : SlotAt D w W Bo) :
    wpAny Tryz.prog .any ops53 Q 5 #[true, true, true, false, false, true, true, true, true, true, true, true, true, false, true, true, true, true, true, true, false, true, false] ⟨((.pointer (some ⟨P, 0, none⟩)) :: (.pointer (some ⟨D, 0, none⟩)) :: (undef) :: (undef) :: (.pointer (some ⟨w.heap.size, 0, none⟩)) :: (.pointer (some ⟨Bo, 0, none⟩)) :: (.pointer (some ⟨P, 0, none⟩)) :: (.pointer (some ⟨P, 0, none⟩)) :: (.pointer (some ⟨P, 1, none⟩)) :: (undef) :: (undef) :: (.pointer (some ⟨D, 0, none⟩)) :: (.int .i64 (v1 : Int)) :: (.pointer (some ⟨D, 0, none⟩)) :: (.int .i64 (v2 : Int)) :: (.slice (some ⟨Bs, 0, none⟩) 9 9) :: (.pointer (some ⟨D, 0, none⟩)) :: (.int .i64 (v3 : Int)) :: (.pointer (some ⟨Bs, v3, none⟩)) :: (undef) :: (.pointer (some ⟨D, 0, none⟩)) :: (.int .i64 (v4 : Int)) :: (.int .i64 (IntKind.i64.wrap (95 + (v4 : Int)))) :: (.pointer (some ⟨D, 0, none⟩)) :: (.int .i64 (v5 : Int)) :: (.int .i64 (IntKind.i64.wrap (1 + (v5 : Int)))) :: (undef) :: (undef) :: (undef) :: (undef) :: (undef) :: (undef) :: (undef) :: (undef) :: (undef) :: (undef) :: []).toArray, []⟩ W := by
  have hcell := hR.cell
  have hlt := hR.ply.lt
  have hcv := hN.cells v3 (by omega)
  have hNl := hN.lt
  have hv3n : v3 < 9 := by omega
  refine wpAny_ready (rs := [3, 13]) (by kernel_rfl) (by simp) ?_
  refine AllReady.cons rfl (fun K hK => ?_) ?_
  · simp only [ops53, Tryz.f63]
    go_simp
    refine hK _ _ ?_
    refine wpAny_take (i := 4) (v := .int .i64 (IntKind.i64.wrap ((n : Int) + 1))) rfl (by kernel_rfl) (by kernel_rfl) (by kernel_rfl) (fun _ _ _ h => HQ.2 _ _ _ _ _ h) (Or.inl ⟨by rfl, fun w => by simp only [ops53, Tryz.f63]; go_simp⟩) ?_
    exact st_51110 D ao len cap zs base P bv n acts w Q HQ v1 v2 v3 v4 v5 Bs Bo _ hR hv1 hv2 hv3 hv4 hv5 hN hO
  refine AllReady.cons rfl (fun K hK => ?_) ?_
  · simp only [ops53, Tryz.f63]
    go_simp
    refine hK _ _ ?_
    exact st_50111 D ao len cap zs base P bv n acts w Q HQ v1 v2 v3 v4 v5 Bs Bo _ hR hv1 hv2 hv3 hv4 hv5 hN hO
  exact AllReady.nil

theorem st_50101 (D : Nat) (ao : Option Addr) (len cap : Nat) (zs : Nat → Int) (base P bv n : Nat) (acts : Int) (w : World) (Q : Exit → Act → World → Prop) (HQ : FinOK D ao len cap zs base P bv n acts w Q) (v1 v2 v3 v4 v5 : Nat) (Bs : Nat) (W : World) (hR : Rolls D ao len cap zs base P bv n acts w W) (hv1 : (v1 : Int) < 4) (hv2 : (v2 : Int) < 2) (hv3 : (v3 : Int) < 9) (hv4 : (v4 : Int) < 10) (hv5 : (v5 : Int) < 9) (hN : NineAt D W Bs) :
    wpAny Tryz.prog .any ops53 Q 5 #[true, true, true, false, false, true, true, true, true, true, true, true, true, true, true, true, true, true, true, true, false, false, false] ⟨((.pointer (some ⟨P, 0, none⟩)) :: (.pointer (some ⟨D, 0, none⟩)) :: (undef) :: (undef) :: (.pointer (some ⟨w.heap.size, 0, none⟩)) :: (undef) :: (.pointer (some ⟨P, 0, none⟩)) :: (.pointer (some ⟨P, 0, none⟩)) :: (.pointer (some ⟨P, 1, none⟩)) :: (undef) :: (undef) :: (.pointer (some ⟨D, 0, none⟩)) :: (.int .i64 (v1 : Int)) :: (.pointer (some ⟨D, 0, none⟩)) :: (.int .i64 (v2 : Int)) :: (.slice (some ⟨Bs, 0, none⟩) 9 9) :: (.pointer (some ⟨D, 0, none⟩)) :: (.int .i64 (v3 : Int)) :: (.pointer (some ⟨Bs, v3, none⟩)) :: (.int .i64 (kindOf v3)) :: (.pointer (some ⟨D, 0, none⟩)) :: (.int .i64 (v4 : Int)) :: (.int .i64 (IntKind.i64.wrap (95 + (v4 : Int)))) :: (.pointer (some ⟨D, 0, none⟩)) :: (.int .i64 (v5 : Int)) :: (.int .i64 (IntKind.i64.wrap (1 + (v5 : Int)))) :: (undef) :: (undef) :: (undef) :: (undef) :: (undef) :: (undef) :: (undef) :: (undef) :: (undef) :: (undef) :: []).toArray, []⟩ W := by
  have hcell := hR.cell
  have hlt := hR.ply.lt
  have hcv := hN.cells v3 (by omega)
  have hNl := hN.lt
  have hv3n : v3 < 9 := by omega
  refine wpAny_ready (rs := [3, 21]) (by kernel_rfl) (by simp) ?_
  refine AllReady.cons rfl (fun K hK => ?_) ?_
  · simp only [ops53, Tryz.f63]
    go_simp
    refine hK _ _ ?_
    refine wpAny_take (i := 4) (v := .int .i64 (IntKind.i64.wrap ((n : Int) + 1))) rfl (by kernel_rfl) (by kernel_rfl) (by kernel_rfl) (fun _ _ _ h => HQ.2 _ _ _ _ _ h) (Or.inl ⟨by rfl, fun w => by simp only [ops53, Tryz.f63]; go_simp⟩) ?_
    refine wpAny_take (i := 20) (v := .agg #[.int .i64 (IntKind.i64.wrap ((n : Int) + 1)), .int .i64 (v1 : Int), .string ⟨#[65]⟩, .int .i64 (v2 : Int), .int .i64 (kindOf v3), .int .i64 (IntKind.i64.wrap (95 + (v4 : Int))), .int .i64 (IntKind.i64.wrap (1 + (v5 : Int)))]) rfl (by kernel_rfl) (by kernel_rfl) (by kernel_rfl) (fun _ _ _ h => HQ.2 _ _ _ _ _ h) (Or.inl ⟨by rfl, fun w => by simp only [ops53, Tryz.f63]; go_simp⟩) ?_
    exact st_51101 D ao len cap zs base P bv n acts w Q HQ v1 v2 v3 v4 v5 Bs _ hR hv1 hv2 hv3 hv4 hv5 hN
  refine AllReady.cons rfl (fun K hK => ?_) ?_
  · simp only [ops53, Tryz.f63]
    go_simp
    refine hK _ _ ?_
    exact st_50111 D ao len cap zs base P bv n acts w Q HQ v1 v2 v3 v4 v5 Bs _ _ (hR.alloc _) hv1 hv2 hv3 hv4 hv5 (hN.alloc _) (SlotAt.make hR)
  exact AllReady.nil

theorem st_41110 (D : Nat) (ao : Option Addr) (len cap : Nat) (zs : Nat → Int) (base P bv n : Nat) (acts : Int) (w : World) (Q : Exit → Act → World → Prop) (HQ : FinOK D ao len cap zs base P bv n acts w Q) (v1 v2 v3 v4 : Nat) (Bs : Nat) (Bo : Nat) (W : World) (hR : Rolls D ao len cap zs base P bv n acts w W) (hv1 : (v1 : Int) < 4) (hv2 : (v2 : Int) < 2) (hv3 : (v3 : Int) < 9) (hv4 : (v4 : Int) < 10) (hN : NineAt D W Bs) (hO : SlotAt D w W Bo) :
    wpAny Tryz.prog .any ops53 Q 5 #[true, true, true, true, true, true, true, true, true, true, true, true, true, false, true, true, true, true, false, false, false, true, false] ⟨((.pointer (some ⟨P, 0, none⟩)) :: (.pointer (some ⟨D, 0, none⟩)) :: (undef) :: (undef) :: (.pointer (some ⟨w.heap.size, 0, none⟩)) :: (.pointer (some ⟨Bo, 0, none⟩)) :: (.pointer (some ⟨P, 0, none⟩)) :: (.pointer (some ⟨P, 0, none⟩)) :: (.pointer (some ⟨P, 1, none⟩)) :: (.int .i64 (n : Int)) :: (.int .i64 (IntKind.i64.wrap ((n : Int) + 1))) :: (.pointer (some ⟨D, 0, none⟩)) :: (.int .i64 (v1 : Int)) :: (.pointer (some ⟨D, 0, none⟩)) :: (.int .i64 (v2 : Int)) :: (.slice (some ⟨Bs, 0, none⟩) 9 9) :: (.pointer (some ⟨D, 0, none⟩)) :: (.int .i64 (v3 : Int)) :: (.pointer (some ⟨Bs, v3, none⟩)) :: (undef) :: (.pointer (some ⟨D, 0, none⟩)) :: (.int .i64 (v4 : Int)) :: (.int .i64 (IntKind.i64.wrap (95 + (v4 : Int)))) :: (.pointer (some ⟨D, 0, none⟩)) :: (undef) :: (undef) :: (undef) :: (undef) :: (undef) :: (undef) :: (undef) :: (undef) :: (undef) :: (undef) :: (undef) :: (undef) :: []).toArray, []⟩ W := by
  have hcell := hR.cell
  have hlt := hR.ply.lt
  have hcv := hN.cells v3 (by omega)
  have hNl := hN.lt
  have hv3n : v3 < 9 := by omega
  refine wpAny_ready (rs := [13, 18]) (by kernel_rfl) (by simp) ?_
  refine AllReady.cons rfl (fun K hK => ?_) ?_
  · simp only [ops53, Tryz.f63]
    go_simp
    refine hK _ _ ?_
    exact st_41111 D ao len cap zs base P bv n acts w Q HQ v1 v2 v3 v4 Bs Bo _ hR hv1 hv2 hv3 hv4 hN hO
  refine AllReady.cons rfl (fun K hK => ?_) ?_
  · simp only [ops53, Tryz.f63]
    go_wp2_with (go_at_call 35; refine (roll_any D ao len cap zs base P bv n acts w W _ hR (by decide) (by decide)).mono ?_; rintro e w' ⟨v5, rfl, hv5, hr, hk⟩)
    refine wpAny_take (i := 19) (v := .int .i64 (IntKind.i64.wrap (1 + (v5 : Int)))) rfl (by kernel_rfl) (by kernel_rfl) (by kernel_rfl) (fun _ _ _ h => HQ.2 _ _ _ _ _ h) (Or.inl ⟨by rfl, fun w => by simp only [ops53, Tryz.f63]; go_simp⟩) ?_
    exact st_51110 D ao len cap zs base P bv n acts w Q HQ v1 v2 v3 v4 v5 Bs Bo w' hr hv1 hv2 hv3 hv4 hv5 (hN.keep hk) (hO.keep hk)
  exact AllReady.nil

theorem st_41101 (D : Nat) (ao : Option Addr) (len cap : Nat) (zs : Nat → Int) (base P bv n : Nat) (acts : Int) (w : World) (Q : Exit → Act → World → Prop) (HQ : FinOK D ao len cap zs base P bv n acts w Q) (v1 v2 v3 v4 : Nat) (Bs : Nat) (W : World) (hR : Rolls D ao len cap zs base P bv n acts w W) (hv1 : (v1 : Int) < 4) (hv2 : (v2 : Int) < 2) (hv3 : (v3 : Int) < 9) (hv4 : (v4 : Int) < 10) (hN : NineAt D W Bs) :
    wpAny Tryz.prog .any ops53 Q 5 #[true, true, true, true, true, true, true, true, true, true, true, true, true, true, true, true, true, true, false, false, false, false, false] ⟨((.pointer (some ⟨P, 0, none⟩)) :: (.pointer (some ⟨D, 0, none⟩)) :: (undef) :: (undef) :: (.pointer (some ⟨w.heap.size, 0, none⟩)) :: (undef) :: (.pointer (some ⟨P, 0, none⟩)) :: (.pointer (some ⟨P, 0, none⟩)) :: (.pointer (some ⟨P, 1, none⟩)) :: (.int .i64 (n : Int)) :: (.int .i64 (IntKind.i64.wrap ((n : Int) + 1))) :: (.pointer (some ⟨D, 0, none⟩)) :: (.int .i64 (v1 : Int)) :: (.pointer (some ⟨D, 0, none⟩)) :: (.int .i64 (v2 : Int)) :: (.slice (some ⟨Bs, 0, none⟩) 9 9) :: (.pointer (some ⟨D, 0, none⟩)) :: (.int .i64 (v3 : Int)) :: (.pointer (some ⟨Bs, v3, none⟩)) :: (.int .i64 (kindOf v3)) :: (.pointer (some ⟨D, 0, none⟩)) :: (.int .i64 (v4 : Int)) :: (.int .i64 (IntKind.i64.wrap (95 + (v4 : Int)))) :: (.pointer (some ⟨D, 0, none⟩)) :: (undef) :: (undef) :: (undef) :: (undef) :: (undef) :: (undef) :: (undef) :: (undef) :: (undef) :: (undef) :: (undef) :: (undef) :: []).toArray, []⟩ W := by
  have hcell := hR.cell
  have hlt := hR.ply.lt
  have hcv := hN.cells v3 (by omega)
  have hNl := hN.lt
  have hv3n : v3 < 9 := by omega
  refine wpAny_ready (rs := [18, 21]) (by kernel_rfl) (by simp) ?_
  refine AllReady.cons rfl (fun K hK => ?_) ?_
  · simp only [ops53, Tryz.f63]
    go_wp2_with (go_at_call 35; refine (roll_any D ao len cap zs base P bv n acts w W _ hR (by decide) (by decide)).mono ?_; rintro e w' ⟨v5, rfl, hv5, hr, hk⟩)
    refine wpAny_take (i := 19) (v := .int .i64 (IntKind.i64.wrap (1 + (v5 : Int)))) rfl (by kernel_rfl) (by kernel_rfl) (by kernel_rfl) (fun _ _ _ h => HQ.2 _ _ _ _ _ h) (Or.inl ⟨by rfl, fun w => by simp only [ops53, Tryz.f63]; go_simp⟩) ?_
    refine wpAny_take (i := 20) (v := .agg #[.int .i64 (IntKind.i64.wrap ((n : Int) + 1)), .int .i64 (v1 : Int), .string ⟨#[65]⟩, .int .i64 (v2 : Int), .int .i64 (kindOf v3), .int .i64 (IntKind.i64.wrap (95 + (v4 : Int))), .int .i64 (IntKind.i64.wrap (1 + (v5 : Int)))]) rfl (by kernel_rfl) (by kernel_rfl) (by kernel_rfl) (fun _ _ _ h => HQ.2 _ _ _ _ _ h) (Or.inl ⟨by rfl, fun w => by simp only [ops53, Tryz.f63]; go_simp⟩) ?_
    exact st_51101 D ao len cap zs base P bv n acts w Q HQ v1 v2 v3 v4 v5 Bs w' hr hv1 hv2 hv3 hv4 hv5 (hN.keep hk)
  refine AllReady.cons rfl (fun K hK => ?_) ?_
  · simp only [ops53, Tryz.f63]
    go_simp
    refine hK _ _ ?_
    exact st_41111 D ao len cap zs base P bv n acts w Q HQ v1 v2 v3 v4 Bs _ _ (hR.alloc _) hv1 hv2 hv3 hv4 (hN.alloc _) (SlotAt.make hR)
  exact AllReady.nil

theorem st_51000 (D : Nat) (ao : Option Addr) (len cap : Nat) (zs : Nat → Int) (base P bv n : Nat) (acts : Int) (w : World) (Q : Exit → Act → World → Prop) (HQ : FinOK D ao len cap zs base P bv n acts w Q) (v1 v2 v3 v4 v5 : Nat) (W : World) (hR : Rolls D ao len cap zs base P bv n acts w W) (hv1 : (v1 : Int) < 4) (hv2 : (v2 : Int) < 2) (hv3 : (v3 : Int) < 9) (hv4 : (v4 : Int) < 10) (hv5 : (v5 : Int) < 9) :
    wpAny Tryz.prog .any ops53 Q 6 #[true, true, true, true, true, true, true, true, true, false, true, true, false, false, true, true, true, true, true, true, false, false, false] ⟨((.pointer (some ⟨P, 0, none⟩)) :: (.pointer (some ⟨D, 0, none⟩)) :: (undef) :: (undef) :: (.pointer (some ⟨w.heap.size, 0, none⟩)) :: (undef) :: (.pointer (some ⟨P, 0, none⟩)) :: (.pointer (some ⟨P, 0, none⟩)) :: (.pointer (some ⟨P, 1, none⟩)) :: (.int .i64 (n : Int)) :: (.int .i64 (IntKind.i64.wrap ((n : Int) + 1))) :: (.pointer (some ⟨D, 0, none⟩)) :: (.int .i64 (v1 : Int)) :: (.pointer (some ⟨D, 0, none⟩)) :: (.int .i64 (v2 : Int)) :: (undef) :: (.pointer (some ⟨D, 0, none⟩)) :: (.int .i64 (v3 : Int)) :: (undef) :: (undef) :: (.pointer (some ⟨D, 0, none⟩)) :: (.int .i64 (v4 : Int)) :: (.int .i64 (IntKind.i64.wrap (95 + (v4 : Int)))) :: (.pointer (some ⟨D, 0, none⟩)) :: (.int .i64 (v5 : Int)) :: (.int .i64 (IntKind.i64.wrap (1 + (v5 : Int)))) :: (undef) :: (undef) :: (undef) :: (undef) :: (undef) :: (undef) :: (undef) :: (undef) :: (undef) :: (undef) :: []).toArray, []⟩ W := by
  have hcell := hR.cell
  have hlt := hR.ply.lt
  refine wpAny_ready (rs := [9, 21]) (by kernel_rfl) (by simp) ?_
  refine AllReady.cons rfl (fun K hK => ?_) ?_
  · simp only [ops53, Tryz.f63]
    go_simp
    refine hK _ _ ?_
    have hv3n : v3 < 9 := by omega
    refine wpAny_take (i := 12) (v := .pointer (some ⟨W.heap.size, v3, none⟩)) rfl (by kernel_rfl) (by kernel_rfl) (by kernel_rfl) (fun _ _ _ h => HQ.2 _ _ _ _ _ h) (Or.inl ⟨by rfl, fun w => by simp only [ops53, Tryz.f63]; go_simp⟩) ?_
    exact st_51100 D ao len cap zs base P bv n acts w Q HQ v1 v2 v3 v4 v5 _ _ (hR.alloc _) hv1 hv2 hv3 hv4 hv5 (NineAt.new hR)
  refine AllReady.cons rfl (fun K hK => ?_) ?_
  · simp only [ops53, Tryz.f63]
    go_simp
    refine hK _ _ ?_
    exact st_51010 D ao len cap zs base P bv n acts w Q HQ v1 v2 v3 v4 v5 _ _ (hR.alloc _) hv1 hv2 hv3 hv4 hv5 (SlotAt.make hR)
  exact AllReady.nil

theorem st_50100 (D : Nat) (ao : Option Addr) (len cap : Nat) (zs : Nat → Int) (base P bv n : Nat) (acts : Int) (w : World) (Q : Exit → Act → World → Prop) (HQ : FinOK D ao len cap zs base P bv n acts w Q) (v1 v2 v3 v4 v5 : Nat) (Bs : Nat) (W : World) (hR : Rolls D ao len cap zs base P bv n acts w W) (hv1 : (v1 : Int) < 4) (hv2 : (v2 : Int) < 2) (hv3 : (v3 : Int) < 9) (hv4 : (v4 : Int) < 10) (hv5 : (v5 : Int) < 9) (hN : NineAt D W Bs) :
    wpAny Tryz.prog .any ops53 Q 6 #[true, true, true, false, false, true, true, true, true, true, true, true, true, false, true, true, true, true, true, true, false, false, false] ⟨((.pointer (some ⟨P, 0, none⟩)) :: (.pointer (some ⟨D, 0, none⟩)) :: (undef) :: (undef) :: (.pointer (some ⟨w.heap.size, 0, none⟩)) :: (undef) :: (.pointer (some ⟨P, 0, none⟩)) :: (.pointer (some ⟨P, 0, none⟩)) :: (.pointer (some ⟨P, 1, none⟩)) :: (undef) :: (undef) :: (.pointer (some ⟨D, 0, none⟩)) :: (.int .i64 (v1 : Int)) :: (.pointer (some ⟨D, 0, none⟩)) :: (.int .i64 (v2 : Int)) :: (.slice (some ⟨Bs, 0, none⟩) 9 9) :: (.pointer (some ⟨D, 0, none⟩)) :: (.int .i64 (v3 : Int)) :: (.pointer (some ⟨Bs, v3, none⟩)) :: (undef) :: (.pointer (some ⟨D, 0, none⟩)) :: (.int .i64 (v4 : Int)) :: (.int .i64 (IntKind.i64.wrap (95 + (v4 : Int)))) :: (.pointer (some ⟨D, 0, none⟩)) :: (.int .i64 (v5 : Int)) :: (.int .i64 (IntKind.i64.wrap (1 + (v5 : Int)))) :: (undef) :: (undef) :: (undef) :: (undef) :: (undef) :: (undef) :: (undef) :: (undef) :: (undef) :: (undef) :: []).toArray, []⟩ W := by
  have hcell := hR.cell
  have hlt := hR.ply.lt
  have hcv := hN.cells v3 (by omega)
  have hNl := hN.lt
  have hv3n : v3 < 9 := by omega
  refine wpAny_ready (rs := [3, 13, 21]) (by kernel_rfl) (by simp) ?_
  refine AllReady.cons rfl (fun K hK => ?_) ?_
  · simp only [ops53, Tryz.f63]
    go_simp
    refine hK _ _ ?_
    refine wpAny_take (i := 4) (v := .int .i64 (IntKind.i64.wrap ((n : Int) + 1))) rfl (by kernel_rfl) (by kernel_rfl) (by kernel_rfl) (fun _ _ _ h => HQ.2 _ _ _ _ _ h) (Or.inl ⟨by rfl, fun w => by simp only [ops53, Tryz.f63]; go_simp⟩) ?_
    exact st_51100 D ao len cap zs base P bv n acts w Q HQ v1 v2 v3 v4 v5 Bs _ hR hv1 hv2 hv3 hv4 hv5 hN
  refine AllReady.cons rfl (fun K hK => ?_) ?_
  · simp only [ops53, Tryz.f63]
    go_simp
    refine hK _ _ ?_
    exact st_50101 D ao len cap zs base P bv n acts w Q HQ v1 v2 v3 v4 v5 Bs _ hR hv1 hv2 hv3 hv4 hv5 hN
  refine AllReady.cons rfl (fun K hK => ?_) ?_
  · simp only [ops53, Tryz.f63]
    go_simp
    refine hK _ _ ?_
    exact st_50110 D ao len cap zs base P bv n acts w Q HQ v1 v2 v3 v4 v5 Bs _ _ (hR.alloc _) hv1 hv2 hv3 hv4 hv5 (hN.alloc _) (SlotAt.make hR)
  exact AllReady.nil

theorem st_41100 (D : Nat) (ao : Option Addr) (len cap : Nat) (zs : Nat → Int) (base P bv n : Nat) (acts : Int) (w : World) (Q : Exit → Act → World → Prop) (HQ : FinOK D ao len cap zs base P bv n acts w Q) (v1 v2 v3 v4 : Nat) (Bs : Nat) (W : World) (hR : Rolls D ao len cap zs base P bv n acts w W) (hv1 : (v1 : Int) < 4) (hv2 : (v2 : Int) < 2) (hv3 : (v3 : Int) < 9) (hv4 : (v4 : Int) < 10) (hN : NineAt D W Bs) :
    wpAny Tryz.prog .any ops53 Q 6 #[true, true, true, true, true, true, true, true, true, true, true, true, true, false, true, true, true, true, false, false, false, false, false] ⟨((.pointer (some ⟨P, 0, none⟩)) :: (.pointer (some ⟨D, 0, none⟩)) :: (undef) :: (undef) :: (.pointer (some ⟨w.heap.size, 0, none⟩)) :: (undef) :: (.pointer (some ⟨P, 0, none⟩)) :: (.pointer (some ⟨P, 0, none⟩)) :: (.pointer (some ⟨P, 1, none⟩)) :: (.int .i64 (n : Int)) :: (.int .i64 (IntKind.i64.wrap ((n : Int) + 1))) :: (.pointer (some ⟨D, 0, none⟩)) :: (.int .i64 (v1 : Int)) :: (.pointer (some ⟨D, 0, none⟩)) :: (.int .i64 (v2 : Int)) :: (.slice (some ⟨Bs, 0, none⟩) 9 9) :: (.pointer (some ⟨D, 0, none⟩)) :: (.int .i64 (v3 : Int)) :: (.pointer (some ⟨Bs, v3, none⟩)) :: (undef) :: (.pointer (some ⟨D, 0, none⟩)) :: (.int .i64 (v4 : Int)) :: (.int .i64 (IntKind.i64.wrap (95 + (v4 : Int)))) :: (.pointer (some ⟨D, 0, none⟩)) :: (undef) :: (undef) :: (undef) :: (undef) :: (undef) :: (undef) :: (undef) :: (undef) :: (undef) :: (undef) :: (undef) :: (undef) :: []).toArray, []⟩ W := by
  have hcell := hR.cell
  have hlt := hR.ply.lt
  have hcv := hN.cells v3 (by omega)
  have hNl := hN.lt
  have hv3n : v3 < 9 := by omega
  refine wpAny_ready (rs := [13, 18, 21]) (by kernel_rfl) (by simp) ?_
  refine AllReady.cons rfl (fun K hK => ?_) ?_
  · simp only [ops53, Tryz.f63]
    go_simp
    refine hK _ _ ?_
    exact st_41101 D ao len cap zs base P bv n acts w Q HQ v1 v2 v3 v4 Bs _ hR hv1 hv2 hv3 hv4 hN
  refine AllReady.cons rfl (fun K hK => ?_) ?_
  · simp only [ops53, Tryz.f63]
    go_wp2_with (go_at_call 35; refine (roll_any D ao len cap zs base P bv n acts w W _ hR (by decide) (by decide)).mono ?_; rintro e w' ⟨v5, rfl, hv5, hr, hk⟩)
    refine wpAny_take (i := 19) (v := .int .i64 (IntKind.i64.wrap (1 + (v5 : Int)))) rfl (by kernel_rfl) (by kernel_rfl) (by kernel_rfl) (fun _ _ _ h => HQ.2 _ _ _ _ _ h) (Or.inl ⟨by rfl, fun w => by simp only [ops53, Tryz.f63]; go_simp⟩) ?_
    exact st_51100 D ao len cap zs base P bv n acts w Q HQ v1 v2 v3 v4 v5 Bs w' hr hv1 hv2 hv3 hv4 hv5 (hN.keep hk)
  refine AllReady.cons rfl (fun K hK => ?_) ?_
  · simp only [ops53, Tryz.f63]
    go_simp
    refine hK _ _ ?_
    exact st_41110 D ao len cap zs base P bv n acts w Q HQ v1 v2 v3 v4 Bs _ _ (hR.alloc _) hv1 hv2 hv3 hv4 (hN.alloc _) (SlotAt.make hR)
  exact AllReady.nil

theorem st_40111 (D : Nat) (ao : Option Addr) (len cap : Nat) (zs : Nat → Int) (base P bv n : Nat) (acts : Int) (w : World) (Q : Exit → Act → World → Prop) (HQ : FinOK D ao len cap zs base P bv n acts w Q) (v1 v2 v3 v4 : Nat) (Bs : Nat) (Bo : Nat) (W : World) (hR : Rolls D ao len cap zs base P bv n acts w W) (hv1 : (v1 : Int) < 4) (hv2 : (v2 : Int) < 2) (hv3 : (v3 : Int) < 9) (hv4 : (v4 : Int) < 10) (hN : NineAt D W Bs) (hO : SlotAt D w W Bo) :
    wpAny Tryz.prog .any ops53 Q 6 #[true, true, true, false, false, true, true, true, true, true, true, true, true, true, true, true, true, true, false, false, false, true, false] ⟨((.pointer (some ⟨P, 0, none⟩)) :: (.pointer (some ⟨D, 0, none⟩)) :: (undef) :: (undef) :: (.pointer (some ⟨w.heap.size, 0, none⟩)) :: (.pointer (some ⟨Bo, 0, none⟩)) :: (.pointer (some ⟨P, 0, none⟩)) :: (.pointer (some ⟨P, 0, none⟩)) :: (.pointer (some ⟨P, 1, none⟩)) :: (undef) :: (undef) :: (.pointer (some ⟨D, 0, none⟩)) :: (.int .i64 (v1 : Int)) :: (.pointer (some ⟨D, 0, none⟩)) :: (.int .i64 (v2 : Int)) :: (.slice (some ⟨Bs, 0, none⟩) 9 9) :: (.pointer (some ⟨D, 0, none⟩)) :: (.int .i64 (v3 : Int)) :: (.pointer (some ⟨Bs, v3, none⟩)) :: (.int .i64 (kindOf v3)) :: (.pointer (some ⟨D, 0, none⟩)) :: (.int .i64 (v4 : Int)) :: (.int .i64 (IntKind.i64.wrap (95 + (v4 : Int)))) :: (.pointer (some ⟨D, 0, none⟩)) :: (undef) :: (undef) :: (undef) :: (undef) :: (undef) :: (undef) :: (undef) :: (undef) :: (undef) :: (undef) :: (undef) :: (undef) :: []).toArray, []⟩ W := by
  have hcell := hR.cell
  have hlt := hR.ply.lt
  have hcv := hN.cells v3 (by omega)
  have hNl := hN.lt
  have hv3n : v3 < 9 := by omega
  refine wpAny_ready (rs := [3, 18]) (by kernel_rfl) (by simp) ?_
  refine AllReady.cons rfl (fun K hK => ?_) ?_
  · simp only [ops53, Tryz.f63]
    go_simp
    refine hK _ _ ?_
    refine wpAny_take (i := 4) (v := .int .i64 (IntKind.i64.wrap ((n : Int) + 1))) rfl (by kernel_rfl) (by kernel_rfl) (by kernel_rfl) (fun _ _ _ h => HQ.2 _ _ _ _ _ h) (Or.inl ⟨by rfl, fun w => by simp only [ops53, Tryz.f63]; go_simp⟩) ?_
    exact st_41111 D ao len cap zs base P bv n acts w Q HQ v1 v2 v3 v4 Bs Bo _ hR hv1 hv2 hv3 hv4 hN hO
  refine AllReady.cons rfl (fun K hK => ?_) ?_
  · simp only [ops53, Tryz.f63]
    go_wp2_with (go_at_call 35; refine (roll_any D ao len cap zs base P bv n acts w W _ hR (by decide) (by decide)).mono ?_; rintro e w' ⟨v5, rfl, hv5, hr, hk⟩)
    refine wpAny_take (i := 19) (v := .int .i64 (IntKind.i64.wrap (1 + (v5 : Int)))) rfl (by kernel_rfl) (by kernel_rfl) (by kernel_rfl) (fun _ _ _ h => HQ.2 _ _ _ _ _ h) (Or.inl ⟨by rfl, fun w => by simp only [ops53, Tryz.f63]; go_simp⟩) ?_
    exact st_50111 D ao len cap zs base P bv n acts w Q HQ v1 v2 v3 v4 v5 Bs Bo w' hr hv1 hv2 hv3 hv4 hv5 (hN.keep hk) (hO.keep hk)
  exact AllReady.nil

theorem st_31111 (D : Nat) (ao : Option Addr) (len cap : Nat) (zs : Nat → Int) (base P bv n : Nat) (acts : Int) (w : World) (Q : Exit → Act → World → Prop) (HQ : FinOK D ao len cap zs base P bv n acts w Q) (v1 v2 v3 : Nat) (Bs : Nat) (Bo : Nat) (W : World) (hR : Rolls D ao len cap zs base P bv n acts w W) (hv1 : (v1 : Int) < 4) (hv2 : (v2 : Int) < 2) (hv3 : (v3 : Int) < 9) (hN : NineAt D W Bs) (hO : SlotAt D w W Bo) :
    wpAny Tryz.prog .any ops53 Q 6 #[true, true, true, true, true, true, true, true, true, true, true, true, true, true, true, false, false, true, false, false, false, true, false] ⟨((.pointer (some ⟨P, 0, none⟩)) :: (.pointer (some ⟨D, 0, none⟩)) :: (undef) :: (undef) :: (.pointer (some ⟨w.heap.size, 0, none⟩)) :: (.pointer (some ⟨Bo, 0, none⟩)) :: (.pointer (some ⟨P, 0, none⟩)) :: (.pointer (some ⟨P, 0, none⟩)) :: (.pointer (some ⟨P, 1, none⟩)) :: (.int .i64 (n : Int)) :: (.int .i64 (IntKind.i64.wrap ((n : Int) + 1))) :: (.pointer (some ⟨D, 0, none⟩)) :: (.int .i64 (v1 : Int)) :: (.pointer (some ⟨D, 0, none⟩)) :: (.int .i64 (v2 : Int)) :: (.slice (some ⟨Bs, 0, none⟩) 9 9) :: (.pointer (some ⟨D, 0, none⟩)) :: (.int .i64 (v3 : Int)) :: (.pointer (some ⟨Bs, v3, none⟩)) :: (.int .i64 (kindOf v3)) :: (.pointer (some ⟨D, 0, none⟩)) :: (undef) :: (undef) :: (.pointer (some ⟨D, 0, none⟩)) :: (undef) :: (undef) :: (undef) :: (undef) :: (undef) :: (undef) :: (undef) :: (undef) :: (undef) :: (undef) :: (undef) :: (undef) :: []).toArray, []⟩ W := by
  have hcell := hR.cell
  have hlt := hR.ply.lt
  have hcv := hN.cells v3 (by omega)
  have hNl := hN.lt
  have hv3n : v3 < 9 := by omega
  refine wpAny_ready (rs := [15]) (by kernel_rfl) (by simp) ?_
  refine AllReady.cons rfl (fun K hK => ?_) ?_
  · simp only [ops53, Tryz.f63]
    go_wp2_with (go_at_call 35; refine (roll_any D ao len cap zs base P bv n acts w W _ hR (by decide) (by decide)).mono ?_; rintro e w' ⟨v4, rfl, hv4, hr, hk⟩)
    refine wpAny_take (i := 16) (v := .int .i64 (IntKind.i64.wrap (95 + (v4 : Int)))) rfl (by kernel_rfl) (by kernel_rfl) (by kernel_rfl) (fun _ _ _ h => HQ.2 _ _ _ _ _ h) (Or.inl ⟨by rfl, fun w => by simp only [ops53, Tryz.f63]; go_simp⟩) ?_
    exact st_41111 D ao len cap zs base P bv n acts w Q HQ v1 v2 v3 v4 Bs Bo w' hr hv1 hv2 hv3 hv4 (hN.keep hk) (hO.keep hk)
  exact AllReady.nil

theorem st_50010 (D : Nat) (ao : Option Addr) (len cap : Nat) (zs : Nat → Int) (base P bv n : Nat) (acts : Int) (w : World) (Q : Exit → Act → World → Prop) (HQ : FinOK D ao len cap zs base P bv n acts w Q) (v1 v2 v3 v4 v5 : Nat) (Bo : Nat) (W : World) (hR : Rolls D ao len cap zs base P bv n acts w W) (hv1 : (v1 : Int) < 4) (hv2 : (v2 : Int) < 2) (hv3 : (v3 : Int) < 9) (hv4 : (v4 : Int) < 10) (hv5 : (v5 : Int) < 9) (hO : SlotAt D w W Bo) :
    wpAny Tryz.prog .any ops53 Q 7 #[true, true, true, false, false, true, true, true, true, false, true, true, false, false, true, true, true, true, true, true, false, true, false] ⟨((.pointer (some ⟨P, 0, none⟩)) :: (.pointer (some ⟨D, 0, none⟩)) :: (undef) :: (undef) :: (.pointer (some ⟨w.heap.size, 0, none⟩)) :: (.pointer (some ⟨Bo, 0, none⟩)) :: (.pointer (some ⟨P, 0, none⟩)) :: (.pointer (some ⟨P, 0, none⟩)) :: (.pointer (some ⟨P, 1, none⟩)) :: (undef) :: (undef) :: (.pointer (some ⟨D, 0, none⟩)) :: (.int .i64 (v1 : Int)) :: (.pointer (some ⟨D, 0, none⟩)) :: (.int .i64 (v2 : Int)) :: (undef) :: (.pointer (some ⟨D, 0, none⟩)) :: (.int .i64 (v3 : Int)) :: (undef) :: (undef) :: (.pointer (some ⟨D, 0, none⟩)) :: (.int .i64 (v4 : Int)) :: (.int .i64 (IntKind.i64.wrap (95 + (v4 : Int)))) :: (.pointer (some ⟨D, 0, none⟩)) :: (.int .i64 (v5 : Int)) :: (.int .i64 (IntKind.i64.wrap (1 + (v5 : Int)))) :: (undef) :: (undef) :: (undef) :: (undef) :: (undef) :: (undef) :: (undef) :: (undef) :: (undef) :: (undef) :: []).toArray, []⟩ W := by
  have hcell := hR.cell
  have hlt := hR.ply.lt
  refine wpAny_ready (rs := [3, 9]) (by kernel_rfl) (by simp) ?_
  refine AllReady.cons rfl (fun K hK => ?_) ?_
  · simp only [ops53, Tryz.f63]
    go_simp
    refine hK _ _ ?_
    refine wpAny_take (i := 4) (v := .int .i64 (IntKind.i64.wrap ((n : Int) + 1))) rfl (by kernel_rfl) (by kernel_rfl) (by kernel_rfl) (fun _ _ _ h => HQ.2 _ _ _ _ _ h) (Or.inl ⟨by rfl, fun w => by simp only [ops53, Tryz.f63]; go_simp⟩) ?_
    exact st_51010 D ao len cap zs base P bv n acts w Q HQ v1 v2 v3 v4 v5 Bo _ hR hv1 hv2 hv3 hv4 hv5 hO
  refine AllReady.cons rfl (fun K hK => ?_) ?_
  · simp only [ops53, Tryz.f63]
    go_simp
    refine hK _ _ ?_
    have hv3n : v3 < 9 := by omega
    refine wpAny_take (i := 12) (v := .pointer (some ⟨W.heap.size, v3, none⟩)) rfl (by kernel_rfl) (by kernel_rfl) (by kernel_rfl) (fun _ _ _ h => HQ.2 _ _ _ _ _ h) (Or.inl ⟨by rfl, fun w => by simp only [ops53, Tryz.f63]; go_simp⟩) ?_
    exact st_50110 D ao len cap zs base P bv n acts w Q HQ v1 v2 v3 v4 v5 _ Bo _ (hR.alloc _) hv1 hv2 hv3 hv4 hv5 (NineAt.new hR) (hO.alloc _)
  exact AllReady.nil

theorem st_41010 (D : Nat) (ao : Option Addr) (len cap : Nat) (zs : Nat → Int) (base P bv n : Nat) (acts : Int) (w : World) (Q : Exit → Act → World → Prop) (HQ : FinOK D ao len cap zs base P bv n acts w Q) (v1 v2 v3 v4 : Nat) (Bo : Nat) (W : World) (hR : Rolls D ao len cap zs base P bv n acts w W) (hv1 : (v1 : Int) < 4) (hv2 : (v2 : Int) < 2) (hv3 : (v3 : Int) < 9) (hv4 : (v4 : Int) < 10) (hO : SlotAt D w W Bo) :
    wpAny Tryz.prog .any ops53 Q 7 #[true, true, true, true, true, true, true, true, true, false, true, true, false, false, true, true, true, true, false, false, false, true, false] ⟨((.pointer (some ⟨P, 0, none⟩)) :: (.pointer (some ⟨D, 0, none⟩)) :: (undef) :: (undef) :: (.pointer (some ⟨w.heap.size, 0, none⟩)) :: (.pointer (some ⟨Bo, 0, none⟩)) :: (.pointer (some ⟨P, 0, none⟩)) :: (.pointer (some ⟨P, 0, none⟩)) :: (.pointer (some ⟨P, 1, none⟩)) :: (.int .i64 (n : Int)) :: (.int .i64 (IntKind.i64.wrap ((n : Int) + 1))) :: (.pointer (some ⟨D, 0, none⟩)) :: (.int .i64 (v1 : Int)) :: (.pointer (some ⟨D, 0, none⟩)) :: (.int .i64 (v2 : Int)) :: (undef) :: (.pointer (some ⟨D, 0, none⟩)) :: (.int .i64 (v3 : Int)) :: (undef) :: (undef) :: (.pointer (some ⟨D, 0, none⟩)) :: (.int .i64 (v4 : Int)) :: (.int .i64 (IntKind.i64.wrap (95 + (v4 : Int)))) :: (.pointer (some ⟨D, 0, none⟩)) :: (undef) :: (undef) :: (undef) :: (undef) :: (undef) :: (undef) :: (undef) :: (undef) :: (undef) :: (undef) :: (undef) :: (undef) :: []).toArray, []⟩ W := by
  have hcell := hR.cell
  have hlt := hR.ply.lt
  refine wpAny_ready (rs := [9, 18]) (by kernel_rfl) (by simp) ?_
  refine AllReady.cons rfl (fun K hK => ?_) ?_
  · simp only [ops53, Tryz.f63]
    go_simp
    refine hK _ _ ?_
    have hv3n : v3 < 9 := by omega
    refine wpAny_take (i := 12) (v := .pointer (some ⟨W.heap.size, v3, none⟩)) rfl (by kernel_rfl) (by kernel_rfl) (by kernel_rfl) (fun _ _ _ h => HQ.2 _ _ _ _ _ h) (Or.inl ⟨by rfl, fun w => by simp only [ops53, Tryz.f63]; go_simp⟩) ?_
    exact st_41110 D ao len cap zs base P bv n acts w Q HQ v1 v2 v3 v4 _ Bo _ (hR.alloc _) hv1 hv2 hv3 hv4 (NineAt.new hR) (hO.alloc _)
  refine AllReady.cons rfl (fun K hK => ?_) ?_
  · simp only [ops53, Tryz.f63]
    go_wp2_with (go_at_call 35; refine (roll_any D ao len cap zs base P bv n acts w W _ hR (by decide) (by decide)).mono ?_; rintro e w' ⟨v5, rfl, hv5, hr, hk⟩)
    refine wpAny_take (i := 19) (v := .int .i64 (IntKind.i64.wrap (1 + (v5 : Int)))) rfl (by kernel_rfl) (by kernel_rfl) (by kernel_rfl) (fun _ _ _ h => HQ.2 _ _ _ _ _ h) (Or.inl ⟨by rfl, fun w => by simp only [ops53, Tryz.f63]; go_simp⟩) ?_
    exact st_51010 D ao len cap zs base P bv n acts w Q HQ v1 v2 v3 v4 v5 Bo w' hr hv1 hv2 hv3 hv4 hv5 (hO.keep hk)
  exact AllReady.nil

theorem st_40110 (D : Nat) (ao : Option Addr) (len cap : Nat) (zs : Nat → Int) (base P bv n : Nat) (acts : Int) (w : World) (Q : Exit → Act → World → Prop) (HQ : FinOK D ao len cap zs base P bv n acts w Q) (v1 v2 v3 v4 : Nat) (Bs : Nat) (Bo : Nat) (W : World) (hR : Rolls D ao len cap zs base P bv n acts w W) (hv1 : (v1 : Int) < 4) (hv2 : (v2 : Int) < 2) (hv3 : (v3 : Int) < 9) (hv4 : (v4 : Int) < 10) (hN : NineAt D W Bs) (hO : SlotAt D w W Bo) :
    wpAny Tryz.prog .any ops53 Q 7 #[true, true, true, false, false, true, true, true, true, true, true, true, true, false, true, true, true, true, false, false, false, true, false] ⟨((.pointer (some ⟨P, 0, none⟩)) :: (.pointer (some ⟨D, 0, none⟩)) :: (undef) :: (undef) :: (.pointer (some ⟨w.heap.size, 0, none⟩)) :: (.pointer (some ⟨Bo, 0, none⟩)) :: (.pointer (some ⟨P, 0, none⟩)) :: (.pointer (some ⟨P, 0, none⟩)) :: (.pointer (some ⟨P, 1, none⟩)) :: (undef) :: (undef) :: (.pointer (some ⟨D, 0, none⟩)) :: (.int .i64 (v1 : Int)) :: (.pointer (some ⟨D, 0, none⟩)) :: (.int .i64 (v2 : Int)) :: (.slice (some ⟨Bs, 0, none⟩) 9 9) :: (.pointer (some ⟨D, 0, none⟩)) :: (.int .i64 (v3 : Int)) :: (.pointer (some ⟨Bs, v3, none⟩)) :: (undef) :: (.pointer (some ⟨D, 0, none⟩)) :: (.int .i64 (v4 : Int)) :: (.int .i64 (IntKind.i64.wrap (95 + (v4 : Int)))) :: (.pointer (some ⟨D, 0, none⟩)) :: (undef) :: (undef) :: (undef) :: (undef) :: (undef) :: (undef) :: (undef) :: (undef) :: (undef) :: (undef) :: (undef) :: (undef) :: []).toArray, []⟩ W := by
  have hcell := hR.cell
  have hlt := hR.ply.lt
  have hcv := hN.cells v3 (by omega)
  have hNl := hN.lt
  have hv3n : v3 < 9 := by omega
  refine wpAny_ready (rs := [3, 13, 18]) (by kernel_rfl) (by simp) ?_
  refine AllReady.cons rfl (fun K hK => ?_) ?_
  · simp only [ops53, Tryz.f63]
    go_simp
    refine hK _ _ ?_
    refine wpAny_take (i := 4) (v := .int .i64 (IntKind.i64.wrap ((n : Int) + 1))) rfl (by kernel_rfl) (by kernel_rfl) (by kernel_rfl) (fun _ _ _ h => HQ.2 _ _ _ _ _ h) (Or.inl ⟨by rfl, fun w => by simp only [ops53, Tryz.f63]; go_simp⟩) ?_
    exact st_41110 D ao len cap zs base P bv n acts w Q HQ v1 v2 v3 v4 Bs Bo _ hR hv1 hv2 hv3 hv4 hN hO
  refine AllReady.cons rfl (fun K hK => ?_) ?_
  · simp only [ops53, Tryz.f63]
    go_simp
    refine hK _ _ ?_
    exact st_40111 D ao len cap zs base P bv n acts w Q HQ v1 v2 v3 v4 Bs Bo _ hR hv1 hv2 hv3 hv4 hN hO
  refine AllReady.cons rfl (fun K hK => ?_) ?_
  · simp only [ops53, Tryz.f63]
    go_wp2_with (go_at_call 35; refine (roll_any D ao len cap zs base P bv n acts w W _ hR (by decide) (by decide)).mono ?_; rintro e w' ⟨v5, rfl, hv5, hr, hk⟩)
    refine wpAny_take (i := 19) (v := .int .i64 (IntKind.i64.wrap (1 + (v5 : Int)))) rfl (by kernel_rfl) (by kernel_rfl) (by kernel_rfl) (fun _ _ _ h => HQ.2 _ _ _ _ _ h) (Or.inl ⟨by rfl, fun w => by simp only [ops53, Tryz.f63]; go_simp⟩) ?_
    exact st_50110 D ao len cap zs base P bv n acts w Q HQ v1 v2 v3 v4 v5 Bs Bo w' hr hv1 hv2 hv3 hv4 hv5 (hN.keep hk) (hO.keep hk)
  exact AllReady.nil

theorem st_40101 (D : Nat) (ao : Option Addr) (len cap : Nat) (zs : Nat → Int) (base P bv n : Nat) (acts : Int) (w : World) (Q : Exit → Act → World → Prop) (HQ : FinOK D ao len cap zs base P bv n acts w Q) (v1 v2 v3 v4 : Nat) (Bs : Nat) (W : World) (hR : Rolls D ao len cap zs base P bv n acts w W) (hv1 : (v1 : Int) < 4) (hv2 : (v2 : Int) < 2) (hv3 : (v3 : Int) < 9) (hv4 : (v4 : Int) < 10) (hN : NineAt D W Bs) :
    wpAny Tryz.prog .any ops53 Q 7 #[true, true, true, false, false, true, true, true, true, true, true, true, true, true, true, true, true, true, false, false, false, false, false] ⟨((.pointer (some ⟨P, 0, none⟩)) :: (.pointer (some ⟨D, 0, none⟩)) :: (undef) :: (undef) :: (.pointer (some ⟨w.heap.size, 0, none⟩)) :: (undef) :: (.pointer (some ⟨P, 0, none⟩)) :: (.pointer (some ⟨P, 0, none⟩)) :: (.pointer (some ⟨P, 1, none⟩)) :: (undef) :: (undef) :: (.pointer (some ⟨D, 0, none⟩)) :: (.int .i64 (v1 : Int)) :: (.pointer (some ⟨D, 0, none⟩)) :: (.int .i64 (v2 : Int)) :: (.slice (some ⟨Bs, 0, none⟩) 9 9) :: (.pointer (some ⟨D, 0, none⟩)) :: (.int .i64 (v3 : Int)) :: (.pointer (some ⟨Bs, v3, none⟩)) :: (.int .i64 (kindOf v3)) :: (.pointer (some ⟨D, 0, none⟩)) :: (.int .i64 (v4 : Int)) :: (.int .i64 (IntKind.i64.wrap (95 + (v4 : Int)))) :: (.pointer (some ⟨D, 0, none⟩)) :: (undef) :: (undef) :: (undef) :: (undef) :: (undef) :: (undef) :: (undef) :: (undef) :: (undef) :: (undef) :: (undef) :: (undef) :: []).toArray, []⟩ W := by
  have hcell := hR.cell
  have hlt := hR.ply.lt
  have hcv := hN.cells v3 (by omega)
  have hNl := hN.lt
  have hv3n : v3 < 9 := by omega
  refine wpAny_ready (rs := [3, 18, 21]) (by kernel_rfl) (by simp) ?_
  refine AllReady.cons rfl (fun K hK => ?_) ?_
  · simp only [ops53, Tryz.f63]
    go_simp
    refine hK _ _ ?_
    refine wpAny_take (i := 4) (v := .int .i64 (IntKind.i64.wrap ((n : Int) + 1))) rfl (by kernel_rfl) (by kernel_rfl) (by kernel_rfl) (fun _ _ _ h => HQ.2 _ _ _ _ _ h) (Or.inl ⟨by rfl, fun w => by simp only [ops53, Tryz.f63]; go_simp⟩) ?_
    exact st_41101 D ao len cap zs base P bv n acts w Q HQ v1 v2 v3 v4 Bs _ hR hv1 hv2 hv3 hv4 hN
  refine AllReady.cons rfl (fun K hK => ?_) ?_
  · simp only [ops53, Tryz.f63]
    go_wp2_with (go_at_call 35; refine (roll_any D ao len cap zs base P bv n acts w W _ hR (by decide) (by decide)).mono ?_; rintro e w' ⟨v5, rfl, hv5, hr, hk⟩)
    refine wpAny_take (i := 19) (v := .int .i64 (IntKind.i64.wrap (1 + (v5 : Int)))) rfl (by kernel_rfl) (by kernel_rfl) (by kernel_rfl) (fun _ _ _ h => HQ.2 _ _ _ _ _ h) (Or.inl ⟨by rfl, fun w => by simp only [ops53, Tryz.f63]; go_simp⟩) ?_
    exact st_50101 D ao len cap zs base P bv n acts w Q HQ v1 v2 v3 v4 v5 Bs w' hr hv1 hv2 hv3 hv4 hv5 (hN.keep hk)
  refine AllReady.cons rfl (fun K hK => ?_) ?_
  · simp only [ops53, Tryz.f63]
    go_simp
    refine hK _ _ ?_
    exact st_40111 D ao len cap zs base P bv n acts w Q HQ v1 v2 v3 v4 Bs _ _ (hR.alloc _) hv1 hv2 hv3 hv4 (hN.alloc _) (SlotAt.make hR)
  exact AllReady.nil

theorem st_31110 (D : Nat) (ao : Option Addr) (len cap : Nat) (zs : Nat → Int) (base P bv n : Nat) (acts : Int) (w : World) (Q : Exit → Act → World → Prop) (HQ : FinOK D ao len cap zs base P bv n acts w Q) (v1 v2 v3 : Nat) (Bs : Nat) (Bo : Nat) (W : World) (hR : Rolls D ao len cap zs base P bv n acts w W) (hv1 : (v1 : Int) < 4) (hv2 : (v2 : Int) < 2) (hv3 : (v3 : Int) < 9) (hN : NineAt D W Bs) (hO : SlotAt D w W Bo) :
    wpAny Tryz.prog .any ops53 Q 7 #[true, true, true, true, true, true, true, true, true, true, true, true, true, false, true, false, false, true, false, false, false, true, false] ⟨((.pointer (some ⟨P, 0, none⟩)) :: (.pointer (some ⟨D, 0, none⟩)) :: (undef) :: (undef) :: (.pointer (some ⟨w.heap.size, 0, none⟩)) :: (.pointer (some ⟨Bo, 0, none⟩)) :: (.pointer (some ⟨P, 0, none⟩)) :: (.pointer (some ⟨P, 0, none⟩)) :: (.pointer (some ⟨P, 1, none⟩)) :: (.int .i64 (n : Int)) :: (.int .i64 (IntKind.i64.wrap ((n : Int) + 1))) :: (.pointer (some ⟨D, 0, none⟩)) :: (.int .i64 (v1 : Int)) :: (.pointer (some ⟨D, 0, none⟩)) :: (.int .i64 (v2 : Int)) :: (.slice (some ⟨Bs, 0, none⟩) 9 9) :: (.pointer (some ⟨D, 0, none⟩)) :: (.int .i64 (v3 : Int)) :: (.pointer (some ⟨Bs, v3, none⟩)) :: (undef) :: (.pointer (some ⟨D, 0, none⟩)) :: (undef) :: (undef) :: (.pointer (some ⟨D, 0, none⟩)) :: (undef) :: (undef) :: (undef) :: (undef) :: (undef) :: (undef) :: (undef) :: (undef) :: (undef) :: (undef) :: (undef) :: (undef) :: []).toArray, []⟩ W := by
  have hcell := hR.cell
  have hlt := hR.ply.lt
  have hcv := hN.cells v3 (by omega)
  have hNl := hN.lt
  have hv3n : v3 < 9 := by omega
  refine wpAny_ready (rs := [13, 15]) (by kernel_rfl) (by simp) ?_
  refine AllReady.cons rfl (fun K hK => ?_) ?_
  · simp only [ops53, Tryz.f63]
    go_simp
    refine hK _ _ ?_
    exact st_31111 D ao len cap zs base P bv n acts w Q HQ v1 v2 v3 Bs Bo _ hR hv1 hv2 hv3 hN hO
  refine AllReady.cons rfl (fun K hK => ?_) ?_
  · simp only [ops53, Tryz.f63]
    go_wp2_with (go_at_call 35; refine (roll_any D ao len cap zs base P bv n acts w W _ hR (by decide) (by decide)).mono ?_; rintro e w' ⟨v4, rfl, hv4, hr, hk⟩)
    refine wpAny_take (i := 16) (v := .int .i64 (IntKind.i64.wrap (95 + (v4 : Int)))) rfl (by kernel_rfl) (by kernel_rfl) (by kernel_rfl) (fun _ _ _ h => HQ.2 _ _ _ _ _ h) (Or.inl ⟨by rfl, fun w => by simp only [ops53, Tryz.f63]; go_simp⟩) ?_
    exact st_41110 D ao len cap zs base P bv n acts w Q HQ v1 v2 v3 v4 Bs Bo w' hr hv1 hv2 hv3 hv4 (hN.keep hk) (hO.keep hk)
  exact AllReady.nil

theorem st_31101 (D : Nat) (ao : Option Addr) (len cap : Nat) (zs : Nat → Int) (base P bv n : Nat) (acts : Int) (w : World) (Q : Exit → Act → World → Prop) (HQ : FinOK D ao len cap zs base P bv n acts w Q) (v1 v2 v3 : Nat) (Bs : Nat) (W : World) (hR : Rolls D ao len cap zs base P bv n acts w W) (hv1 : (v1 : Int) < 4) (hv2 : (v2 : Int) < 2) (hv3 : (v3 : Int) < 9) (hN : NineAt D W Bs) :
    wpAny Tryz.prog .any ops53 Q 7 #[true, true, true, true, true, true, true, true, true, true, true, true, true, true, true, false, false, true, false, false, false, false, false] ⟨((.pointer (some ⟨P, 0, none⟩)) :: (.pointer (some ⟨D, 0, none⟩)) :: (undef) :: (undef) :: (.pointer (some ⟨w.heap.size, 0, none⟩)) :: (undef) :: (.pointer (some ⟨P, 0, none⟩)) :: (.pointer (some ⟨P, 0, none⟩)) :: (.pointer (some ⟨P, 1, none⟩)) :: (.int .i64 (n : Int)) :: (.int .i64 (IntKind.i64.wrap ((n : Int) + 1))) :: (.pointer (some ⟨D, 0, none⟩)) :: (.int .i64 (v1 : Int)) :: (.pointer (some ⟨D, 0, none⟩)) :: (.int .i64 (v2 : Int)) :: (.slice (some ⟨Bs, 0, none⟩) 9 9) :: (.pointer (some ⟨D, 0, none⟩)) :: (.int .i64 (v3 : Int)) :: (.pointer (some ⟨Bs, v3, none⟩)) :: (.int .i64 (kindOf v3)) :: (.pointer (some ⟨D, 0, none⟩)) :: (undef) :: (undef) :: (.pointer (some ⟨D, 0, none⟩)) :: (undef) :: (undef) :: (undef) :: (undef) :: (undef) :: (undef) :: (undef) :: (undef) :: (undef) :: (undef) :: (undef) :: (undef) :: []).toArray, []⟩ W := by
  have hcell := hR.cell
  have hlt := hR.ply.lt
  have hcv := hN.cells v3 (by omega)
  have hNl := hN.lt
  have hv3n : v3 < 9 := by omega
  refine wpAny_ready (rs := [15, 21]) (by kernel_rfl) (by simp) ?_
  refine AllReady.cons rfl (fun K hK => ?_) ?_
  · simp only [ops53, Tryz.f63]
    go_wp2_with (go_at_call 35; refine (roll_any D ao len cap zs base P bv n acts w W _ hR (by decide) (by decide)).mono ?_; rintro e w' ⟨v4, rfl, hv4, hr, hk⟩)
    refine wpAny_take (i := 16) (v := .int .i64 (IntKind.i64.wrap (95 + (v4 : Int)))) rfl (by kernel_rfl) (by kernel_rfl) (by kernel_rfl) (fun _ _ _ h => HQ.2 _ _ _ _ _ h) (Or.inl ⟨by rfl, fun w => by simp only [ops53, Tryz.f63]; go_simp⟩) ?_
    exact st_41101 D ao len cap zs base P bv n acts w Q HQ v1 v2 v3 v4 Bs w' hr hv1 hv2 hv3 hv4 (hN.keep hk)
  refine AllReady.cons rfl (fun K hK => ?_) ?_
  · simp only [ops53, Tryz.f63]
    go_simp
    refine hK _ _ ?_
    exact st_31111 D ao len cap zs base P bv n acts w Q HQ v1 v2 v3 Bs _ _ (hR.alloc _) hv1 hv2 hv3 (hN.alloc _) (SlotAt.make hR)
  exact AllReady.nil

theorem st_50000 (D : Nat) (ao : Option Addr) (len cap : Nat) (zs : Nat → Int) (base P bv n : Nat) (acts : Int) (w : World) (Q : Exit → Act → World → Prop) (HQ : FinOK D ao len cap zs base P bv n acts w Q) (v1 v2 v3 v4 v5 : Nat) (W : World) (hR : Rolls D ao len cap zs base P bv n acts w W) (hv1 : (v1 : Int) < 4) (hv2 : (v2 : Int) < 2) (hv3 : (v3 : Int) < 9) (hv4 : (v4 : Int) < 10) (hv5 : (v5 : Int) < 9) :
    wpAny Tryz.prog .any ops53 Q 8 #[true, true, true, false, false, true, true, true, true, false, true, true, false, false, true, true, true, true, true, true, false, false, false] ⟨((.pointer (some ⟨P, 0, none⟩)) :: (.pointer (some ⟨D, 0, none⟩)) :: (undef) :: (undef) :: (.pointer (some ⟨w.heap.size, 0, none⟩)) :: (undef) :: (.pointer (some ⟨P, 0, none⟩)) :: (.pointer (some ⟨P, 0, none⟩)) :: (.pointer (some ⟨P, 1, none⟩)) :: (undef) :: (undef) :: (.pointer (some ⟨D, 0, none⟩)) :: (.int .i64 (v1 : Int)) :: (.pointer (some ⟨D, 0, none⟩)) :: (.int .i64 (v2 : Int)) :: (undef) :: (.pointer (some ⟨D, 0, none⟩)) :: (.int .i64 (v3 : Int)) :: (undef) :: (undef) :: (.pointer (some ⟨D, 0, none⟩)) :: (.int .i64 (v4 : Int)) :: (.int .i64 (IntKind.i64.wrap (95 + (v4 : Int)))) :: (.pointer (some ⟨D, 0, none⟩)) :: (.int .i64 (v5 : Int)) :: (.int .i64 (IntKind.i64.wrap (1 + (v5 : Int)))) :: (undef) :: (undef) :: (undef) :: (undef) :: (undef) :: (undef) :: (undef) :: (undef) :: (undef) :: (undef) :: []).toArray, []⟩ W := by
  have hcell := hR.cell
  have hlt := hR.ply.lt
  refine wpAny_ready (rs := [3, 9, 21]) (by kernel_rfl) (by simp) ?_
  refine AllReady.cons rfl (fun K hK => ?_) ?_
  · simp only [ops53, Tryz.f63]
    go_simp
    refine hK _ _ ?_
    refine wpAny_take (i := 4) (v := .int .i64 (IntKind.i64.wrap ((n : Int) + 1))) rfl (by kernel_rfl) (by kernel_rfl) (by kernel_rfl) (fun _ _ _ h => HQ.2 _ _ _ _ _ h) (Or.inl ⟨by rfl, fun w => by simp only [ops53, Tryz.f63]; go_simp⟩) ?_
    exact st_51000 D ao len cap zs base P bv n acts w Q HQ v1 v2 v3 v4 v5 _ hR hv1 hv2 hv3 hv4 hv5
  refine AllReady.cons rfl (fun K hK => ?_) ?_
  · simp only [ops53, Tryz.f63]
    go_simp
    refine hK _ _ ?_
    have hv3n : v3 < 9 := by omega
    refine wpAny_take (i := 12) (v := .pointer (some ⟨W.heap.size, v3, none⟩)) rfl (by kernel_rfl) (by kernel_rfl) (by kernel_rfl) (fun _ _ _ h => HQ.2 _ _ _ _ _ h) (Or.inl ⟨by rfl, fun w => by simp only [ops53, Tryz.f63]; go_simp⟩) ?_
    exact st_50100 D ao len cap zs base P bv n acts w Q HQ v1 v2 v3 v4 v5 _ _ (hR.alloc _) hv1 hv2 hv3 hv4 hv5 (NineAt.new hR)
  refine AllReady.cons rfl (fun K hK => ?_) ?_
  · simp only [ops53, Tryz.f63]
    go_simp
    refine hK _ _ ?_
    exact st_50010 D ao len cap zs base P bv n acts w Q HQ v1 v2 v3 v4 v5 _ _ (hR.alloc _) hv1 hv2 hv3 hv4 hv5 (SlotAt.make hR)
  exact AllReady.nil

theorem st_41000 (D : Nat) (ao : Option Addr) (len cap : Nat) (zs : Nat → Int) (base P bv n : Nat) (acts : Int) (w : World) (Q : Exit → Act → World → Prop) (HQ : FinOK D ao len cap zs base P bv n acts w Q) (v1 v2 v3 v4 : Nat) (W : World) (hR : Rolls D ao len cap zs base P bv n acts w W) (hv1 : (v1 : Int) < 4) (hv2 : (v2 : Int) < 2) (hv3 : (v3 : Int) < 9) (hv4 : (v4 : Int) < 10) :
    wpAny Tryz.prog .any ops53 Q 8 #[true, true, true, true, true, true, true, true, true, false, true, true, false, false, true, true, true, true, false, false, false, false, false] ⟨((.pointer (some ⟨P, 0, none⟩)) :: (.pointer (some ⟨D, 0, none⟩)) :: (undef) :: (undef) :: (.pointer (some ⟨w.heap.size, 0, none⟩)) :: (undef) :: (.pointer (some ⟨P, 0, none⟩)) :: (.pointer (some ⟨P, 0, none⟩)) :: (.pointer (some ⟨P, 1, none⟩)) :: (.int .i64 (n : Int)) :: (.int .i64 (IntKind.i64.wrap ((n : Int) + 1))) :: (.pointer (some ⟨D, 0, none⟩)) :: (.int .i64 (v1 : Int)) :: (.pointer (some ⟨D, 0, none⟩)) :: (.int .i64 (v2 : Int)) :: (undef) :: (.pointer (some ⟨D, 0, none⟩)) :: (.int .i64 (v3 : Int)) :: (undef) :: (undef) :: (.pointer (some ⟨D, 0, none⟩)) :: (.int .i64 (v4 : Int)) :: (.int .i64 (IntKind.i64.wrap (95 + (v4 : Int)))) :: (.pointer (some ⟨D, 0, none⟩)) :: (undef) :: (undef) :: (undef) :: (undef) :: (undef) :: (undef) :: (undef) :: (undef) :: (undef) :: (undef) :: (undef) :: (undef) :: []).toArray, []⟩ W := by
  have hcell := hR.cell
  have hlt := hR.ply.lt
  refine wpAny_ready (rs := [9, 18, 21]) (by kernel_rfl) (by simp) ?_
  refine AllReady.cons rfl (fun K hK => ?_) ?_
  · simp only [ops53, Tryz.f63]
    go_simp
    refine hK _ _ ?_
    have hv3n : v3 < 9 := by omega
    refine wpAny_take (i := 12) (v := .pointer (some ⟨W.heap.size, v3, none⟩)) rfl (by kernel_rfl) (by kernel_rfl) (by kernel_rfl) (fun _ _ _ h => HQ.2 _ _ _ _ _ h) (Or.inl ⟨by rfl, fun w => by simp only [ops53, Tryz.f63]; go_simp⟩) ?_
    exact st_41100 D ao len cap zs base P bv n acts w Q HQ v1 v2 v3 v4 _ _ (hR.alloc _) hv1 hv2 hv3 hv4 (NineAt.new hR)
  refine AllReady.cons rfl (fun K hK => ?_) ?_
  · simp only [ops53, Tryz.f63]
    go_wp2_with (go_at_call 35; refine (roll_any D ao len cap zs base P bv n acts w W _ hR (by decide) (by decide)).mono ?_; rintro e w' ⟨v5, rfl, hv5, hr, hk⟩)
    refine wpAny_take (i := 19) (v := .int .i64 (IntKind.i64.wrap (1 + (v5 : Int)))) rfl (by kernel_rfl) (by kernel_rfl) (by kernel_rfl) (fun _ _ _ h => HQ.2 _ _ _ _ _ h) (Or.inl ⟨by rfl, fun w => by simp only [ops53, Tryz.f63]; go_simp⟩) ?_
    exact st_51000 D ao len cap zs base P bv n acts w Q HQ v1 v2 v3 v4 v5 w' hr hv1 hv2 hv3 hv4 hv5
  refine AllReady.cons rfl (fun K hK => ?_) ?_
  · simp only [ops53, Tryz.f63]
    go_simp
    refine hK _ _ ?_
    exact st_41010 D ao len cap zs base P bv n acts w Q HQ v1 v2 v3 v4 _ _ (hR.alloc _) hv1 hv2 hv3 hv4 (SlotAt.make hR)
  exact AllReady.nil

theorem st_40100 (D : Nat) (ao : Option Addr) (len cap : Nat) (zs : Nat → Int) (base P bv n : Nat) (acts : Int) (w : World) (Q : Exit → Act → World → Prop) (HQ : FinOK D ao len cap zs base P bv n acts w Q) (v1 v2 v3 v4 : Nat) (Bs : Nat) (W : World) (hR : Rolls D ao len cap zs base P bv n acts w W) (hv1 : (v1 : Int) < 4) (hv2 : (v2 : Int) < 2) (hv3 : (v3 : Int) < 9) (hv4 : (v4 : Int) < 10) (hN : NineAt D W Bs) :
    wpAny Tryz.prog .any ops53 Q 8 #[true, true, true, false, false, true, true, true, true, true, true, true, true, false, true, true, true, true, false, false, false, false, false] ⟨((.pointer (some ⟨P, 0, none⟩)) :: (.pointer (some ⟨D, 0, none⟩)) :: (undef) :: (undef) :: (.pointer (some ⟨w.heap.size, 0, none⟩)) :: (undef) :: (.pointer (some ⟨P, 0, none⟩)) :: (.pointer (some ⟨P, 0, none⟩)) :: (.pointer (some ⟨P, 1, none⟩)) :: (undef) :: (undef) :: (.pointer (some ⟨D, 0, none⟩)) :: (.int .i64 (v1 : Int)) :: (.pointer (some ⟨D, 0, none⟩)) :: (.int .i64 (v2 : Int)) :: (.slice (some ⟨Bs, 0, none⟩) 9 9) :: (.pointer (some ⟨D, 0, none⟩)) :: (.int .i64 (v3 : Int)) :: (.pointer (some ⟨Bs, v3, none⟩)) :: (undef) :: (.pointer (some ⟨D, 0, none⟩)) :: (.int .i64 (v4 : Int)) :: (.int .i64 (IntKind.i64.wrap (95 + (v4 : Int)))) :: (.pointer (some ⟨D, 0, none⟩)) :: (undef) :: (undef) :: (undef) :: (undef) :: (undef) :: (undef) :: (undef) :: (undef) :: (undef) :: (undef) :: (undef) :: (undef) :: []).toArray, []⟩ W := by
  have hcell := hR.cell
  have hlt := hR.ply.lt
  have hcv := hN.cells v3 (by omega)
  have hNl := hN.lt
  have hv3n : v3 < 9 := by omega
  refine wpAny_ready (rs := [3, 13, 18, 21]) (by kernel_rfl) (by simp) ?_
  refine AllReady.cons rfl (fun K hK => ?_) ?_
  · simp only [ops53, Tryz.f63]
    go_simp
    refine hK _ _ ?_
    refine wpAny_take (i := 4) (v := .int .i64 (IntKind.i64.wrap ((n : Int) + 1))) rfl (by kernel_rfl) (by kernel_rfl) (by kernel_rfl) (fun _ _ _ h => HQ.2 _ _ _ _ _ h) (Or.inl ⟨by rfl, fun w => by simp only [ops53, Tryz.f63]; go_simp⟩) ?_
    exact st_41100 D ao len cap zs base P bv n acts w Q HQ v1 v2 v3 v4 Bs _ hR hv1 hv2 hv3 hv4 hN
  refine AllReady.cons rfl (fun K hK => ?_) ?_
  · simp only [ops53, Tryz.f63]
    go_simp
    refine hK _ _ ?_
    exact st_40101 D ao len cap zs base P bv n acts w Q HQ v1 v2 v3 v4 Bs _ hR hv1 hv2 hv3 hv4 hN
  refine AllReady.cons rfl (fun K hK => ?_) ?_
  · simp only [ops53, Tryz.f63]
    go_wp2_with (go_at_call 35; refine (roll_any D ao len cap zs base P bv n acts w W _ hR (by decide) (by decide)).mono ?_; rintro e w' ⟨v5, rfl, hv5, hr, hk⟩)
    refine wpAny_take (i := 19) (v := .int .i64 (IntKind.i64.wrap (1 + (v5 : Int)))) rfl (by kernel_rfl) (by kernel_rfl) (by kernel_rfl) (fun _ _ _ h => HQ.2 _ _ _ _ _ h) (Or.inl ⟨by rfl, fun w => by simp only [ops53, Tryz.f63]; go_simp⟩) ?_
    exact st_50100 D ao len cap zs base P bv n acts w Q HQ v1 v2 v3 v4 v5 Bs w' hr hv1 hv2 hv3 hv4 hv5 (hN.keep hk)
  refine AllReady.cons rfl (fun K hK => ?_) ?_
  · simp only [ops53, Tryz.f63]
    go_simp
    refine hK _ _ ?_
    exact st_40110 D ao len cap zs base P bv n acts w Q HQ v1 v2 v3 v4 Bs _ _ (hR.alloc _) hv1 hv2 hv3 hv4 (hN.alloc _) (SlotAt.make hR)
  exact AllReady.nil

theorem st_31100 (D : Nat) (ao : Option Addr) (len cap : Nat) (zs : Nat → Int) (base P bv n : Nat) (acts : Int) (w : World) (Q : Exit → Act → World → Prop) (HQ : FinOK D ao len cap zs base P bv n acts w Q) (v1 v2 v3 : Nat) (Bs : Nat) (W : World) (hR : Rolls D ao len cap zs base P bv n acts w W) (hv1 : (v1 : Int) < 4) (hv2 : (v2 : Int) < 2) (hv3 : (v3 : Int) < 9) (hN : NineAt D W Bs) :
    wpAny Tryz.prog .any ops53 Q 8 #[true, true, true, true, true, true, true, true, true, true, true, true, true, false, true, false, false, true, false, false, false, false, false] ⟨((.pointer (some ⟨P, 0, none⟩)) :: (.pointer (some ⟨D, 0, none⟩)) :: (undef) :: (undef) :: (.pointer (some ⟨w.heap.size, 0, none⟩)) :: (undef) :: (.pointer (some ⟨P, 0, none⟩)) :: (.pointer (some ⟨P, 0, none⟩)) :: (.pointer (some ⟨P, 1, none⟩)) :: (.int .i64 (n : Int)) :: (.int .i64 (IntKind.i64.wrap ((n : Int) + 1))) :: (.pointer (some ⟨D, 0, none⟩)) :: (.int .i64 (v1 : Int)) :: (.pointer (some ⟨D, 0, none⟩)) :: (.int .i64 (v2 : Int)) :: (.slice (some ⟨Bs, 0, none⟩) 9 9) :: (.pointer (some ⟨D, 0, none⟩)) :: (.int .i64 (v3 : Int)) :: (.pointer (some ⟨Bs, v3, none⟩)) :: (undef) :: (.pointer (some ⟨D, 0, none⟩)) :: (undef) :: (undef) :: (.pointer (some ⟨D, 0, none⟩)) :: (undef) :: (undef) :: (undef) :: (undef) :: (undef) :: (undef) :: (undef) :: (undef) :: (undef) :: (undef) :: (undef) :: (undef) :: []).toArray, []⟩ W := by
  have hcell := hR.cell
  have hlt := hR.ply.lt
  have hcv := hN.cells v3 (by omega)
  have hNl := hN.lt
  have hv3n : v3 < 9 := by omega
  refine wpAny_ready (rs := [13, 15, 21]) (by kernel_rfl) (by simp) ?_
  refine AllReady.cons rfl (fun K hK => ?_) ?_
  · simp only [ops53, Tryz.f63]
    go_simp
    refine hK _ _ ?_
    exact st_31101 D ao len cap zs base P bv n acts w Q HQ v1 v2 v3 Bs _ hR hv1 hv2 hv3 hN
  refine AllReady.cons rfl (fun K hK => ?_) ?_
  · simp only [ops53, Tryz.f63]
    go_wp2_with (go_at_call 35; refine (roll_any D ao len cap zs base P bv n acts w W _ hR (by decide) (by decide)).mono ?_; rintro e w' ⟨v4, rfl, hv4, hr, hk⟩)
    refine wpAny_take (i := 16) (v := .int .i64 (IntKind.i64.wrap (95 + (v4 : Int)))) rfl (by kernel_rfl) (by kernel_rfl) (by kernel_rfl) (fun _ _ _ h => HQ.2 _ _ _ _ _ h) (Or.inl ⟨by rfl, fun w => by simp only [ops53, Tryz.f63]; go_simp⟩) ?_
    exact st_41100 D ao len cap zs base P bv n acts w Q HQ v1 v2 v3 v4 Bs w' hr hv1 hv2 hv3 hv4 (hN.keep hk)
  refine AllReady.cons rfl (fun K hK => ?_) ?_
  · simp only [ops53, Tryz.f63]
    go_simp
    refine hK _ _ ?_
    exact st_31110 D ao len cap zs base P bv n acts w Q HQ v1 v2 v3 Bs _ _ (hR.alloc _) hv1 hv2 hv3 (hN.alloc _) (SlotAt.make hR)
  exact AllReady.nil

theorem st_30111 (D : Nat) (ao : Option Addr) (len cap : Nat) (zs : Nat → Int) (base P bv n : Nat) (acts : Int) (w : World) (Q : Exit → Act → World → Prop) (HQ : FinOK D ao len cap zs base P bv n acts w Q) (v1 v2 v3 : Nat) (Bs : Nat) (Bo : Nat) (W : World) (hR : Rolls D ao len cap zs base P bv n acts w W) (hv1 : (v1 : Int) < 4) (hv2 : (v2 : Int) < 2) (hv3 : (v3 : Int) < 9) (hN : NineAt D W Bs) (hO : SlotAt D w W Bo) :
    wpAny Tryz.prog .any ops53 Q 8 #[true, true, true, false, false, true, true, true, true, true, true, true, true, true, true, false, false, true, false, false, false, true, false] ⟨((.pointer (some ⟨P, 0, none⟩)) :: (.pointer (some ⟨D, 0, none⟩)) :: (undef) :: (undef) :: (.pointer (some ⟨w.heap.size, 0, none⟩)) :: (.pointer (some ⟨Bo, 0, none⟩)) :: (.pointer (some ⟨P, 0, none⟩)) :: (.pointer (some ⟨P, 0, none⟩)) :: (.pointer (some ⟨P, 1, none⟩)) :: (undef) :: (undef) :: (.pointer (some ⟨D, 0, none⟩)) :: (.int .i64 (v1 : Int)) :: (.pointer (some ⟨D, 0, none⟩)) :: (.int .i64 (v2 : Int)) :: (.slice (some ⟨Bs, 0, none⟩) 9 9) :: (.pointer (some ⟨D, 0, none⟩)) :: (.int .i64 (v3 : Int)) :: (.pointer (some ⟨Bs, v3, none⟩)) :: (.int .i64 (kindOf v3)) :: (.pointer (some ⟨D, 0, none⟩)) :: (undef) :: (undef) :: (.pointer (some ⟨D, 0, none⟩)) :: (undef) :: (undef) :: (undef) :: (undef) :: (undef) :: (undef) :: (undef) :: (undef) :: (undef) :: (undef) :: (undef) :: (undef) :: []).toArray, []⟩ W := by
  have hcell := hR.cell
  have hlt := hR.ply.lt
  have hcv := hN.cells v3 (by omega)
  have hNl := hN.lt
  have hv3n : v3 < 9 := by omega
  refine wpAny_ready (rs := [3, 15]) (by kernel_rfl) (by simp) ?_
  refine AllReady.cons rfl (fun K hK => ?_) ?_
  · simp only [ops53, Tryz.f63]
    go_simp
    refine hK _ _ ?_
    refine wpAny_take (i := 4) (v := .int .i64 (IntKind.i64.wrap ((n : Int) + 1))) rfl (by kernel_rfl) (by kernel_rfl) (by kernel_rfl) (fun _ _ _ h => HQ.2 _ _ _ _ _ h) (Or.inl ⟨by rfl, fun w => by simp only [ops53, Tryz.f63]; go_simp⟩) ?_
    exact st_31111 D ao len cap zs base P bv n acts w Q HQ v1 v2 v3 Bs Bo _ hR hv1 hv2 hv3 hN hO
  refine AllReady.cons rfl (fun K hK => ?_) ?_
  · simp only [ops53, Tryz.f63]
    go_wp2_with (go_at_call 35; refine (roll_any D ao len cap zs base P bv n acts w W _ hR (by decide) (by decide)).mono ?_; rintro e w' ⟨v4, rfl, hv4, hr, hk⟩)
    refine wpAny_take (i := 16) (v := .int .i64 (IntKind.i64.wrap (95 + (v4 : Int)))) rfl (by kernel_rfl) (by kernel_rfl) (by kernel_rfl) (fun _ _ _ h => HQ.2 _ _ _ _ _ h) (Or.inl ⟨by rfl, fun w => by simp only [ops53, Tryz.f63]; go_simp⟩) ?_
    exact st_40111 D ao len cap zs base P bv n acts w Q HQ v1 v2 v3 v4 Bs Bo w' hr hv1 hv2 hv3 hv4 (hN.keep hk) (hO.keep hk)
  exact AllReady.nil

theorem st_40010 (D : Nat) (ao : Option Addr) (len cap : Nat) (zs : Nat → Int) (base P bv n : Nat) (acts : Int) (w : World) (Q : Exit → Act → World → Prop) (HQ : FinOK D ao len cap zs base P bv n acts w Q) (v1 v2 v3 v4 : Nat) (Bo : Nat) (W : World) (hR : Rolls D ao len cap zs base P bv n acts w W) (hv1 : (v1 : Int) < 4) (hv2 : (v2 : Int) < 2) (hv3 : (v3 : Int) < 9) (hv4 : (v4 : Int) < 10) (hO : SlotAt D w W Bo) :
    wpAny Tryz.prog .any ops53 Q 9 #[true, true, true, false, false, true, true, true, true, false, true, true, false, false, true, true, true, true, false, false, false, true, false] ⟨((.pointer (some ⟨P, 0, none⟩)) :: (.pointer (some ⟨D, 0, none⟩)) :: (undef) :: (undef) :: (.pointer (some ⟨w.heap.size, 0, none⟩)) :: (.pointer (some ⟨Bo, 0, none⟩)) :: (.pointer (some ⟨P, 0, none⟩)) :: (.pointer (some ⟨P, 0, none⟩)) :: (.pointer (some ⟨P, 1, none⟩)) :: (undef) :: (undef) :: (.pointer (some ⟨D, 0, none⟩)) :: (.int .i64 (v1 : Int)) :: (.pointer (some ⟨D, 0, none⟩)) :: (.int .i64 (v2 : Int)) :: (undef) :: (.pointer (some ⟨D, 0, none⟩)) :: (.int .i64 (v3 : Int)) :: (undef) :: (undef) :: (.pointer (some ⟨D, 0, none⟩)) :: (.int .i64 (v4 : Int)) :: (.int .i64 (IntKind.i64.wrap (95 + (v4 : Int)))) :: (.pointer (some ⟨D, 0, none⟩)) :: (undef) :: (undef) :: (undef) :: (undef) :: (undef) :: (undef) :: (undef) :: (undef) :: (undef) :: (undef) :: (undef) :: (undef) :: []).toArray, []⟩ W := by
  have hcell := hR.cell
  have hlt := hR.ply.lt
  refine wpAny_ready (rs := [3, 9, 18]) (by kernel_rfl) (by simp) ?_
  refine AllReady.cons rfl (fun K hK => ?_) ?_
  · simp only [ops53, Tryz.f63]
    go_simp
    refine hK _ _ ?_
    refine wpAny_take (i := 4) (v := .int .i64 (IntKind.i64.wrap ((n : Int) + 1))) rfl (by kernel_rfl) (by kernel_rfl) (by kernel_rfl) (fun _ _ _ h => HQ.2 _ _ _ _ _ h) (Or.inl ⟨by rfl, fun w => by simp only [ops53, Tryz.f63]; go_simp⟩) ?_
    exact st_41010 D ao len cap zs base P bv n acts w Q HQ v1 v2 v3 v4 Bo _ hR hv1 hv2 hv3 hv4 hO
  refine AllReady.cons rfl (fun K hK => ?_) ?_
  · simp only [ops53, Tryz.f63]
    go_simp
    refine hK _ _ ?_
    have hv3n : v3 < 9 := by omega
    refine wpAny_take (i := 12) (v := .pointer (some ⟨W.heap.size, v3, none⟩)) rfl (by kernel_rfl) (by kernel_rfl) (by kernel_rfl) (fun _ _ _ h => HQ.2 _ _ _ _ _ h) (Or.inl ⟨by rfl, fun w => by simp only [ops53, Tryz.f63]; go_simp⟩) ?_
    exact st_40110 D ao len cap zs base P bv n acts w Q HQ v1 v2 v3 v4 _ Bo _ (hR.alloc _) hv1 hv2 hv3 hv4 (NineAt.new hR) (hO.alloc _)
  refine AllReady.cons rfl (fun K hK => ?_) ?_
  · simp only [ops53, Tryz.f63]
    go_wp2_with (go_at_call 35; refine (roll_any D ao len cap zs base P bv n acts w W _ hR (by decide) (by decide)).mono ?_; rintro e w' ⟨v5, rfl, hv5, hr, hk⟩)
    refine wpAny_take (i := 19) (v := .int .i64 (IntKind.i64.wrap (1 + (v5 : Int)))) rfl (by kernel_rfl) (by kernel_rfl) (by kernel_rfl) (fun _ _ _ h => HQ.2 _ _ _ _ _ h) (Or.inl ⟨by rfl, fun w => by simp only [ops53, Tryz.f63]; go_simp⟩) ?_
    exact st_50010 D ao len cap zs base P bv n acts w Q HQ v1 v2 v3 v4 v5 Bo w' hr hv1 hv2 hv3 hv4 hv5 (hO.keep hk)
  exact AllReady.nil

theorem st_31010 (D : Nat) (ao : Option Addr) (len cap : Nat) (zs : Nat → Int) (base P bv n : Nat) (acts : Int) (w : World) (Q : Exit → Act → World → Prop) (HQ : FinOK D ao len cap zs base P bv n acts w Q) (v1 v2 v3 : Nat) (Bo : Nat) (W : World) (hR : Rolls D ao len cap zs base P bv n acts w W) (hv1 : (v1 : Int) < 4) (hv2 : (v2 : Int) < 2) (hv3 : (v3 : Int) < 9) (hO : SlotAt D w W Bo) :
    wpAny Tryz.prog .any ops53 Q 9 #[true, true, true, true, true, true, true, true, true, false, true, true, false, false, true, false, false, true, false, false, false, true, false] ⟨((.pointer (some ⟨P, 0, none⟩)) :: (.pointer (some ⟨D, 0, none⟩)) :: (undef) :: (undef) :: (.pointer (some ⟨w.heap.size, 0, none⟩)) :: (.pointer (some ⟨Bo, 0, none⟩)) :: (.pointer (some ⟨P, 0, none⟩)) :: (.pointer (some ⟨P, 0, none⟩)) :: (.pointer (some ⟨P, 1, none⟩)) :: (.int .i64 (n : Int)) :: (.int .i64 (IntKind.i64.wrap ((n : Int) + 1))) :: (.pointer (some ⟨D, 0, none⟩)) :: (.int .i64 (v1 : Int)) :: (.pointer (some ⟨D, 0, none⟩)) :: (.int .i64 (v2 : Int)) :: (undef) :: (.pointer (some ⟨D, 0, none⟩)) :: (.int .i64 (v3 : Int)) :: (undef) :: (undef) :: (.pointer (some ⟨D, 0, none⟩)) :: (undef) :: (undef) :: (.pointer (some ⟨D, 0, none⟩)) :: (undef) :: (undef) :: (undef) :: (undef) :: (undef) :: (undef) :: (undef) :: (undef) :: (undef) :: (undef) :: (undef) :: (undef) :: []).toArray, []⟩ W := by
  have hcell := hR.cell
  have hlt := hR.ply.lt
  refine wpAny_ready (rs := [9, 15]) (by kernel_rfl) (by simp) ?_
  refine AllReady.cons rfl (fun K hK => ?_) ?_
  · simp only [ops53, Tryz.f63]
    go_simp
    refine hK _ _ ?_
    have hv3n : v3 < 9 := by omega
    refine wpAny_take (i := 12) (v := .pointer (some ⟨W.heap.size, v3, none⟩)) rfl (by kernel_rfl) (by kernel_rfl) (by kernel_rfl) (fun _ _ _ h => HQ.2 _ _ _ _ _ h) (Or.inl ⟨by rfl, fun w => by simp only [ops53, Tryz.f63]; go_simp⟩) ?_
    exact st_31110 D ao len cap zs base P bv n acts w Q HQ v1 v2 v3 _ Bo _ (hR.alloc _) hv1 hv2 hv3 (NineAt.new hR) (hO.alloc _)
  refine AllReady.cons rfl (fun K hK => ?_) ?_
  · simp only [ops53, Tryz.f63]
    go_wp2_with (go_at_call 35; refine (roll_any D ao len cap zs base P bv n acts w W _ hR (by decide) (by decide)).mono ?_; rintro e w' ⟨v4, rfl, hv4, hr, hk⟩)
    refine wpAny_take (i := 16) (v := .int .i64 (IntKind.i64.wrap (95 + (v4 : Int)))) rfl (by kernel_rfl) (by kernel_rfl) (by kernel_rfl) (fun _ _ _ h => HQ.2 _ _ _ _ _ h) (Or.inl ⟨by rfl, fun w => by simp only [ops53, Tryz.f63]; go_simp⟩) ?_
    exact st_41010 D ao len cap zs base P bv n acts w Q HQ v1 v2 v3 v4 Bo w' hr hv1 hv2 hv3 hv4 (hO.keep hk)
  exact AllReady.nil

theorem st_30110 (D : Nat) (ao : Option Addr) (len cap : Nat) (zs : Nat → Int) (base P bv n : Nat) (acts : Int) (w : World) (Q : Exit → Act → World → Prop) (HQ : FinOK D ao len cap zs base P bv n acts w Q) (v1 v2 v3 : Nat) (Bs : Nat) (Bo : Nat) (W : World) (hR : Rolls D ao len cap zs base P bv n acts w W) (hv1 : (v1 : Int) < 4) (hv2 : (v2 : Int) < 2) (hv3 : (v3 : Int) < 9) (hN : NineAt D W Bs) (hO : SlotAt D w W Bo) :
    wpAny Tryz.prog .any ops53 Q 9 #[true, true, true, false, false, true, true, true, true, true, true, true, true, false, true, false, false, true, false, false, false, true, false] ⟨((.pointer (some ⟨P, 0, none⟩)) :: (.pointer (some ⟨D, 0, none⟩)) :: (undef) :: (undef) :: (.pointer (some ⟨w.heap.size, 0, none⟩)) :: (.pointer (some ⟨Bo, 0, none⟩)) :: (.pointer (some ⟨P, 0, none⟩)) :: (.pointer (some ⟨P, 0, none⟩)) :: (.pointer (some ⟨P, 1, none⟩)) :: (undef) :: (undef) :: (.pointer (some ⟨D, 0, none⟩)) :: (.int .i64 (v1 : Int)) :: (.pointer (some ⟨D, 0, none⟩)) :: (.int .i64 (v2 : Int)) :: (.slice (some ⟨Bs, 0, none⟩) 9 9) :: (.pointer (some ⟨D, 0, none⟩)) :: (.int .i64 (v3 : Int)) :: (.pointer (some ⟨Bs, v3, none⟩)) :: (undef) :: (.pointer (some ⟨D, 0, none⟩)) :: (undef) :: (undef) :: (.pointer (some ⟨D, 0, none⟩)) :: (undef) :: (undef) :: (undef) :: (undef) :: (undef) :: (undef) :: (undef) :: (undef) :: (undef) :: (undef) :: (undef) :: (undef) :: []).toArray, []⟩ W := by
  have hcell := hR.cell
  have hlt := hR.ply.lt
  have hcv := hN.cells v3 (by omega)
  have hNl := hN.lt
  have hv3n : v3 < 9 := by omega
  refine wpAny_ready (rs := [3, 13, 15]) (by kernel_rfl) (by simp) ?_
  refine AllReady.cons rfl (fun K hK => ?_) ?_
  · simp only [ops53, Tryz.f63]
    go_simp
    refine hK _ _ ?_
    refine wpAny_take (i := 4) (v := .int .i64 (IntKind.i64.wrap ((n : Int) + 1))) rfl (by kernel_rfl) (by kernel_rfl) (by kernel_rfl) (fun _ _ _ h => HQ.2 _ _ _ _ _ h) (Or.inl ⟨by rfl, fun w => by simp only [ops53, Tryz.f63]; go_simp⟩) ?_
    exact st_31110 D ao len cap zs base P bv n acts w Q HQ v1 v2 v3 Bs Bo _ hR hv1 hv2 hv3 hN hO
  refine AllReady.cons rfl (fun K hK => ?_) ?_
  · simp only [ops53, Tryz.f63]
    go_simp
    refine hK _ _ ?_
    exact st_30111 D ao len cap zs base P bv n acts w Q HQ v1 v2 v3 Bs Bo _ hR hv1 hv2 hv3 hN hO
  refine AllReady.cons rfl (fun K hK => ?_) ?_
  · simp only [ops53, Tryz.f63]
    go_wp2_with (go_at_call 35; refine (roll_any D ao len cap zs base P bv n acts w W _ hR (by decide) (by decide)).mono ?_; rintro e w' ⟨v4, rfl, hv4, hr, hk⟩)
    refine wpAny_take (i := 16) (v := .int .i64 (IntKind.i64.wrap (95 + (v4 : Int)))) rfl (by kernel_rfl) (by kernel_rfl) (by kernel_rfl) (fun _ _ _ h => HQ.2 _ _ _ _ _ h) (Or.inl ⟨by rfl, fun w => by simp only [ops53, Tryz.f63]; go_simp⟩) ?_
    exact st_40110 D ao len cap zs base P bv n acts w Q HQ v1 v2 v3 v4 Bs Bo w' hr hv1 hv2 hv3 hv4 (hN.keep hk) (hO.keep hk)
  exact AllReady.nil

theorem st_30101 (D : Nat) (ao : Option Addr) (len cap : Nat) (zs : Nat → Int) (base P bv n : Nat) (acts : Int) (w : World) (Q : Exit → Act → World → Prop) (HQ : FinOK D ao len cap zs base P bv n acts w Q) (v1 v2 v3 : Nat) (Bs : Nat) (W : World) (hR : Rolls D ao len cap zs base P bv n acts w W) (hv1 : (v1 : Int) < 4) (hv2 : (v2 : Int) < 2) (hv3 : (v3 : Int) < 9) (hN : NineAt D W Bs) :
    wpAny Tryz.prog .any ops53 Q 9 #[true, true, true, false, false, true, true, true, true, true, true, true, true, true, true, false, false, true, false, false, false, false, false] ⟨((.pointer (some ⟨P, 0, none⟩)) :: (.pointer (some ⟨D, 0, none⟩)) :: (undef) :: (undef) :: (.pointer (some ⟨w.heap.size, 0, none⟩)) :: (undef) :: (.pointer (some ⟨P, 0, none⟩)) :: (.pointer (some ⟨P, 0, none⟩)) :: (.pointer (some ⟨P, 1, none⟩)) :: (undef) :: (undef) :: (.pointer (some ⟨D, 0, none⟩)) :: (.int .i64 (v1 : Int)) :: (.pointer (some ⟨D, 0, none⟩)) :: (.int .i64 (v2 : Int)) :: (.slice (some ⟨Bs, 0, none⟩) 9 9) :: (.pointer (some ⟨D, 0, none⟩)) :: (.int .i64 (v3 : Int)) :: (.pointer (some ⟨Bs, v3, none⟩)) :: (.int .i64 (kindOf v3)) :: (.pointer (some ⟨D, 0, none⟩)) :: (undef) :: (undef) :: (.pointer (some ⟨D, 0, none⟩)) :: (undef) :: (undef) :: (undef) :: (undef) :: (undef) :: (undef) :: (undef) :: (undef) :: (undef) :: (undef) :: (undef) :: (undef) :: []).toArray, []⟩ W := by
  have hcell := hR.cell
  have hlt := hR.ply.lt
  have hcv := hN.cells v3 (by omega)
  have hNl := hN.lt
  have hv3n : v3 < 9 := by omega
  refine wpAny_ready (rs := [3, 15, 21]) (by kernel_rfl) (by simp) ?_
  refine AllReady.cons rfl (fun K hK => ?_) ?_
  · simp only [ops53, Tryz.f63]
    go_simp
    refine hK _ _ ?_
    refine wpAny_take (i := 4) (v := .int .i64 (IntKind.i64.wrap ((n : Int) + 1))) rfl (by kernel_rfl) (by kernel_rfl) (by kernel_rfl) (fun _ _ _ h => HQ.2 _ _ _ _ _ h) (Or.inl ⟨by rfl, fun w => by simp only [ops53, Tryz.f63]; go_simp⟩) ?_
    exact st_31101 D ao len cap zs base P bv n acts w Q HQ v1 v2 v3 Bs _ hR hv1 hv2 hv3 hN
  refine AllReady.cons rfl (fun K hK => ?_) ?_
  · simp only [ops53, Tryz.f63]
    go_wp2_with (go_at_call 35; refine (roll_any D ao len cap zs base P bv n acts w W _ hR (by decide) (by decide)).mono ?_; rintro e w' ⟨v4, rfl, hv4, hr, hk⟩)
    refine wpAny_take (i := 16) (v := .int .i64 (IntKind.i64.wrap (95 + (v4 : Int)))) rfl (by kernel_rfl) (by kernel_rfl) (by kernel_rfl) (fun _ _ _ h => HQ.2 _ _ _ _ _ h) (Or.inl ⟨by rfl, fun w => by simp only [ops53, Tryz.f63]; go_simp⟩) ?_
    exact st_40101 D ao len cap zs base P bv n acts w Q HQ v1 v2 v3 v4 Bs w' hr hv1 hv2 hv3 hv4 (hN.keep hk)
  refine AllReady.cons rfl (fun K hK => ?_) ?_
  · simp only [ops53, Tryz.f63]
    go_simp
    refine hK _ _ ?_
    exact st_30111 D ao len cap zs base P bv n acts w Q HQ v1 v2 v3 Bs _ _ (hR.alloc _) hv1 hv2 hv3 (hN.alloc _) (SlotAt.make hR)
  exact AllReady.nil

theorem st_21110 (D : Nat) (ao : Option Addr) (len cap : Nat) (zs : Nat → Int) (base P bv n : Nat) (acts : Int) (w : World) (Q : Exit → Act → World → Prop) (HQ : FinOK D ao len cap zs base P bv n acts w Q) (v1 v2 : Nat) (Bs : Nat) (Bo : Nat) (W : World) (hR : Rolls D ao len cap zs base P bv n acts w W) (hv1 : (v1 : Int) < 4) (hv2 : (v2 : Int) < 2) (hN : NineAt D W Bs) (hO : SlotAt D w W Bo) :
    wpAny Tryz.prog .any ops53 Q 9 #[true, true, true, true, true, true, true, true, true, true, true, false, false, false, true, false, false, true, false, false, false, true, false] ⟨((.pointer (some ⟨P, 0, none⟩)) :: (.pointer (some ⟨D, 0, none⟩)) :: (undef) :: (undef) :: (.pointer (some ⟨w.heap.size, 0, none⟩)) :: (.pointer (some ⟨Bo, 0, none⟩)) :: (.pointer (some ⟨P, 0, none⟩)) :: (.pointer (some ⟨P, 0, none⟩)) :: (.pointer (some ⟨P, 1, none⟩)) :: (.int .i64 (n : Int)) :: (.int .i64 (IntKind.i64.wrap ((n : Int) + 1))) :: (.pointer (some ⟨D, 0, none⟩)) :: (.int .i64 (v1 : Int)) :: (.pointer (some ⟨D, 0, none⟩)) :: (.int .i64 (v2 : Int)) :: (.slice (some ⟨Bs, 0, none⟩) 9 9) :: (.pointer (some ⟨D, 0, none⟩)) :: (undef) :: (undef) :: (undef) :: (.pointer (some ⟨D, 0, none⟩)) :: (undef) :: (undef) :: (.pointer (some ⟨D, 0, none⟩)) :: (undef) :: (undef) :: (undef) :: (undef) :: (undef) :: (undef) :: (undef) :: (undef) :: (undef) :: (undef) :: (undef) :: (undef) :: []).toArray, []⟩ W := by
  have hcell := hR.cell
  have hlt := hR.ply.lt
  refine wpAny_ready (rs := [11]) (by kernel_rfl) (by simp) ?_
  refine AllReady.cons rfl (fun K hK => ?_) ?_
  · simp only [ops53, Tryz.f63]
    go_wp2_with (go_at_call 35; refine (roll_any D ao len cap zs base P bv n acts w W _ hR (by decide) (by decide)).mono ?_; rintro e w' ⟨v3, rfl, hv3, hr, hk⟩)
    have hv3n : v3 < 9 := by omega
    refine wpAny_take (i := 12) (v := .pointer (some ⟨Bs, v3, none⟩)) rfl (by kernel_rfl) (by kernel_rfl) (by kernel_rfl) (fun _ _ _ h => HQ.2 _ _ _ _ _ h) (Or.inl ⟨by rfl, fun w => by simp only [ops53, Tryz.f63]; go_simp⟩) ?_
    exact st_31110 D ao len cap zs base P bv n acts w Q HQ v1 v2 v3 Bs Bo w' hr hv1 hv2 hv3 (hN.keep hk) (hO.keep hk)
  exact AllReady.nil

theorem st_40000 (D : Nat) (ao : Option Addr) (len cap : Nat) (zs : Nat → Int) (base P bv n : Nat) (acts : Int) (w : World) (Q : Exit → Act → World → Prop) (HQ : FinOK D ao len cap zs base P bv n acts w Q) (v1 v2 v3 v4 : Nat) (W : World) (hR : Rolls D ao len cap zs base P bv n acts w W) (hv1 : (v1 : Int) < 4) (hv2 : (v2 : Int) < 2) (hv3 : (v3 : Int) < 9) (hv4 : (v4 : Int) < 10) :
    wpAny Tryz.prog .any ops53 Q 10 #[true, true, true, false, false, true, true, true, true, false, true, true, false, false, true, true, true, true, false, false, false, false, false] ⟨((.pointer (some ⟨P, 0, none⟩)) :: (.pointer (some ⟨D, 0, none⟩)) :: (undef) :: (undef) :: (.pointer (some ⟨w.heap.size, 0, none⟩)) :: (undef) :: (.pointer (some ⟨P, 0, none⟩)) :: (.pointer (some ⟨P, 0, none⟩)) :: (.pointer (some ⟨P, 1, none⟩)) :: (undef) :: (undef) :: (.pointer (some ⟨D, 0, none⟩)) :: (.int .i64 (v1 : Int)) :: (.pointer (some ⟨D, 0, none⟩)) :: (.int .i64 (v2 : Int)) :: (undef) :: (.pointer (some ⟨D, 0, none⟩)) :: (.int .i64 (v3 : Int)) :: (undef) :: (undef) :: (.pointer (some ⟨D, 0, none⟩)) :: (.int .i64 (v4 : Int)) :: (.int .i64 (IntKind.i64.wrap (95 + (v4 : Int)))) :: (.pointer (some ⟨D, 0, none⟩)) :: (undef) :: (undef) :: (undef) :: (undef) :: (undef) :: (undef) :: (undef) :: (undef) :: (undef) :: (undef) :: (undef) :: (undef) :: []).toArray, []⟩ W := by
  have hcell := hR.cell
  have hlt := hR.ply.lt
  refine wpAny_ready (rs := [3, 9, 18, 21]) (by kernel_rfl) (by simp) ?_
  refine AllReady.cons rfl (fun K hK => ?_) ?_
  · simp only [ops53, Tryz.f63]
    go_simp
    refine hK _ _ ?_
    refine wpAny_take (i := 4) (v := .int .i64 (IntKind.i64.wrap ((n : Int) + 1))) rfl (by kernel_rfl) (by kernel_rfl) (by kernel_rfl) (fun _ _ _ h => HQ.2 _ _ _ _ _ h) (Or.inl ⟨by rfl, fun w => by simp only [ops53, Tryz.f63]; go_simp⟩) ?_
    exact st_41000 D ao len cap zs base P bv n acts w Q HQ v1 v2 v3 v4 _ hR hv1 hv2 hv3 hv4
  refine AllReady.cons rfl (fun K hK => ?_) ?_
  · simp only [ops53, Tryz.f63]
    go_simp
    refine hK _ _ ?_
    have hv3n : v3 < 9 := by omega
    refine wpAny_take (i := 12) (v := .pointer (some ⟨W.heap.size, v3, none⟩)) rfl (by kernel_rfl) (by kernel_rfl) (by kernel_rfl) (fun _ _ _ h => HQ.2 _ _ _ _ _ h) (Or.inl ⟨by rfl, fun w => by simp only [ops53, Tryz.f63]; go_simp⟩) ?_
    exact st_40100 D ao len cap zs base P bv n acts w Q HQ v1 v2 v3 v4 _ _ (hR.alloc _) hv1 hv2 hv3 hv4 (NineAt.new hR)
  refine AllReady.cons rfl (fun K hK => ?_) ?_
  · simp only [ops53, Tryz.f63]
    go_wp2_with (go_at_call 35; refine (roll_any D ao len cap zs base P bv n acts w W _ hR (by decide) (by decide)).mono ?_; rintro e w' ⟨v5, rfl, hv5, hr, hk⟩)
    refine wpAny_take (i := 19) (v := .int .i64 (IntKind.i64.wrap (1 + (v5 : Int)))) rfl (by kernel_rfl) (by kernel_rfl) (by kernel_rfl) (fun _ _ _ h => HQ.2 _ _ _ _ _ h) (Or.inl ⟨by rfl, fun w => by simp only [ops53, Tryz.f63]; go_simp⟩) ?_
    exact st_50000 D ao len cap zs base P bv n acts w Q HQ v1 v2 v3 v4 v5 w' hr hv1 hv2 hv3 hv4 hv5
  refine AllReady.cons rfl (fun K hK => ?_) ?_
  · simp only [ops53, Tryz.f63]
    go_simp
    refine hK _ _ ?_
    exact st_40010 D ao len cap zs base P bv n acts w Q HQ v1 v2 v3 v4 _ _ (hR.alloc _) hv1 hv2 hv3 hv4 (SlotAt.make hR)
  exact AllReady.nil

theorem st_31000 (D : Nat) (ao : Option Addr) (len cap : Nat) (zs : Nat → Int) (base P bv n : Nat) (acts : Int) (w : World) (Q : Exit → Act → World → Prop) (HQ : FinOK D ao len cap zs base P bv n acts w Q) (v1 v2 v3 : Nat) (W : World) (hR : Rolls D ao len cap zs base P bv n acts w W) (hv1 : (v1 : Int) < 4) (hv2 : (v2 : Int) < 2) (hv3 : (v3 : Int) < 9) :
    wpAny Tryz.prog .any ops53 Q 10 #[true, true, true, true, true, true, true, true, true, false, true, true, false, false, true, false, false, true, false, false, false, false, false] ⟨((.pointer (some ⟨P, 0, none⟩)) :: (.pointer (some ⟨D, 0, none⟩)) :: (undef) :: (undef) :: (.pointer (some ⟨w.heap.size, 0, none⟩)) :: (undef) :: (.pointer (some ⟨P, 0, none⟩)) :: (.pointer (some ⟨P, 0, none⟩)) :: (.pointer (some ⟨P, 1, none⟩)) :: (.int .i64 (n : Int)) :: (.int .i64 (IntKind.i64.wrap ((n : Int) + 1))) :: (.pointer (some ⟨D, 0, none⟩)) :: (.int .i64 (v1 : Int)) :: (.pointer (some ⟨D, 0, none⟩)) :: (.int .i64 (v2 : Int)) :: (undef) :: (.pointer (some ⟨D, 0, none⟩)) :: (.int .i64 (v3 : Int)) :: (undef) :: (undef) :: (.pointer (some ⟨D, 0, none⟩)) :: (undef) :: (undef) :: (.pointer (some ⟨D, 0, none⟩)) :: (undef) :: (undef) :: (undef) :: (undef) :: (undef) :: (undef) :: (undef) :: (undef) :: (undef) :: (undef) :: (undef) :: (undef) :: []).toArray, []⟩ W := by
  have hcell := hR.cell
  have hlt := hR.ply.lt
  refine wpAny_ready (rs := [9, 15, 21]) (by kernel_rfl) (by simp) ?_
  refine AllReady.cons rfl (fun K hK => ?_) ?_
  · simp only [ops53, Tryz.f63]
    go_simp
    refine hK _ _ ?_
    have hv3n : v3 < 9 := by omega
    refine wpAny_take (i := 12) (v := .pointer (some ⟨W.heap.size, v3, none⟩)) rfl (by kernel_rfl) (by kernel_rfl) (by kernel_rfl) (fun _ _ _ h => HQ.2 _ _ _ _ _ h) (Or.inl ⟨by rfl, fun w => by simp only [ops53, Tryz.f63]; go_simp⟩) ?_
    exact st_31100 D ao len cap zs base P bv n acts w Q HQ v1 v2 v3 _ _ (hR.alloc _) hv1 hv2 hv3 (NineAt.new hR)
  refine AllReady.cons rfl (fun K hK => ?_) ?_
  · simp only [ops53, Tryz.f63]
    go_wp2_with (go_at_call 35; refine (roll_any D ao len cap zs base P bv n acts w W _ hR (by decide) (by decide)).mono ?_; rintro e w' ⟨v4, rfl, hv4, hr, hk⟩)
    refine wpAny_take (i := 16) (v := .int .i64 (IntKind.i64.wrap (95 + (v4 : Int)))) rfl (by kernel_rfl) (by kernel_rfl) (by kernel_rfl) (fun _ _ _ h => HQ.2 _ _ _ _ _ h) (Or.inl ⟨by rfl, fun w => by simp only [ops53, Tryz.f63]; go_simp⟩) ?_
    exact st_41000 D ao len cap zs base P bv n acts w Q HQ v1 v2 v3 v4 w' hr hv1 hv2 hv3 hv4
  refine AllReady.cons rfl (fun K hK => ?_) ?_
  · simp only [ops53, Tryz.f63]
    go_simp
    refine hK _ _ ?_
    exact st_31010 D ao len cap zs base P bv n acts w Q HQ v1 v2 v3 _ _ (hR.alloc _) hv1 hv2 hv3 (SlotAt.make hR)
  exact AllReady.nil

theorem st_30100 (D : Nat) (ao : Option Addr) (len cap : Nat) (zs : Nat → Int) (base P bv n : Nat) (acts : Int) (w : World) (Q : Exit → Act → World → Prop) (HQ : FinOK D ao len cap zs base P bv n acts w Q) (v1 v2 v3 : Nat) (Bs : Nat) (W : World) (hR : Rolls D ao len cap zs base P bv n acts w W) (hv1 : (v1 : Int) < 4) (hv2 : (v2 : Int) < 2) (hv3 : (v3 : Int) < 9) (hN : NineAt D W Bs) :
    wpAny Tryz.prog .any ops53 Q 10 #[true, true, true, false, false, true, true, true, true, true, true, true, true, false, true, false, false, true, false, false, false, false, false] ⟨((.pointer (some ⟨P, 0, none⟩)) :: (.pointer (some ⟨D, 0, none⟩)) :: (undef) :: (undef) :: (.pointer (some ⟨w.heap.size, 0, none⟩)) :: (undef) :: (.pointer (some ⟨P, 0, none⟩)) :: (.pointer (some ⟨P, 0, none⟩)) :: (.pointer (some ⟨P, 1, none⟩)) :: (undef) :: (undef) :: (.pointer (some ⟨D, 0, none⟩)) :: (.int .i64 (v1 : Int)) :: (.pointer (some ⟨D, 0, none⟩)) :: (.int .i64 (v2 : Int)) :: (.slice (some ⟨Bs, 0, none⟩) 9 9) :: (.pointer (some ⟨D, 0, none⟩)) :: (.int .i64 (v3 : Int)) :: (.pointer (some ⟨Bs, v3, none⟩)) :: (undef) :: (.pointer (some ⟨D, 0, none⟩)) :: (undef) :: (undef) :: (.pointer (some ⟨D, 0, none⟩)) :: (undef) :: (undef) :: (undef) :: (undef) :: (undef) :: (undef) :: (undef) :: (undef) :: (undef) :: (undef) :: (undef) :: (undef) :: []).toArray, []⟩ W := by
  have hcell := hR.cell
  have hlt := hR.ply.lt
  have hcv := hN.cells v3 (by omega)
  have hNl := hN.lt
  have hv3n : v3 < 9 := by omega
  refine wpAny_ready (rs := [3, 13, 15, 21]) (by kernel_rfl) (by simp) ?_
  refine AllReady.cons rfl (fun K hK => ?_) ?_
  · simp only [ops53, Tryz.f63]
    go_simp
    refine hK _ _ ?_
    refine wpAny_take (i := 4) (v := .int .i64 (IntKind.i64.wrap ((n : Int) + 1))) rfl (by kernel_rfl) (by kernel_rfl) (by kernel_rfl) (fun _ _ _ h => HQ.2 _ _ _ _ _ h) (Or.inl ⟨by rfl, fun w => by simp only [ops53, Tryz.f63]; go_simp⟩) ?_
    exact st_31100 D ao len cap zs base P bv n acts w Q HQ v1 v2 v3 Bs _ hR hv1 hv2 hv3 hN
  refine AllReady.cons rfl (fun K hK => ?_) ?_
  · simp only [ops53, Tryz.f63]
    go_simp
    refine hK _ _ ?_
    exact st_30101 D ao len cap zs base P bv n acts w Q HQ v1 v2 v3 Bs _ hR hv1 hv2 hv3 hN
  refine AllReady.cons rfl (fun K hK => ?_) ?_
  · simp only [ops53, Tryz.f63]
    go_wp2_with (go_at_call 35; refine (roll_any D ao len cap zs base P bv n acts w W _ hR (by decide) (by decide)).mono ?_; rintro e w' ⟨v4, rfl, hv4, hr, hk⟩)
    refine wpAny_take (i := 16) (v := .int .i64 (IntKind.i64.wrap (95 + (v4 : Int)))) rfl (by kernel_rfl) (by kernel_rfl) (by kernel_rfl) (fun _ _ _ h => HQ.2 _ _ _ _ _ h) (Or.inl ⟨by rfl, fun w => by simp only [ops53, Tryz.f63]; go_simp⟩) ?_
    exact st_40100 D ao len cap zs base P bv n acts w Q HQ v1 v2 v3 v4 Bs w' hr hv1 hv2 hv3 hv4 (hN.keep hk)
  refine AllReady.cons rfl (fun K hK => ?_) ?_
  · simp only [ops53, Tryz.f63]
    go_simp
    refine hK _ _ ?_
    exact st_30110 D ao len cap zs base P bv n acts w Q HQ v1 v2 v3 Bs _ _ (hR.alloc _) hv1 hv2 hv3 (hN.alloc _) (SlotAt.make hR)
  exact AllReady.nil

theorem st_21100 (D : Nat) (ao : Option Addr) (len cap : Nat) (zs : Nat → Int) (base P bv n : Nat) (acts : Int) (w : World) (Q : Exit → Act → World → Prop) (HQ : FinOK D ao len cap zs base P bv n acts w Q) (v1 v2 : Nat) (Bs : Nat) (W : World) (hR : Rolls D ao len cap zs base P bv n acts w W) (hv1 : (v1 : Int) < 4) (hv2 : (v2 : Int) < 2) (hN : NineAt D W Bs) :
    wpAny Tryz.prog .any ops53 Q 10 #[true, true, true, true, true, true, true, true, true, true, true, false, false, false, true, false, false, true, false, false, false, false, false] ⟨((.pointer (some ⟨P, 0, none⟩)) :: (.pointer (some ⟨D, 0, none⟩)) :: (undef) :: (undef) :: (.pointer (some ⟨w.heap.size, 0, none⟩)) :: (undef) :: (.pointer (some ⟨P, 0, none⟩)) :: (.pointer (some ⟨P, 0, none⟩)) :: (.pointer (some ⟨P, 1, none⟩)) :: (.int .i64 (n : Int)) :: (.int .i64 (IntKind.i64.wrap ((n : Int) + 1))) :: (.pointer (some ⟨D, 0, none⟩)) :: (.int .i64 (v1 : Int)) :: (.pointer (some ⟨D, 0, none⟩)) :: (.int .i64 (v2 : Int)) :: (.slice (some ⟨Bs, 0, none⟩) 9 9) :: (.pointer (some ⟨D, 0, none⟩)) :: (undef) :: (undef) :: (undef) :: (.pointer (some ⟨D, 0, none⟩)) :: (undef) :: (undef) :: (.pointer (some ⟨D, 0, none⟩)) :: (undef) :: (undef) :: (undef) :: (undef) :: (undef) :: (undef) :: (undef) :: (undef) :: (undef) :: (undef) :: (undef) :: (undef) :: []).toArray, []⟩ W := by
  have hcell := hR.cell
  have hlt := hR.ply.lt
  refine wpAny_ready (rs := [11, 21]) (by kernel_rfl) (by simp) ?_
  refine AllReady.cons rfl (fun K hK => ?_) ?_
  · simp only [ops53, Tryz.f63]
    go_wp2_with (go_at_call 35; refine (roll_any D ao len cap zs base P bv n acts w W _ hR (by decide) (by decide)).mono ?_; rintro e w' ⟨v3, rfl, hv3, hr, hk⟩)
    have hv3n : v3 < 9 := by omega
    refine wpAny_take (i := 12) (v := .pointer (some ⟨Bs, v3, none⟩)) rfl (by kernel_rfl) (by kernel_rfl) (by kernel_rfl) (fun _ _ _ h => HQ.2 _ _ _ _ _ h) (Or.inl ⟨by rfl, fun w => by simp only [ops53, Tryz.f63]; go_simp⟩) ?_
    exact st_31100 D ao len cap zs base P bv n acts w Q HQ v1 v2 v3 Bs w' hr hv1 hv2 hv3 (hN.keep hk)
  refine AllReady.cons rfl (fun K hK => ?_) ?_
  · simp only [ops53, Tryz.f63]
    go_simp
    refine hK _ _ ?_
    exact st_21110 D ao len cap zs base P bv n acts w Q HQ v1 v2 Bs _ _ (hR.alloc _) hv1 hv2 (hN.alloc _) (SlotAt.make hR)
  exact AllReady.nil

theorem st_21010 (D : Nat) (ao : Option Addr) (len cap : Nat) (zs : Nat → Int) (base P bv n : Nat) (acts : Int) (w : World) (Q : Exit → Act → World → Prop) (HQ : FinOK D ao len cap zs base P bv n acts w Q) (v1 v2 : Nat) (Bo : Nat) (W : World) (hR : Rolls D ao len cap zs base P bv n acts w W) (hv1 : (v1 : Int) < 4) (hv2 : (v2 : Int) < 2) (hO : SlotAt D w W Bo) :
    wpAny Tryz.prog .any ops53 Q 10 #[true, true, true, true, true, true, true, true, true, false, true, false, false, false, true, false, false, true, false, false, false, true, false] ⟨((.pointer (some ⟨P, 0, none⟩)) :: (.pointer (some ⟨D, 0, none⟩)) :: (undef) :: (undef) :: (.pointer (some ⟨w.heap.size, 0, none⟩)) :: (.pointer (some ⟨Bo, 0, none⟩)) :: (.pointer (some ⟨P, 0, none⟩)) :: (.pointer (some ⟨P, 0, none⟩)) :: (.pointer (some ⟨P, 1, none⟩)) :: (.int .i64 (n : Int)) :: (.int .i64 (IntKind.i64.wrap ((n : Int) + 1))) :: (.pointer (some ⟨D, 0, none⟩)) :: (.int .i64 (v1 : Int)) :: (.pointer (some ⟨D, 0, none⟩)) :: (.int .i64 (v2 : Int)) :: (undef) :: (.pointer (some ⟨D, 0, none⟩)) :: (undef) :: (undef) :: (undef) :: (.pointer (some ⟨D, 0, none⟩)) :: (undef) :: (undef) :: (.pointer (some ⟨D, 0, none⟩)) :: (undef) :: (undef) :: (undef) :: (undef) :: (undef) :: (undef) :: (undef) :: (undef) :: (undef) :: (undef) :: (undef) :: (undef) :: []).toArray, []⟩ W := by
  have hcell := hR.cell
  have hlt := hR.ply.lt
  refine wpAny_ready (rs := [9, 11]) (by kernel_rfl) (by simp) ?_
  refine AllReady.cons rfl (fun K hK => ?_) ?_
  · simp only [ops53, Tryz.f63]
    go_simp
    refine hK _ _ ?_
    exact st_21110 D ao len cap zs base P bv n acts w Q HQ v1 v2 _ Bo _ (hR.alloc _) hv1 hv2 (NineAt.new hR) (hO.alloc _)
  refine AllReady.cons rfl (fun K hK => ?_) ?_
  · simp only [ops53, Tryz.f63]
    go_wp2_with (go_at_call 35; refine (roll_any D ao len cap zs base P bv n acts w W _ hR (by decide) (by decide)).mono ?_; rintro e w' ⟨v3, rfl, hv3, hr, hk⟩)
    exact st_31010 D ao len cap zs base P bv n acts w Q HQ v1 v2 v3 Bo w' hr hv1 hv2 hv3 (hO.keep hk)
  exact AllReady.nil

theorem st_11110 (D : Nat) (ao : Option Addr) (len cap : Nat) (zs : Nat → Int) (base P bv n : Nat) (acts : Int) (w : World) (Q : Exit → Act → World → Prop) (HQ : FinOK D ao len cap zs base P bv n acts w Q) (v1 : Nat) (Bs : Nat) (Bo : Nat) (W : World) (hR : Rolls D ao len cap zs base P bv n acts w W) (hv1 : (v1 : Int) < 4) (hN : NineAt D W Bs) (hO : SlotAt D w W Bo) :
    wpAny Tryz.prog .any ops53 Q 10 #[true, true, true, true, true, true, true, true, false, true, true, false, false, false, true, false, false, true, false, false, false, true, false] ⟨((.pointer (some ⟨P, 0, none⟩)) :: (.pointer (some ⟨D, 0, none⟩)) :: (undef) :: (undef) :: (.pointer (some ⟨w.heap.size, 0, none⟩)) :: (.pointer (some ⟨Bo, 0, none⟩)) :: (.pointer (some ⟨P, 0, none⟩)) :: (.pointer (some ⟨P, 0, none⟩)) :: (.pointer (some ⟨P, 1, none⟩)) :: (.int .i64 (n : Int)) :: (.int .i64 (IntKind.i64.wrap ((n : Int) + 1))) :: (.pointer (some ⟨D, 0, none⟩)) :: (.int .i64 (v1 : Int)) :: (.pointer (some ⟨D, 0, none⟩)) :: (undef) :: (.slice (some ⟨Bs, 0, none⟩) 9 9) :: (.pointer (some ⟨D, 0, none⟩)) :: (undef) :: (undef) :: (undef) :: (.pointer (some ⟨D, 0, none⟩)) :: (undef) :: (undef) :: (.pointer (some ⟨D, 0, none⟩)) :: (undef) :: (undef) :: (undef) :: (undef) :: (undef) :: (undef) :: (undef) :: (undef) :: (undef) :: (undef) :: (undef) :: (undef) :: []).toArray, []⟩ W := by
  have hcell := hR.cell
  have hlt := hR.ply.lt
  refine wpAny_ready (rs := [8]) (by kernel_rfl) (by simp) ?_
  refine AllReady.cons rfl (fun K hK => ?_) ?_
  · simp only [ops53, Tryz.f63]
    go_wp2_with (go_at_call 35; refine (roll_any D ao len cap zs base P bv n acts w W _ hR (by decide) (by decide)).mono ?_; rintro e w' ⟨v2, rfl, hv2, hr, hk⟩)
    exact st_21110 D ao len cap zs base P bv n acts w Q HQ v1 v2 Bs Bo w' hr hv1 hv2 (hN.keep hk) (hO.keep hk)
  exact AllReady.nil

theorem st_30010 (D : Nat) (ao : Option Addr) (len cap : Nat) (zs : Nat → Int) (base P bv n : Nat) (acts : Int) (w : World) (Q : Exit → Act → World → Prop) (HQ : FinOK D ao len cap zs base P bv n acts w Q) (v1 v2 v3 : Nat) (Bo : Nat) (W : World) (hR : Rolls D ao len cap zs base P bv n acts w W) (hv1 : (v1 : Int) < 4) (hv2 : (v2 : Int) < 2) (hv3 : (v3 : Int) < 9) (hO : SlotAt D w W Bo) :
    wpAny Tryz.prog .any ops53 Q 11 #[true, true, true, false, false, true, true, true, true, false, true, true, false, false, true, false, false, true, false, false, false, true, false] ⟨((.pointer (some ⟨P, 0, none⟩)) :: (.pointer (some ⟨D, 0, none⟩)) :: (undef) :: (undef) :: (.pointer (some ⟨w.heap.size, 0, none⟩)) :: (.pointer (some ⟨Bo, 0, none⟩)) :: (.pointer (some ⟨P, 0, none⟩)) :: (.pointer (some ⟨P, 0, none⟩)) :: (.pointer (some ⟨P, 1, none⟩)) :: (undef) :: (undef) :: (.pointer (some ⟨D, 0, none⟩)) :: (.int .i64 (v1 : Int)) :: (.pointer (some ⟨D, 0, none⟩)) :: (.int .i64 (v2 : Int)) :: (undef) :: (.pointer (some ⟨D, 0, none⟩)) :: (.int .i64 (v3 : Int)) :: (undef) :: (undef) :: (.pointer (some ⟨D, 0, none⟩)) :: (undef) :: (undef) :: (.pointer (some ⟨D, 0, none⟩)) :: (undef) :: (undef) :: (undef) :: (undef) :: (undef) :: (undef) :: (undef) :: (undef) :: (undef) :: (undef) :: (undef) :: (undef) :: []).toArray, []⟩ W := by
  have hcell := hR.cell
  have hlt := hR.ply.lt
  refine wpAny_ready (rs := [3, 9, 15]) (by kernel_rfl) (by simp) ?_
  refine AllReady.cons rfl (fun K hK => ?_) ?_
  · simp only [ops53, Tryz.f63]
    go_simp
    refine hK _ _ ?_
    refine wpAny_take (i := 4) (v := .int .i64 (IntKind.i64.wrap ((n : Int) + 1))) rfl (by kernel_rfl) (by kernel_rfl) (by kernel_rfl) (fun _ _ _ h => HQ.2 _ _ _ _ _ h) (Or.inl ⟨by rfl, fun w => by simp only [ops53, Tryz.f63]; go_simp⟩) ?_
    exact st_31010 D ao len cap zs base P bv n acts w Q HQ v1 v2 v3 Bo _ hR hv1 hv2 hv3 hO
  refine AllReady.cons rfl (fun K hK => ?_) ?_
  · simp only [ops53, Tryz.f63]
    go_simp
    refine hK _ _ ?_
    have hv3n : v3 < 9 := by omega
    refine wpAny_take (i := 12) (v := .pointer (some ⟨W.heap.size, v3, none⟩)) rfl (by kernel_rfl) (by kernel_rfl) (by kernel_rfl) (fun _ _ _ h => HQ.2 _ _ _ _ _ h) (Or.inl ⟨by rfl, fun w => by simp only [ops53, Tryz.f63]; go_simp⟩) ?_
    exact st_30110 D ao len cap zs base P bv n acts w Q HQ v1 v2 v3 _ Bo _ (hR.alloc _) hv1 hv2 hv3 (NineAt.new hR) (hO.alloc _)
  refine AllReady.cons rfl (fun K hK => ?_) ?_
  · simp only [ops53, Tryz.f63]
    go_wp2_with (go_at_call 35; refine (roll_any D ao len cap zs base P bv n acts w W _ hR (by decide) (by decide)).mono ?_; rintro e w' ⟨v4, rfl, hv4, hr, hk⟩)
    refine wpAny_take (i := 16) (v := .int .i64 (IntKind.i64.wrap (95 + (v4 : Int)))) rfl (by kernel_rfl) (by kernel_rfl) (by kernel_rfl) (fun _ _ _ h => HQ.2 _ _ _ _ _ h) (Or.inl ⟨by rfl, fun w => by simp only [ops53, Tryz.f63]; go_simp⟩) ?_
    exact st_40010 D ao len cap zs base P bv n acts w Q HQ v1 v2 v3 v4 Bo w' hr hv1 hv2 hv3 hv4 (hO.keep hk)
  exact AllReady.nil

theorem st_21000 (D : Nat) (ao : Option Addr) (len cap : Nat) (zs : Nat → Int) (base P bv n : Nat) (acts : Int) (w : World) (Q : Exit → Act → World → Prop) (HQ : FinOK D ao len cap zs base P bv n acts w Q) (v1 v2 : Nat) (W : World) (hR : Rolls D ao len cap zs base P bv n acts w W) (hv1 : (v1 : Int) < 4) (hv2 : (v2 : Int) < 2) :
    wpAny Tryz.prog .any ops53 Q 11 #[true, true, true, true, true, true, true, true, true, false, true, false, false, false, true, false, false, true, false, false, false, false, false] ⟨((.pointer (some ⟨P, 0, none⟩)) :: (.pointer (some ⟨D, 0, none⟩)) :: (undef) :: (undef) :: (.pointer (some ⟨w.heap.size, 0, none⟩)) :: (undef) :: (.pointer (some ⟨P, 0, none⟩)) :: (.pointer (some ⟨P, 0, none⟩)) :: (.pointer (some ⟨P, 1, none⟩)) :: (.int .i64 (n : Int)) :: (.int .i64 (IntKind.i64.wrap ((n : Int) + 1))) :: (.pointer (some ⟨D, 0, none⟩)) :: (.int .i64 (v1 : Int)) :: (.pointer (some ⟨D, 0, none⟩)) :: (.int .i64 (v2 : Int)) :: (undef) :: (.pointer (some ⟨D, 0, none⟩)) :: (undef) :: (undef) :: (undef) :: (.pointer (some ⟨D, 0, none⟩)) :: (undef) :: (undef) :: (.pointer (some ⟨D, 0, none⟩)) :: (undef) :: (undef) :: (undef) :: (undef) :: (undef) :: (undef) :: (undef) :: (undef) :: (undef) :: (undef) :: (undef) :: (undef) :: []).toArray, []⟩ W := by
  have hcell := hR.cell
  have hlt := hR.ply.lt
  refine wpAny_ready (rs := [9, 11, 21]) (by kernel_rfl) (by simp) ?_
  refine AllReady.cons rfl (fun K hK => ?_) ?_
  · simp only [ops53, Tryz.f63]
    go_simp
    refine hK _ _ ?_
    exact st_21100 D ao len cap zs base P bv n acts w Q HQ v1 v2 _ _ (hR.alloc _) hv1 hv2 (NineAt.new hR)
  refine AllReady.cons rfl (fun K hK => ?_) ?_
  · simp only [ops53, Tryz.f63]
    go_wp2_with (go_at_call 35; refine (roll_any D ao len cap zs base P bv n acts w W _ hR (by decide) (by decide)).mono ?_; rintro e w' ⟨v3, rfl, hv3, hr, hk⟩)
    exact st_31000 D ao len cap zs base P bv n acts w Q HQ v1 v2 v3 w' hr hv1 hv2 hv3
  refine AllReady.cons rfl (fun K hK => ?_) ?_
  · simp only [ops53, Tryz.f63]
    go_simp
    refine hK _ _ ?_
    exact st_21010 D ao len cap zs base P bv n acts w Q HQ v1 v2 _ _ (hR.alloc _) hv1 hv2 (SlotAt.make hR)
  exact AllReady.nil

theorem st_20110 (D : Nat) (ao : Option Addr) (len cap : Nat) (zs : Nat → Int) (base P bv n : Nat) (acts : Int) (w : World) (Q : Exit → Act → World → Prop) (HQ : FinOK D ao len cap zs base P bv n acts w Q) (v1 v2 : Nat) (Bs : Nat) (Bo : Nat) (W : World) (hR : Rolls D ao len cap zs base P bv n acts w W) (hv1 : (v1 : Int) < 4) (hv2 : (v2 : Int) < 2) (hN : NineAt D W Bs) (hO : SlotAt D w W Bo) :
    wpAny Tryz.prog .any ops53 Q 11 #[true, true, true, false, false, true, true, true, true, true, true, false, false, false, true, false, false, true, false, false, false, true, false] ⟨((.pointer (some ⟨P, 0, none⟩)) :: (.pointer (some ⟨D, 0, none⟩)) :: (undef) :: (undef) :: (.pointer (some ⟨w.heap.size, 0, none⟩)) :: (.pointer (some ⟨Bo, 0, none⟩)) :: (.pointer (some ⟨P, 0, none⟩)) :: (.pointer (some ⟨P, 0, none⟩)) :: (.pointer (some ⟨P, 1, none⟩)) :: (undef) :: (undef) :: (.pointer (some ⟨D, 0, none⟩)) :: (.int .i64 (v1 : Int)) :: (.pointer (some ⟨D, 0, none⟩)) :: (.int .i64 (v2 : Int)) :: (.slice (some ⟨Bs, 0, none⟩) 9 9) :: (.pointer (some ⟨D, 0, none⟩)) :: (undef) :: (undef) :: (undef) :: (.pointer (some ⟨D, 0, none⟩)) :: (undef) :: (undef) :: (.pointer (some ⟨D, 0, none⟩)) :: (undef) :: (undef) :: (undef) :: (undef) :: (undef) :: (undef) :: (undef) :: (undef) :: (undef) :: (undef) :: (undef) :: (undef) :: []).toArray, []⟩ W := by
  have hcell := hR.cell
  have hlt := hR.ply.lt
  refine wpAny_ready (rs := [3, 11]) (by kernel_rfl) (by simp) ?_
  refine AllReady.cons rfl (fun K hK => ?_) ?_
  · simp only [ops53, Tryz.f63]
    go_simp
    refine hK _ _ ?_
    refine wpAny_take (i := 4) (v := .int .i64 (IntKind.i64.wrap ((n : Int) + 1))) rfl (by kernel_rfl) (by kernel_rfl) (by kernel_rfl) (fun _ _ _ h => HQ.2 _ _ _ _ _ h) (Or.inl ⟨by rfl, fun w => by simp only [ops53, Tryz.f63]; go_simp⟩) ?_
    exact st_21110 D ao len cap zs base P bv n acts w Q HQ v1 v2 Bs Bo _ hR hv1 hv2 hN hO
  refine AllReady.cons rfl (fun K hK => ?_) ?_
  · simp only [ops53, Tryz.f63]
    go_wp2_with (go_at_call 35; refine (roll_any D ao len cap zs base P bv n acts w W _ hR (by decide) (by decide)).mono ?_; rintro e w' ⟨v3, rfl, hv3, hr, hk⟩)
    have hv3n : v3 < 9 := by omega
    refine wpAny_take (i := 12) (v := .pointer (some ⟨Bs, v3, none⟩)) rfl (by kernel_rfl) (by kernel_rfl) (by kernel_rfl) (fun _ _ _ h => HQ.2 _ _ _ _ _ h) (Or.inl ⟨by rfl, fun w => by simp only [ops53, Tryz.f63]; go_simp⟩) ?_
    exact st_30110 D ao len cap zs base P bv n acts w Q HQ v1 v2 v3 Bs Bo w' hr hv1 hv2 hv3 (hN.keep hk) (hO.keep hk)
  exact AllReady.nil

theorem st_11100 (D : Nat) (ao : Option Addr) (len cap : Nat) (zs : Nat → Int) (base P bv n : Nat) (acts : Int) (w : World) (Q : Exit → Act → World → Prop) (HQ : FinOK D ao len cap zs base P bv n acts w Q) (v1 : Nat) (Bs : Nat) (W : World) (hR : Rolls D ao len cap zs base P bv n acts w W) (hv1 : (v1 : Int) < 4) (hN : NineAt D W Bs) :
    wpAny Tryz.prog .any ops53 Q 11 #[true, true, true, true, true, true, true, true, false, true, true, false, false, false, true, false, false, true, false, false, false, false, false] ⟨((.pointer (some ⟨P, 0, none⟩)) :: (.pointer (some ⟨D, 0, none⟩)) :: (undef) :: (undef) :: (.pointer (some ⟨w.heap.size, 0, none⟩)) :: (undef) :: (.pointer (some ⟨P, 0, none⟩)) :: (.pointer (some ⟨P, 0, none⟩)) :: (.pointer (some ⟨P, 1, none⟩)) :: (.int .i64 (n : Int)) :: (.int .i64 (IntKind.i64.wrap ((n : Int) + 1))) :: (.pointer (some ⟨D, 0, none⟩)) :: (.int .i64 (v1 : Int)) :: (.pointer (some ⟨D, 0, none⟩)) :: (undef) :: (.slice (some ⟨Bs, 0, none⟩) 9 9) :: (.pointer (some ⟨D, 0, none⟩)) :: (undef) :: (undef) :: (undef) :: (.pointer (some ⟨D, 0, none⟩)) :: (undef) :: (undef) :: (.pointer (some ⟨D, 0, none⟩)) :: (undef) :: (undef) :: (undef) :: (undef) :: (undef) :: (undef) :: (undef) :: (undef) :: (undef) :: (undef) :: (undef) :: (undef) :: []).toArray, []⟩ W := by
  have hcell := hR.cell
  have hlt := hR.ply.lt
  refine wpAny_ready (rs := [8, 21]) (by kernel_rfl) (by simp) ?_
  refine AllReady.cons rfl (fun K hK => ?_) ?_
  · simp only [ops53, Tryz.f63]
    go_wp2_with (go_at_call 35; refine (roll_any D ao len cap zs base P bv n acts w W _ hR (by decide) (by decide)).mono ?_; rintro e w' ⟨v2, rfl, hv2, hr, hk⟩)
    exact st_21100 D ao len cap zs base P bv n acts w Q HQ v1 v2 Bs w' hr hv1 hv2 (hN.keep hk)
  refine AllReady.cons rfl (fun K hK => ?_) ?_
  · simp only [ops53, Tryz.f63]
    go_simp
    refine hK _ _ ?_
    exact st_11110 D ao len cap zs base P bv n acts w Q HQ v1 Bs _ _ (hR.alloc _) hv1 (hN.alloc _) (SlotAt.make hR)
  exact AllReady.nil

theorem st_11010 (D : Nat) (ao : Option Addr) (len cap : Nat) (zs : Nat → Int) (base P bv n : Nat) (acts : Int) (w : World) (Q : Exit → Act → World → Prop) (HQ : FinOK D ao len cap zs base P bv n acts w Q) (v1 : Nat) (Bo : Nat) (W : World) (hR : Rolls D ao len cap zs base P bv n acts w W) (hv1 : (v1 : Int) < 4) (hO : SlotAt D w W Bo) :
    wpAny Tryz.prog .any ops53 Q 11 #[true, true, true, true, true, true, true, true, false, false, true, false, false, false, true, false, false, true, false, false, false, true, false] ⟨((.pointer (some ⟨P, 0, none⟩)) :: (.pointer (some ⟨D, 0, none⟩)) :: (undef) :: (undef) :: (.pointer (some ⟨w.heap.size, 0, none⟩)) :: (.pointer (some ⟨Bo, 0, none⟩)) :: (.pointer (some ⟨P, 0, none⟩)) :: (.pointer (some ⟨P, 0, none⟩)) :: (.pointer (some ⟨P, 1, none⟩)) :: (.int .i64 (n : Int)) :: (.int .i64 (IntKind.i64.wrap ((n : Int) + 1))) :: (.pointer (some ⟨D, 0, none⟩)) :: (.int .i64 (v1 : Int)) :: (.pointer (some ⟨D, 0, none⟩)) :: (undef) :: (undef) :: (.pointer (some ⟨D, 0, none⟩)) :: (undef) :: (undef) :: (undef) :: (.pointer (some ⟨D, 0, none⟩)) :: (undef) :: (undef) :: (.pointer (some ⟨D, 0, none⟩)) :: (undef) :: (undef) :: (undef) :: (undef) :: (undef) :: (undef) :: (undef) :: (undef) :: (undef) :: (undef) :: (undef) :: (undef) :: []).toArray, []⟩ W := by
  have hcell := hR.cell
  have hlt := hR.ply.lt
  refine wpAny_ready (rs := [8, 9]) (by kernel_rfl) (by simp) ?_
  refine AllReady.cons rfl (fun K hK => ?_) ?_
  · simp only [ops53, Tryz.f63]
    go_wp2_with (go_at_call 35; refine (roll_any D ao len cap zs base P bv n acts w W _ hR (by decide) (by decide)).mono ?_; rintro e w' ⟨v2, rfl, hv2, hr, hk⟩)
    exact st_21010 D ao len cap zs base P bv n acts w Q HQ v1 v2 Bo w' hr hv1 hv2 (hO.keep hk)
  refine AllReady.cons rfl (fun K hK => ?_) ?_
  · simp only [ops53, Tryz.f63]
    go_simp
    refine hK _ _ ?_
    exact st_11110 D ao len cap zs base P bv n acts w Q HQ v1 _ Bo _ (hR.alloc _) hv1 (NineAt.new hR) (hO.alloc _)
  exact AllReady.nil

theorem st_01110 (D : Nat) (ao : Option Addr) (len cap : Nat) (zs : Nat → Int) (base P bv n : Nat) (acts : Int) (w : World) (Q : Exit → Act → World → Prop) (HQ : FinOK D ao len cap zs base P bv n acts w Q) (Bs : Nat) (Bo : Nat) (W : World) (hR : Rolls D ao len cap zs base P bv n acts w W) (hN : NineAt D W Bs) (hO : SlotAt D w W Bo) :
    wpAny Tryz.prog .any ops53 Q 11 #[true, true, true, true, true, true, false, true, false, true, true, false, false, false, true, false, false, true, false, false, false, true, false] ⟨((.pointer (some ⟨P, 0, none⟩)) :: (.pointer (some ⟨D, 0, none⟩)) :: (undef) :: (undef) :: (.pointer (some ⟨w.heap.size, 0, none⟩)) :: (.pointer (some ⟨Bo, 0, none⟩)) :: (.pointer (some ⟨P, 0, none⟩)) :: (.pointer (some ⟨P, 0, none⟩)) :: (.pointer (some ⟨P, 1, none⟩)) :: (.int .i64 (n : Int)) :: (.int .i64 (IntKind.i64.wrap ((n : Int) + 1))) :: (.pointer (some ⟨D, 0, none⟩)) :: (undef) :: (.pointer (some ⟨D, 0, none⟩)) :: (undef) :: (.slice (some ⟨Bs, 0, none⟩) 9 9) :: (.pointer (some ⟨D, 0, none⟩)) :: (undef) :: (undef) :: (undef) :: (.pointer (some ⟨D, 0, none⟩)) :: (undef) :: (undef) :: (.pointer (some ⟨D, 0, none⟩)) :: (undef) :: (undef) :: (undef) :: (undef) :: (undef) :: (undef) :: (undef) :: (undef) :: (undef) :: (undef) :: (undef) :: (undef) :: []).toArray, []⟩ W := by
  have hcell := hR.cell
  have hlt := hR.ply.lt
  refine wpAny_ready (rs := [6]) (by kernel_rfl) (by simp) ?_
  refine AllReady.cons rfl (fun K hK => ?_) ?_
  · simp only [ops53, Tryz.f63]
    go_wp2_with (go_at_call 35; refine (roll_any D ao len cap zs base P bv n acts w W _ hR (by decide) (by decide)).mono ?_; rintro e w' ⟨v1, rfl, hv1, hr, hk⟩)
    exact st_11110 D ao len cap zs base P bv n acts w Q HQ v1 Bs Bo w' hr hv1 (hN.keep hk) (hO.keep hk)
  exact AllReady.nil

theorem st_30000 (D : Nat) (ao : Option Addr) (len cap : Nat) (zs : Nat → Int) (base P bv n : Nat) (acts : Int) (w : World) (Q : Exit → Act → World → Prop) (HQ : FinOK D ao len cap zs base P bv n acts w Q) (v1 v2 v3 : Nat) (W : World) (hR : Rolls D ao len cap zs base P bv n acts w W) (hv1 : (v1 : Int) < 4) (hv2 : (v2 : Int) < 2) (hv3 : (v3 : Int) < 9) :
    wpAny Tryz.prog .any ops53 Q 12 #[true, true, true, false, false, true, true, true, true, false, true, true, false, false, true, false, false, true, false, false, false, false, false] ⟨((.pointer (some ⟨P, 0, none⟩)) :: (.pointer (some ⟨D, 0, none⟩)) :: (undef) :: (undef) :: (.pointer (some ⟨w.heap.size, 0, none⟩)) :: (undef) :: (.pointer (some ⟨P, 0, none⟩)) :: (.pointer (some ⟨P, 0, none⟩)) :: (.pointer (some ⟨P, 1, none⟩)) :: (undef) :: (undef) :: (.pointer (some ⟨D, 0, none⟩)) :: (.int .i64 (v1 : Int)) :: (.pointer (some ⟨D, 0, none⟩)) :: (.int .i64 (v2 : Int)) :: (undef) :: (.pointer (some ⟨D, 0, none⟩)) :: (.int .i64 (v3 : Int)) :: (undef) :: (undef) :: (.pointer (some ⟨D, 0, none⟩)) :: (undef) :: (undef) :: (.pointer (some ⟨D, 0, none⟩)) :: (undef) :: (undef) :: (undef) :: (undef) :: (undef) :: (undef) :: (undef) :: (undef) :: (undef) :: (undef) :: (undef) :: (undef) :: []).toArray, []⟩ W := by
  have hcell := hR.cell
  have hlt := hR.ply.lt
  refine wpAny_ready (rs := [3, 9, 15, 21]) (by kernel_rfl) (by simp) ?_
  refine AllReady.cons rfl (fun K hK => ?_) ?_
  · simp only [ops53, Tryz.f63]
    go_simp
    refine hK _ _ ?_
    refine wpAny_take (i := 4) (v := .int .i64 (IntKind.i64.wrap ((n : Int) + 1))) rfl (by kernel_rfl) (by kernel_rfl) (by kernel_rfl) (fun _ _ _ h => HQ.2 _ _ _ _ _ h) (Or.inl ⟨by rfl, fun w => by simp only [ops53, Tryz.f63]; go_simp⟩) ?_
    exact st_31000 D ao len cap zs base P bv n acts w Q HQ v1 v2 v3 _ hR hv1 hv2 hv3
  refine AllReady.cons rfl (fun K hK => ?_) ?_
  · simp only [ops53, Tryz.f63]
    go_simp
    refine hK _ _ ?_
    have hv3n : v3 < 9 := by omega
    refine wpAny_take (i := 12) (v := .pointer (some ⟨W.heap.size, v3, none⟩)) rfl (by kernel_rfl) (by kernel_rfl) (by kernel_rfl) (fun _ _ _ h => HQ.2 _ _ _ _ _ h) (Or.inl ⟨by rfl, fun w => by simp only [ops53, Tryz.f63]; go_simp⟩) ?_
    exact st_30100 D ao len cap zs base P bv n acts w Q HQ v1 v2 v3 _ _ (hR.alloc _) hv1 hv2 hv3 (NineAt.new hR)
  refine AllReady.cons rfl (fun K hK => ?_) ?_
  · simp only [ops53, Tryz.f63]
    go_wp2_with (go_at_call 35; refine (roll_any D ao len cap zs base P bv n acts w W _ hR (by decide) (by decide)).mono ?_; rintro e w' ⟨v4, rfl, hv4, hr, hk⟩)
    refine wpAny_take (i := 16) (v := .int .i64 (IntKind.i64.wrap (95 + (v4 : Int)))) rfl (by kernel_rfl) (by kernel_rfl) (by kernel_rfl) (fun _ _ _ h => HQ.2 _ _ _ _ _ h) (Or.inl ⟨by rfl, fun w => by simp only [ops53, Tryz.f63]; go_simp⟩) ?_
    exact st_40000 D ao len cap zs base P bv n acts w Q HQ v1 v2 v3 v4 w' hr hv1 hv2 hv3 hv4
  refine AllReady.cons rfl (fun K hK => ?_) ?_
  · simp only [ops53, Tryz.f63]
    go_simp
    refine hK _ _ ?_
    exact st_30010 D ao len cap zs base P bv n acts w Q HQ v1 v2 v3 _ _ (hR.alloc _) hv1 hv2 hv3 (SlotAt.make hR)
  exact AllReady.nil

theorem st_20100 (D : Nat) (ao : Option Addr) (len cap : Nat) (zs : Nat → Int) (base P bv n : Nat) (acts : Int) (w : World) (Q : Exit → Act → World → Prop) (HQ : FinOK D ao len cap zs base P bv n acts w Q) (v1 v2 : Nat) (Bs : Nat) (W : World) (hR : Rolls D ao len cap zs base P bv n acts w W) (hv1 : (v1 : Int) < 4) (hv2 : (v2 : Int) < 2) (hN : NineAt D W Bs) :
    wpAny Tryz.prog .any ops53 Q 12 #[true, true, true, false, false, true, true, true, true, true, true, false, false, false, true, false, false, true, false, false, false, false, false] ⟨((.pointer (some ⟨P, 0, none⟩)) :: (.pointer (some ⟨D, 0, none⟩)) :: (undef) :: (undef) :: (.pointer (some ⟨w.heap.size, 0, none⟩)) :: (undef) :: (.pointer (some ⟨P, 0, none⟩)) :: (.pointer (some ⟨P, 0, none⟩)) :: (.pointer (some ⟨P, 1, none⟩)) :: (undef) :: (undef) :: (.pointer (some ⟨D, 0, none⟩)) :: (.int .i64 (v1 : Int)) :: (.pointer (some ⟨D, 0, none⟩)) :: (.int .i64 (v2 : Int)) :: (.slice (some ⟨Bs, 0, none⟩) 9 9) :: (.pointer (some ⟨D, 0, none⟩)) :: (undef) :: (undef) :: (undef) :: (.pointer (some ⟨D, 0, none⟩)) :: (undef) :: (undef) :: (.pointer (some ⟨D, 0, none⟩)) :: (undef) :: (undef) :: (undef) :: (undef) :: (undef) :: (undef) :: (undef) :: (undef) :: (undef) :: (undef) :: (undef) :: (undef) :: []).toArray, []⟩ W := by
  have hcell := hR.cell
  have hlt := hR.ply.lt
  refine wpAny_ready (rs := [3, 11, 21]) (by kernel_rfl) (by simp) ?_
  refine AllReady.cons rfl (fun K hK => ?_) ?_
  · simp only [ops53, Tryz.f63]
    go_simp
    refine hK _ _ ?_
    refine wpAny_take (i := 4) (v := .int .i64 (IntKind.i64.wrap ((n : Int) + 1))) rfl (by kernel_rfl) (by kernel_rfl) (by kernel_rfl) (fun _ _ _ h => HQ.2 _ _ _ _ _ h) (Or.inl ⟨by rfl, fun w => by simp only [ops53, Tryz.f63]; go_simp⟩) ?_
    exact st_21100 D ao len cap zs base P bv n acts w Q HQ v1 v2 Bs _ hR hv1 hv2 hN
  refine AllReady.cons rfl (fun K hK => ?_) ?_
  · simp only [ops53, Tryz.f63]
    go_wp2_with (go_at_call 35; refine (roll_any D ao len cap zs base P bv n acts w W _ hR (by decide) (by decide)).mono ?_; rintro e w' ⟨v3, rfl, hv3, hr, hk⟩)
    have hv3n : v3 < 9 := by omega
    refine wpAny_take (i := 12) (v := .pointer (some ⟨Bs, v3, none⟩)) rfl (by kernel_rfl) (by kernel_rfl) (by kernel_rfl) (fun _ _ _ h => HQ.2 _ _ _ _ _ h) (Or.inl ⟨by rfl, fun w => by simp only [ops53, Tryz.f63]; go_simp⟩) ?_
    exact st_30100 D ao len cap zs base P bv n acts w Q HQ v1 v2 v3 Bs w' hr hv1 hv2 hv3 (hN.keep hk)
  refine AllReady.cons rfl (fun K hK => ?_) ?_
  · simp only [ops53, Tryz.f63]
    go_simp
    refine hK _ _ ?_
    exact st_20110 D ao len cap zs base P bv n acts w Q HQ v1 v2 Bs _ _ (hR.alloc _) hv1 hv2 (hN.alloc _) (SlotAt.make hR)
  exact AllReady.nil

theorem st_20010 (D : Nat) (ao : Option Addr) (len cap : Nat) (zs : Nat → Int) (base P bv n : Nat) (acts : Int) (w : World) (Q : Exit → Act → World → Prop) (HQ : FinOK D ao len cap zs base P bv n acts w Q) (v1 v2 : Nat) (Bo : Nat) (W : World) (hR : Rolls D ao len cap zs base P bv n acts w W) (hv1 : (v1 : Int) < 4) (hv2 : (v2 : Int) < 2) (hO : SlotAt D w W Bo) :
    wpAny Tryz.prog .any ops53 Q 12 #[true, true, true, false, false, true, true, true, true, false, true, false, false, false, true, false, false, true, false, false, false, true, false] ⟨((.pointer (some ⟨P, 0, none⟩)) :: (.pointer (some ⟨D, 0, none⟩)) :: (undef) :: (undef) :: (.pointer (some ⟨w.heap.size, 0, none⟩)) :: (.pointer (some ⟨Bo, 0, none⟩)) :: (.pointer (some ⟨P, 0, none⟩)) :: (.pointer (some ⟨P, 0, none⟩)) :: (.pointer (some ⟨P, 1, none⟩)) :: (undef) :: (undef) :: (.pointer (some ⟨D, 0, none⟩)) :: (.int .i64 (v1 : Int)) :: (.pointer (some ⟨D, 0, none⟩)) :: (.int .i64 (v2 : Int)) :: (undef) :: (.pointer (some ⟨D, 0, none⟩)) :: (undef) :: (undef) :: (undef) :: (.pointer (some ⟨D, 0, none⟩)) :: (undef) :: (undef) :: (.pointer (some ⟨D, 0, none⟩)) :: (undef) :: (undef) :: (undef) :: (undef) :: (undef) :: (undef) :: (undef) :: (undef) :: (undef) :: (undef) :: (undef) :: (undef) :: []).toArray, []⟩ W := by
  have hcell := hR.cell
  have hlt := hR.ply.lt
  refine wpAny_ready (rs := [3, 9, 11]) (by kernel_rfl) (by simp) ?_
  refine AllReady.cons rfl (fun K hK => ?_) ?_
  · simp only [ops53, Tryz.f63]
    go_simp
    refine hK _ _ ?_
    refine wpAny_take (i := 4) (v := .int .i64 (IntKind.i64.wrap ((n : Int) + 1))) rfl (by kernel_rfl) (by kernel_rfl) (by kernel_rfl) (fun _ _ _ h => HQ.2 _ _ _ _ _ h) (Or.inl ⟨by rfl, fun w => by simp only [ops53, Tryz.f63]; go_simp⟩) ?_
    exact st_21010 D ao len cap zs base P bv n acts w Q HQ v1 v2 Bo _ hR hv1 hv2 hO
  refine AllReady.cons rfl (fun K hK => ?_) ?_
  · simp only [ops53, Tryz.f63]
    go_simp
    refine hK _ _ ?_
    exact st_20110 D ao len cap zs base P bv n acts w Q HQ v1 v2 _ Bo _ (hR.alloc _) hv1 hv2 (NineAt.new hR) (hO.alloc _)
  refine AllReady.cons rfl (fun K hK => ?_) ?_
  · simp only [ops53, Tryz.f63]
    go_wp2_with (go_at_call 35; refine (roll_any D ao len cap zs base P bv n acts w W _ hR (by decide) (by decide)).mono ?_; rintro e w' ⟨v3, rfl, hv3, hr, hk⟩)
    exact st_30010 D ao len cap zs base P bv n acts w Q HQ v1 v2 v3 Bo w' hr hv1 hv2 hv3 (hO.keep hk)
  exact AllReady.nil

theorem st_11000 (D : Nat) (ao : Option Addr) (len cap : Nat) (zs : Nat → Int) (base P bv n : Nat) (acts : Int) (w : World) (Q : Exit → Act → World → Prop) (HQ : FinOK D ao len cap zs base P bv n acts w Q) (v1 : Nat) (W : World) (hR : Rolls D ao len cap zs base P bv n acts w W) (hv1 : (v1 : Int) < 4) :
    wpAny Tryz.prog .any ops53 Q 12 #[true, true, true, true, true, true, true, true, false, false, true, false, false, false, true, false, false, true, false, false, false, false, false] ⟨((.pointer (some ⟨P, 0, none⟩)) :: (.pointer (some ⟨D, 0, none⟩)) :: (undef) :: (undef) :: (.pointer (some ⟨w.heap.size, 0, none⟩)) :: (undef) :: (.pointer (some ⟨P, 0, none⟩)) :: (.pointer (some ⟨P, 0, none⟩)) :: (.pointer (some ⟨P, 1, none⟩)) :: (.int .i64 (n : Int)) :: (.int .i64 (IntKind.i64.wrap ((n : Int) + 1))) :: (.pointer (some ⟨D, 0, none⟩)) :: (.int .i64 (v1 : Int)) :: (.pointer (some ⟨D, 0, none⟩)) :: (undef) :: (undef) :: (.pointer (some ⟨D, 0, none⟩)) :: (undef) :: (undef) :: (undef) :: (.pointer (some ⟨D, 0, none⟩)) :: (undef) :: (undef) :: (.pointer (some ⟨D, 0, none⟩)) :: (undef) :: (undef) :: (undef) :: (undef) :: (undef) :: (undef) :: (undef) :: (undef) :: (undef) :: (undef) :: (undef) :: (undef) :: []).toArray, []⟩ W := by
  have hcell := hR.cell
  have hlt := hR.ply.lt
  refine wpAny_ready (rs := [8, 9, 21]) (by kernel_rfl) (by simp) ?_
  refine AllReady.cons rfl (fun K hK => ?_) ?_
  · simp only [ops53, Tryz.f63]
    go_wp2_with (go_at_call 35; refine (roll_any D ao len cap zs base P bv n acts w W _ hR (by decide) (by decide)).mono ?_; rintro e w' ⟨v2, rfl, hv2, hr, hk⟩)
    exact st_21000 D ao len cap zs base P bv n acts w Q HQ v1 v2 w' hr hv1 hv2
  refine AllReady.cons rfl (fun K hK => ?_) ?_
  · simp only [ops53, Tryz.f63]
    go_simp
    refine hK _ _ ?_
    exact st_11100 D ao len cap zs base P bv n acts w Q HQ v1 _ _ (hR.alloc _) hv1 (NineAt.new hR)
  refine AllReady.cons rfl (fun K hK => ?_) ?_
  · simp only [ops53, Tryz.f63]
    go_simp
    refine hK _ _ ?_
    exact st_11010 D ao len cap zs base P bv n acts w Q HQ v1 _ _ (hR.alloc _) hv1 (SlotAt.make hR)
  exact AllReady.nil

theorem st_10110 (D : Nat) (ao : Option Addr) (len cap : Nat) (zs : Nat → Int) (base P bv n : Nat) (acts : Int) (w : World) (Q : Exit → Act → World → Prop) (HQ : FinOK D ao len cap zs base P bv n acts w Q) (v1 : Nat) (Bs : Nat) (Bo : Nat) (W : World) (hR : Rolls D ao len cap zs base P bv n acts w W) (hv1 : (v1 : Int) < 4) (hN : NineAt D W Bs) (hO : SlotAt D w W Bo) :
    wpAny Tryz.prog .any ops53 Q 12 #[true, true, true, false, false, true, true, true, false, true, true, false, false, false, true, false, false, true, false, false, false, true, false] ⟨((.pointer (some ⟨P, 0, none⟩)) :: (.pointer (some ⟨D, 0, none⟩)) :: (undef) :: (undef) :: (.pointer (some ⟨w.heap.size, 0, none⟩)) :: (.pointer (some ⟨Bo, 0, none⟩)) :: (.pointer (some ⟨P, 0, none⟩)) :: (.pointer (some ⟨P, 0, none⟩)) :: (.pointer (some ⟨P, 1, none⟩)) :: (undef) :: (undef) :: (.pointer (some ⟨D, 0, none⟩)) :: (.int .i64 (v1 : Int)) :: (.pointer (some ⟨D, 0, none⟩)) :: (undef) :: (.slice (some ⟨Bs, 0, none⟩) 9 9) :: (.pointer (some ⟨D, 0, none⟩)) :: (undef) :: (undef) :: (undef) :: (.pointer (some ⟨D, 0, none⟩)) :: (undef) :: (undef) :: (.pointer (some ⟨D, 0, none⟩)) :: (undef) :: (undef) :: (undef) :: (undef) :: (undef) :: (undef) :: (undef) :: (undef) :: (undef) :: (undef) :: (undef) :: (undef) :: []).toArray, []⟩ W := by
  have hcell := hR.cell
  have hlt := hR.ply.lt
  refine wpAny_ready (rs := [3, 8]) (by kernel_rfl) (by simp) ?_
  refine AllReady.cons rfl (fun K hK => ?_) ?_
  · simp only [ops53, Tryz.f63]
    go_simp
    refine hK _ _ ?_
    refine wpAny_take (i := 4) (v := .int .i64 (IntKind.i64.wrap ((n : Int) + 1))) rfl (by kernel_rfl) (by kernel_rfl) (by kernel_rfl) (fun _ _ _ h => HQ.2 _ _ _ _ _ h) (Or.inl ⟨by rfl, fun w => by simp only [ops53, Tryz.f63]; go_simp⟩) ?_
    exact st_11110 D ao len cap zs base P bv n acts w Q HQ v1 Bs Bo _ hR hv1 hN hO
  refine AllReady.cons rfl (fun K hK => ?_) ?_
  · simp only [ops53, Tryz.f63]
    go_wp2_with (go_at_call 35; refine (roll_any D ao len cap zs base P bv n acts w W _ hR (by decide) (by decide)).mono ?_; rintro e w' ⟨v2, rfl, hv2, hr, hk⟩)
    exact st_20110 D ao len cap zs base P bv n acts w Q HQ v1 v2 Bs Bo w' hr hv1 hv2 (hN.keep hk) (hO.keep hk)
  exact AllReady.nil

theorem st_01100 (D : Nat) (ao : Option Addr) (len cap : Nat) (zs : Nat → Int) (base P bv n : Nat) (acts : Int) (w : World) (Q : Exit → Act → World → Prop) (HQ : FinOK D ao len cap zs base P bv n acts w Q) (Bs : Nat) (W : World) (hR : Rolls D ao len cap zs base P bv n acts w W) (hN : NineAt D W Bs) :
    wpAny Tryz.prog .any ops53 Q 12 #[true, true, true, true, true, true, false, true, false, true, true, false, false, false, true, false, false, true, false, false, false, false, false] ⟨((.pointer (some ⟨P, 0, none⟩)) :: (.pointer (some ⟨D, 0, none⟩)) :: (undef) :: (undef) :: (.pointer (some ⟨w.heap.size, 0, none⟩)) :: (undef) :: (.pointer (some ⟨P, 0, none⟩)) :: (.pointer (some ⟨P, 0, none⟩)) :: (.pointer (some ⟨P, 1, none⟩)) :: (.int .i64 (n : Int)) :: (.int .i64 (IntKind.i64.wrap ((n : Int) + 1))) :: (.pointer (some ⟨D, 0, none⟩)) :: (undef) :: (.pointer (some ⟨D, 0, none⟩)) :: (undef) :: (.slice (some ⟨Bs, 0, none⟩) 9 9) :: (.pointer (some ⟨D, 0, none⟩)) :: (undef) :: (undef) :: (undef) :: (.pointer (some ⟨D, 0, none⟩)) :: (undef) :: (undef) :: (.pointer (some ⟨D, 0, none⟩)) :: (undef) :: (undef) :: (undef) :: (undef) :: (undef) :: (undef) :: (undef) :: (undef) :: (undef) :: (undef) :: (undef) :: (undef) :: []).toArray, []⟩ W := by
  have hcell := hR.cell
  have hlt := hR.ply.lt
  refine wpAny_ready (rs := [6, 21]) (by kernel_rfl) (by simp) ?_
  refine AllReady.cons rfl (fun K hK => ?_) ?_
  · simp only [ops53, Tryz.f63]
    go_wp2_with (go_at_call 35; refine (roll_any D ao len cap zs base P bv n acts w W _ hR (by decide) (by decide)).mono ?_; rintro e w' ⟨v1, rfl, hv1, hr, hk⟩)
    exact st_11100 D ao len cap zs base P bv n acts w Q HQ v1 Bs w' hr hv1 (hN.keep hk)
  refine AllReady.cons rfl (fun K hK => ?_) ?_
  · simp only [ops53, Tryz.f63]
    go_simp
    refine hK _ _ ?_
    exact st_01110 D ao len cap zs base P bv n acts w Q HQ Bs _ _ (hR.alloc _) (hN.alloc _) (SlotAt.make hR)
  exact AllReady.nil

theorem st_01010 (D : Nat) (ao : Option Addr) (len cap : Nat) (zs : Nat → Int) (base P bv n : Nat) (acts : Int) (w : World) (Q : Exit → Act → World → Prop) (HQ : FinOK D ao len cap zs base P bv n acts w Q) (Bo : Nat) (W : World) (hR : Rolls D ao len cap zs base P bv n acts w W) (hO : SlotAt D w W Bo) :
    wpAny Tryz.prog .any ops53 Q 12 #[true, true, true, true, true, true, false, true, false, false, true, false, false, false, true, false, false, true, false, false, false, true, false] ⟨((.pointer (some ⟨P, 0, none⟩)) :: (.pointer (some ⟨D, 0, none⟩)) :: (undef) :: (undef) :: (.pointer (some ⟨w.heap.size, 0, none⟩)) :: (.pointer (some ⟨Bo, 0, none⟩)) :: (.pointer (some ⟨P, 0, none⟩)) :: (.pointer (some ⟨P, 0, none⟩)) :: (.pointer (some ⟨P, 1, none⟩)) :: (.int .i64 (n : Int)) :: (.int .i64 (IntKind.i64.wrap ((n : Int) + 1))) :: (.pointer (some ⟨D, 0, none⟩)) :: (undef) :: (.pointer (some ⟨D, 0, none⟩)) :: (undef) :: (undef) :: (.pointer (some ⟨D, 0, none⟩)) :: (undef) :: (undef) :: (undef) :: (.pointer (some ⟨D, 0, none⟩)) :: (undef) :: (undef) :: (.pointer (some ⟨D, 0, none⟩)) :: (undef) :: (undef) :: (undef) :: (undef) :: (undef) :: (undef) :: (undef) :: (undef) :: (undef) :: (undef) :: (undef) :: (undef) :: []).toArray, []⟩ W := by
  have hcell := hR.cell
  have hlt := hR.ply.lt
  refine wpAny_ready (rs := [6, 9]) (by kernel_rfl) (by simp) ?_
  refine AllReady.cons rfl (fun K hK => ?_) ?_
  · simp only [ops53, Tryz.f63]
    go_wp2_with (go_at_call 35; refine (roll_any D ao len cap zs base P bv n acts w W _ hR (by decide) (by decide)).mono ?_; rintro e w' ⟨v1, rfl, hv1, hr, hk⟩)
    exact st_11010 D ao len cap zs base P bv n acts w Q HQ v1 Bo w' hr hv1 (hO.keep hk)
  refine AllReady.cons rfl (fun K hK => ?_) ?_
  · simp only [ops53, Tryz.f63]
    go_simp
    refine hK _ _ ?_
    exact st_01110 D ao len cap zs base P bv n acts w Q HQ _ Bo _ (hR.alloc _) (NineAt.new hR) (hO.alloc _)
  exact AllReady.nil

theorem st_20000 (D : Nat) (ao : Option Addr) (len cap : Nat) (zs : Nat → Int) (base P bv n : Nat) (acts : Int) (w : World) (Q : Exit → Act → World → Prop) (HQ : FinOK D ao len cap zs base P bv n acts w Q) (v1 v2 : Nat) (W : World) (hR : Rolls D ao len cap zs base P bv n acts w W) (hv1 : (v1 : Int) < 4) (hv2 : (v2 : Int) < 2) :
    wpAny Tryz.prog .any ops53 Q 13 #[true, true, true, false, false, true, true, true, true, false, true, false, false, false, true, false, false, true, false, false, false, false, false] ⟨((.pointer (some ⟨P, 0, none⟩)) :: (.pointer (some ⟨D, 0, none⟩)) :: (undef) :: (undef) :: (.pointer (some ⟨w.heap.size, 0, none⟩)) :: (undef) :: (.pointer (some ⟨P, 0, none⟩)) :: (.pointer (some ⟨P, 0, none⟩)) :: (.pointer (some ⟨P, 1, none⟩)) :: (undef) :: (undef) :: (.pointer (some ⟨D, 0, none⟩)) :: (.int .i64 (v1 : Int)) :: (.pointer (some ⟨D, 0, none⟩)) :: (.int .i64 (v2 : Int)) :: (undef) :: (.pointer (some ⟨D, 0, none⟩)) :: (undef) :: (undef) :: (undef) :: (.pointer (some ⟨D, 0, none⟩)) :: (undef) :: (undef) :: (.pointer (some ⟨D, 0, none⟩)) :: (undef) :: (undef) :: (undef) :: (undef) :: (undef) :: (undef) :: (undef) :: (undef) :: (undef) :: (undef) :: (undef) :: (undef) :: []).toArray, []⟩ W := by
  have hcell := hR.cell
  have hlt := hR.ply.lt
  refine wpAny_ready (rs := [3, 9, 11, 21]) (by kernel_rfl) (by simp) ?_
  refine AllReady.cons rfl (fun K hK => ?_) ?_
  · simp only [ops53, Tryz.f63]
    go_simp
    refine hK _ _ ?_
    refine wpAny_take (i := 4) (v := .int .i64 (IntKind.i64.wrap ((n : Int) + 1))) rfl (by kernel_rfl) (by kernel_rfl) (by kernel_rfl) (fun _ _ _ h => HQ.2 _ _ _ _ _ h) (Or.inl ⟨by rfl, fun w => by simp only [ops53, Tryz.f63]; go_simp⟩) ?_
    exact st_21000 D ao len cap zs base P bv n acts w Q HQ v1 v2 _ hR hv1 hv2
  refine AllReady.cons rfl (fun K hK => ?_) ?_
  · simp only [ops53, Tryz.f63]
    go_simp
    refine hK _ _ ?_
    exact st_20100 D ao len cap zs base P bv n acts w Q HQ v1 v2 _ _ (hR.alloc _) hv1 hv2 (NineAt.new hR)
  refine AllReady.cons rfl (fun K hK => ?_) ?_
  · simp only [ops53, Tryz.f63]
    go_wp2_with (go_at_call 35; refine (roll_any D ao len cap zs base P bv n acts w W _ hR (by decide) (by decide)).mono ?_; rintro e w' ⟨v3, rfl, hv3, hr, hk⟩)
    exact st_30000 D ao len cap zs base P bv n acts w Q HQ v1 v2 v3 w' hr hv1 hv2 hv3
  refine AllReady.cons rfl (fun K hK => ?_) ?_
  · simp only [ops53, Tryz.f63]
    go_simp
    refine hK _ _ ?_
    exact st_20010 D ao len cap zs base P bv n acts w Q HQ v1 v2 _ _ (hR.alloc _) hv1 hv2 (SlotAt.make hR)
  exact AllReady.nil

theorem st_10100 (D : Nat) (ao : Option Addr) (len cap : Nat) (zs : Nat → Int) (base P bv n : Nat) (acts : Int) (w : World) (Q : Exit → Act → World → Prop) (HQ : FinOK D ao len cap zs base P bv n acts w Q) (v1 : Nat) (Bs : Nat) (W : World) (hR : Rolls D ao len cap zs base P bv n acts w W) (hv1 : (v1 : Int) < 4) (hN : NineAt D W Bs) :
    wpAny Tryz.prog .any ops53 Q 13 #[true, true, true, false, false, true, true, true, false, true, true, false, false, false, true, false, false, true, false, false, false, false, false] ⟨((.pointer (some ⟨P, 0, none⟩)) :: (.pointer (some ⟨D, 0, none⟩)) :: (undef) :: (undef) :: (.pointer (some ⟨w.heap.size, 0, none⟩)) :: (undef) :: (.pointer (some ⟨P, 0, none⟩)) :: (.pointer (some ⟨P, 0, none⟩)) :: (.pointer (some ⟨P, 1, none⟩)) :: (undef) :: (undef) :: (.pointer (some ⟨D, 0, none⟩)) :: (.int .i64 (v1 : Int)) :: (.pointer (some ⟨D, 0, none⟩)) :: (undef) :: (.slice (some ⟨Bs, 0, none⟩) 9 9) :: (.pointer (some ⟨D, 0, none⟩)) :: (undef) :: (undef) :: (undef) :: (.pointer (some ⟨D, 0, none⟩)) :: (undef) :: (undef) :: (.pointer (some ⟨D, 0, none⟩)) :: (undef) :: (undef) :: (undef) :: (undef) :: (undef) :: (undef) :: (undef) :: (undef) :: (undef) :: (undef) :: (undef) :: (undef) :: []).toArray, []⟩ W := by
  have hcell := hR.cell
  have hlt := hR.ply.lt
  refine wpAny_ready (rs := [3, 8, 21]) (by kernel_rfl) (by simp) ?_
  refine AllReady.cons rfl (fun K hK => ?_) ?_
  · simp only [ops53, Tryz.f63]
    go_simp
    refine hK _ _ ?_
    refine wpAny_take (i := 4) (v := .int .i64 (IntKind.i64.wrap ((n : Int) + 1))) rfl (by kernel_rfl) (by kernel_rfl) (by kernel_rfl) (fun _ _ _ h => HQ.2 _ _ _ _ _ h) (Or.inl ⟨by rfl, fun w => by simp only [ops53, Tryz.f63]; go_simp⟩) ?_
    exact st_11100 D ao len cap zs base P bv n acts w Q HQ v1 Bs _ hR hv1 hN
  refine AllReady.cons rfl (fun K hK => ?_) ?_
  · simp only [ops53, Tryz.f63]
    go_wp2_with (go_at_call 35; refine (roll_any D ao len cap zs base P bv n acts w W _ hR (by decide) (by decide)).mono ?_; rintro e w' ⟨v2, rfl, hv2, hr, hk⟩)
    exact st_20100 D ao len cap zs base P bv n acts w Q HQ v1 v2 Bs w' hr hv1 hv2 (hN.keep hk)
  refine AllReady.cons rfl (fun K hK => ?_) ?_
  · simp only [ops53, Tryz.f63]
    go_simp
    refine hK _ _ ?_
    exact st_10110 D ao len cap zs base P bv n acts w Q HQ v1 Bs _ _ (hR.alloc _) hv1 (hN.alloc _) (SlotAt.make hR)
  exact AllReady.nil

theorem st_10010 (D : Nat) (ao : Option Addr) (len cap : Nat) (zs : Nat → Int) (base P bv n : Nat) (acts : Int) (w : World) (Q : Exit → Act → World → Prop) (HQ : FinOK D ao len cap zs base P bv n acts w Q) (v1 : Nat) (Bo : Nat) (W : World) (hR : Rolls D ao len cap zs base P bv n acts w W) (hv1 : (v1 : Int) < 4) (hO : SlotAt D w W Bo) :
    wpAny Tryz.prog .any ops53 Q 13 #[true, true, true, false, false, true, true, true, false, false, true, false, false, false, true, false, false, true, false, false, false, true, false] ⟨((.pointer (some ⟨P, 0, none⟩)) :: (.pointer (some ⟨D, 0, none⟩)) :: (undef) :: (undef) :: (.pointer (some ⟨w.heap.size, 0, none⟩)) :: (.pointer (some ⟨Bo, 0, none⟩)) :: (.pointer (some ⟨P, 0, none⟩)) :: (.pointer (some ⟨P, 0, none⟩)) :: (.pointer (some ⟨P, 1, none⟩)) :: (undef) :: (undef) :: (.pointer (some ⟨D, 0, none⟩)) :: (.int .i64 (v1 : Int)) :: (.pointer (some ⟨D, 0, none⟩)) :: (undef) :: (undef) :: (.pointer (some ⟨D, 0, none⟩)) :: (undef) :: (undef) :: (undef) :: (.pointer (some ⟨D, 0, none⟩)) :: (undef) :: (undef) :: (.pointer (some ⟨D, 0, none⟩)) :: (undef) :: (undef) :: (undef) :: (undef) :: (undef) :: (undef) :: (undef) :: (undef) :: (undef) :: (undef) :: (undef) :: (undef) :: []).toArray, []⟩ W := by
  have hcell := hR.cell
  have hlt := hR.ply.lt
  refine wpAny_ready (rs := [3, 8, 9]) (by kernel_rfl) (by simp) ?_
  refine AllReady.cons rfl (fun K hK => ?_) ?_
  · simp only [ops53, Tryz.f63]
    go_simp
    refine hK _ _ ?_
    refine wpAny_take (i := 4) (v := .int .i64 (IntKind.i64.wrap ((n : Int) + 1))) rfl (by kernel_rfl) (by kernel_rfl) (by kernel_rfl) (fun _ _ _ h => HQ.2 _ _ _ _ _ h) (Or.inl ⟨by rfl, fun w => by simp only [ops53, Tryz.f63]; go_simp⟩) ?_
    exact st_11010 D ao len cap zs base P bv n acts w Q HQ v1 Bo _ hR hv1 hO
  refine AllReady.cons rfl (fun K hK => ?_) ?_
  · simp only [ops53, Tryz.f63]
    go_wp2_with (go_at_call 35; refine (roll_any D ao len cap zs base P bv n acts w W _ hR (by decide) (by decide)).mono ?_; rintro e w' ⟨v2, rfl, hv2, hr, hk⟩)
    exact st_20010 D ao len cap zs base P bv n acts w Q HQ v1 v2 Bo w' hr hv1 hv2 (hO.keep hk)
  refine AllReady.cons rfl (fun K hK => ?_) ?_
  · simp only [ops53, Tryz.f63]
    go_simp
    refine hK _ _ ?_
    exact st_10110 D ao len cap zs base P bv n acts w Q HQ v1 _ Bo _ (hR.alloc _) hv1 (NineAt.new hR) (hO.alloc _)
  exact AllReady.nil

theorem st_01000 (D : Nat) (ao : Option Addr) (len cap : Nat) (zs : Nat → Int) (base P bv n : Nat) (acts : Int) (w : World) (Q : Exit → Act → World → Prop) (HQ : FinOK D ao len cap zs base P bv n acts w Q) (W : World) (hR : Rolls D ao len cap zs base P bv n acts w W) :
    wpAny Tryz.prog .any ops53 Q 13 #[true, true, true, true, true, true, false, true, false, false, true, false, false, false, true, false, false, true, false, false, false, false, false] ⟨((.pointer (some ⟨P, 0, none⟩)) :: (.pointer (some ⟨D, 0, none⟩)) :: (undef) :: (undef) :: (.pointer (some ⟨w.heap.size, 0, none⟩)) :: (undef) :: (.pointer (some ⟨P, 0, none⟩)) :: (.pointer (some ⟨P, 0, none⟩)) :: (.pointer (some ⟨P, 1, none⟩)) :: (.int .i64 (n : Int)) :: (.int .i64 (IntKind.i64.wrap ((n : Int) + 1))) :: (.pointer (some ⟨D, 0, none⟩)) :: (undef) :: (.pointer (some ⟨D, 0, none⟩)) :: (undef) :: (undef) :: (.pointer (some ⟨D, 0, none⟩)) :: (undef) :: (undef) :: (undef) :: (.pointer (some ⟨D, 0, none⟩)) :: (undef) :: (undef) :: (.pointer (some ⟨D, 0, none⟩)) :: (undef) :: (undef) :: (undef) :: (undef) :: (undef) :: (undef) :: (undef) :: (undef) :: (undef) :: (undef) :: (undef) :: (undef) :: []).toArray, []⟩ W := by
  have hcell := hR.cell
  have hlt := hR.ply.lt
  refine wpAny_ready (rs := [6, 9, 21]) (by kernel_rfl) (by simp) ?_
  refine AllReady.cons rfl (fun K hK => ?_) ?_
  · simp only [ops53, Tryz.f63]
    go_wp2_with (go_at_call 35; refine (roll_any D ao len cap zs base P bv n acts w W _ hR (by decide) (by decide)).mono ?_; rintro e w' ⟨v1, rfl, hv1, hr, hk⟩)
    exact st_11000 D ao len cap zs base P bv n acts w Q HQ v1 w' hr hv1
  refine AllReady.cons rfl (fun K hK => ?_) ?_
  · simp only [ops53, Tryz.f63]
    go_simp
    refine hK _ _ ?_
    exact st_01100 D ao len cap zs base P bv n acts w Q HQ _ _ (hR.alloc _) (NineAt.new hR)
  refine AllReady.cons rfl (fun K hK => ?_) ?_
  · simp only [ops53, Tryz.f63]
    go_simp
    refine hK _ _ ?_
    exact st_01010 D ao len cap zs base P bv n acts w Q HQ _ _ (hR.alloc _) (SlotAt.make hR)
  exact AllReady.nil

theorem st_00110 (D : Nat) (ao : Option Addr) (len cap : Nat) (zs : Nat → Int) (base P bv n : Nat) (acts : Int) (w : World) (Q : Exit → Act → World → Prop) (HQ : FinOK D ao len cap zs base P bv n acts w Q) (Bs : Nat) (Bo : Nat) (W : World) (hR : Rolls D ao len cap zs base P bv n acts w W) (hN : NineAt D W Bs) (hO : SlotAt D w W Bo) :
    wpAny Tryz.prog .any ops53 Q 13 #[true, true, true, false, false, true, false, true, false, true, true, false, false, false, true, false, false, true, false, false, false, true, false] ⟨((.pointer (some ⟨P, 0, none⟩)) :: (.pointer (some ⟨D, 0, none⟩)) :: (undef) :: (undef) :: (.pointer (some ⟨w.heap.size, 0, none⟩)) :: (.pointer (some ⟨Bo, 0, none⟩)) :: (.pointer (some ⟨P, 0, none⟩)) :: (.pointer (some ⟨P, 0, none⟩)) :: (.pointer (some ⟨P, 1, none⟩)) :: (undef) :: (undef) :: (.pointer (some ⟨D, 0, none⟩)) :: (undef) :: (.pointer (some ⟨D, 0, none⟩)) :: (undef) :: (.slice (some ⟨Bs, 0, none⟩) 9 9) :: (.pointer (some ⟨D, 0, none⟩)) :: (undef) :: (undef) :: (undef) :: (.pointer (some ⟨D, 0, none⟩)) :: (undef) :: (undef) :: (.pointer (some ⟨D, 0, none⟩)) :: (undef) :: (undef) :: (undef) :: (undef) :: (undef) :: (undef) :: (undef) :: (undef) :: (undef) :: (undef) :: (undef) :: (undef) :: []).toArray, []⟩ W := by
  have hcell := hR.cell
  have hlt := hR.ply.lt
  refine wpAny_ready (rs := [3, 6]) (by kernel_rfl) (by simp) ?_
  refine AllReady.cons rfl (fun K hK => ?_) ?_
  · simp only [ops53, Tryz.f63]
    go_simp
    refine hK _ _ ?_
    refine wpAny_take (i := 4) (v := .int .i64 (IntKind.i64.wrap ((n : Int) + 1))) rfl (by kernel_rfl) (by kernel_rfl) (by kernel_rfl) (fun _ _ _ h => HQ.2 _ _ _ _ _ h) (Or.inl ⟨by rfl, fun w => by simp only [ops53, Tryz.f63]; go_simp⟩) ?_
    exact st_01110 D ao len cap zs base P bv n acts w Q HQ Bs Bo _ hR hN hO
  refine AllReady.cons rfl (fun K hK => ?_) ?_
  · simp only [ops53, Tryz.f63]
    go_wp2_with (go_at_call 35; refine (roll_any D ao len cap zs base P bv n acts w W _ hR (by decide) (by decide)).mono ?_; rintro e w' ⟨v1, rfl, hv1, hr, hk⟩)
    exact st_10110 D ao len cap zs base P bv n acts w Q HQ v1 Bs Bo w' hr hv1 (hN.keep hk) (hO.keep hk)
  exact AllReady.nil

theorem st_10000 (D : Nat) (ao : Option Addr) (len cap : Nat) (zs : Nat → Int) (base P bv n : Nat) (acts : Int) (w : World) (Q : Exit → Act → World → Prop) (HQ : FinOK D ao len cap zs base P bv n acts w Q) (v1 : Nat) (W : World) (hR : Rolls D ao len cap zs base P bv n acts w W) (hv1 : (v1 : Int) < 4) :
    wpAny Tryz.prog .any ops53 Q 14 #[true, true, true, false, false, true, true, true, false, false, true, false, false, false, true, false, false, true, false, false, false, false, false] ⟨((.pointer (some ⟨P, 0, none⟩)) :: (.pointer (some ⟨D, 0, none⟩)) :: (undef) :: (undef) :: (.pointer (some ⟨w.heap.size, 0, none⟩)) :: (undef) :: (.pointer (some ⟨P, 0, none⟩)) :: (.pointer (some ⟨P, 0, none⟩)) :: (.pointer (some ⟨P, 1, none⟩)) :: (undef) :: (undef) :: (.pointer (some ⟨D, 0, none⟩)) :: (.int .i64 (v1 : Int)) :: (.pointer (some ⟨D, 0, none⟩)) :: (undef) :: (undef) :: (.pointer (some ⟨D, 0, none⟩)) :: (undef) :: (undef) :: (undef) :: (.pointer (some ⟨D, 0, none⟩)) :: (undef) :: (undef) :: (.pointer (some ⟨D, 0, none⟩)) :: (undef) :: (undef) :: (undef) :: (undef) :: (undef) :: (undef) :: (undef) :: (undef) :: (undef) :: (undef) :: (undef) :: (undef) :: []).toArray, []⟩ W := by
  have hcell := hR.cell
  have hlt := hR.ply.lt
  refine wpAny_ready (rs := [3, 8, 9, 21]) (by kernel_rfl) (by simp) ?_
  refine AllReady.cons rfl (fun K hK => ?_) ?_
  · simp only [ops53, Tryz.f63]
    go_simp
    refine hK _ _ ?_
    refine wpAny_take (i := 4) (v := .int .i64 (IntKind.i64.wrap ((n : Int) + 1))) rfl (by kernel_rfl) (by kernel_rfl) (by kernel_rfl) (fun _ _ _ h => HQ.2 _ _ _ _ _ h) (Or.inl ⟨by rfl, fun w => by simp only [ops53, Tryz.f63]; go_simp⟩) ?_
    exact st_11000 D ao len cap zs base P bv n acts w Q HQ v1 _ hR hv1
  refine AllReady.cons rfl (fun K hK => ?_) ?_
  · simp only [ops53, Tryz.f63]
    go_wp2_with (go_at_call 35; refine (roll_any D ao len cap zs base P bv n acts w W _ hR (by decide) (by decide)).mono ?_; rintro e w' ⟨v2, rfl, hv2, hr, hk⟩)
    exact st_20000 D ao len cap zs base P bv n acts w Q HQ v1 v2 w' hr hv1 hv2
  refine AllReady.cons rfl (fun K hK => ?_) ?_
  · simp only [ops53, Tryz.f63]
    go_simp
    refine hK _ _ ?_
    exact st_10100 D ao len cap zs base P bv n acts w Q HQ v1 _ _ (hR.alloc _) hv1 (NineAt.new hR)
  refine AllReady.cons rfl (fun K hK => ?_) ?_
  · simp only [ops53, Tryz.f63]
    go_simp
    refine hK _ _ ?_
    exact st_10010 D ao len cap zs base P bv n acts w Q HQ v1 _ _ (hR.alloc _) hv1 (SlotAt.make hR)
  exact AllReady.nil

theorem st_00100 (D : Nat) (ao : Option Addr) (len cap : Nat) (zs : Nat → Int) (base P bv n : Nat) (acts : Int) (w : World) (Q : Exit → Act → World → Prop) (HQ : FinOK D ao len cap zs base P bv n acts w Q) (Bs : Nat) (W : World) (hR : Rolls D ao len cap zs base P bv n acts w W) (hN : NineAt D W Bs) :
    wpAny Tryz.prog .any ops53 Q 14 #[true, true, true, false, false, true, false, true, false, true, true, false, false, false, true, false, false, true, false, false, false, false, false] ⟨((.pointer (some ⟨P, 0, none⟩)) :: (.pointer (some ⟨D, 0, none⟩)) :: (undef) :: (undef) :: (.pointer (some ⟨w.heap.size, 0, none⟩)) :: (undef) :: (.pointer (some ⟨P, 0, none⟩)) :: (.pointer (some ⟨P, 0, none⟩)) :: (.pointer (some ⟨P, 1, none⟩)) :: (undef) :: (undef) :: (.pointer (some ⟨D, 0, none⟩)) :: (undef) :: (.pointer (some ⟨D, 0, none⟩)) :: (undef) :: (.slice (some ⟨Bs, 0, none⟩) 9 9) :: (.pointer (some ⟨D, 0, none⟩)) :: (undef) :: (undef) :: (undef) :: (.pointer (some ⟨D, 0, none⟩)) :: (undef) :: (undef) :: (.pointer (some ⟨D, 0, none⟩)) :: (undef) :: (undef) :: (undef) :: (undef) :: (undef) :: (undef) :: (undef) :: (undef) :: (undef) :: (undef) :: (undef) :: (undef) :: []).toArray, []⟩ W := by
  have hcell := hR.cell
  have hlt := hR.ply.lt
  refine wpAny_ready (rs := [3, 6, 21]) (by kernel_rfl) (by simp) ?_
  refine AllReady.cons rfl (fun K hK => ?_) ?_
  · simp only [ops53, Tryz.f63]
    go_simp
    refine hK _ _ ?_
    refine wpAny_take (i := 4) (v := .int .i64 (IntKind.i64.wrap ((n : Int) + 1))) rfl (by kernel_rfl) (by kernel_rfl) (by kernel_rfl) (fun _ _ _ h => HQ.2 _ _ _ _ _ h) (Or.inl ⟨by rfl, fun w => by simp only [ops53, Tryz.f63]; go_simp⟩) ?_
    exact st_01100 D ao len cap zs base P bv n acts w Q HQ Bs _ hR hN
  refine AllReady.cons rfl (fun K hK => ?_) ?_
  · simp only [ops53, Tryz.f63]
    go_wp2_with (go_at_call 35; refine (roll_any D ao len cap zs base P bv n acts w W _ hR (by decide) (by decide)).mono ?_; rintro e w' ⟨v1, rfl, hv1, hr, hk⟩)
    exact st_10100 D ao len cap zs base P bv n acts w Q HQ v1 Bs w' hr hv1 (hN.keep hk)
  refine AllReady.cons rfl (fun K hK => ?_) ?_
  · simp only [ops53, Tryz.f63]
    go_simp
    refine hK _ _ ?_
    exact st_00110 D ao len cap zs base P bv n acts w Q HQ Bs _ _ (hR.alloc _) (hN.alloc _) (SlotAt.make hR)
  exact AllReady.nil

theorem st_00010 (D : Nat) (ao : Option Addr) (len cap : Nat) (zs : Nat → Int) (base P bv n : Nat) (acts : Int) (w : World) (Q : Exit → Act → World → Prop) (HQ : FinOK D ao len cap zs base P bv n acts w Q) (Bo : Nat) (W : World) (hR : Rolls D ao len cap zs base P bv n acts w W) (hO : SlotAt D w W Bo) :
    wpAny Tryz.prog .any ops53 Q 14 #[true, true, true, false, false, true, false, true, false, false, true, false, false, false, true, false, false, true, false, false, false, true, false] ⟨((.pointer (some ⟨P, 0, none⟩)) :: (.pointer (some ⟨D, 0, none⟩)) :: (undef) :: (undef) :: (.pointer (some ⟨w.heap.size, 0, none⟩)) :: (.pointer (some ⟨Bo, 0, none⟩)) :: (.pointer (some ⟨P, 0, none⟩)) :: (.pointer (some ⟨P, 0, none⟩)) :: (.pointer (some ⟨P, 1, none⟩)) :: (undef) :: (undef) :: (.pointer (some ⟨D, 0, none⟩)) :: (undef) :: (.pointer (some ⟨D, 0, none⟩)) :: (undef) :: (undef) :: (.pointer (some ⟨D, 0, none⟩)) :: (undef) :: (undef) :: (undef) :: (.pointer (some ⟨D, 0, none⟩)) :: (undef) :: (undef) :: (.pointer (some ⟨D, 0, none⟩)) :: (undef) :: (undef) :: (undef) :: (undef) :: (undef) :: (undef) :: (undef) :: (undef) :: (undef) :: (undef) :: (undef) :: (undef) :: []).toArray, []⟩ W := by
  have hcell := hR.cell
  have hlt := hR.ply.lt
  refine wpAny_ready (rs := [3, 6, 9]) (by kernel_rfl) (by simp) ?_
  refine AllReady.cons rfl (fun K hK => ?_) ?_
  · simp only [ops53, Tryz.f63]
    go_simp
    refine hK _ _ ?_
    refine wpAny_take (i := 4) (v := .int .i64 (IntKind.i64.wrap ((n : Int) + 1))) rfl (by kernel_rfl) (by kernel_rfl) (by kernel_rfl) (fun _ _ _ h => HQ.2 _ _ _ _ _ h) (Or.inl ⟨by rfl, fun w => by simp only [ops53, Tryz.f63]; go_simp⟩) ?_
    exact st_01010 D ao len cap zs base P bv n acts w Q HQ Bo _ hR hO
  refine AllReady.cons rfl (fun K hK => ?_) ?_
  · simp only [ops53, Tryz.f63]
    go_wp2_with (go_at_call 35; refine (roll_any D ao len cap zs base P bv n acts w W _ hR (by decide) (by decide)).mono ?_; rintro e w' ⟨v1, rfl, hv1, hr, hk⟩)
    exact st_10010 D ao len cap zs base P bv n acts w Q HQ v1 Bo w' hr hv1 (hO.keep hk)
  refine AllReady.cons rfl (fun K hK => ?_) ?_
  · simp only [ops53, Tryz.f63]
    go_simp
    refine hK _ _ ?_
    exact st_00110 D ao len cap zs base P bv n acts w Q HQ _ Bo _ (hR.alloc _) (NineAt.new hR) (hO.alloc _)
  exact AllReady.nil

theorem st_00000 (D : Nat) (ao : Option Addr) (len cap : Nat) (zs : Nat → Int) (base P bv n : Nat) (acts : Int) (w : World) (Q : Exit → Act → World → Prop) (HQ : FinOK D ao len cap zs base P bv n acts w Q) (W : World) (hR : Rolls D ao len cap zs base P bv n acts w W) :
    wpAny Tryz.prog .any ops53 Q 15 #[true, true, true, false, false, true, false, true, false, false, true, false, false, false, true, false, false, true, false, false, false, false, false] ⟨((.pointer (some ⟨P, 0, none⟩)) :: (.pointer (some ⟨D, 0, none⟩)) :: (undef) :: (undef) :: (.pointer (some ⟨w.heap.size, 0, none⟩)) :: (undef) :: (.pointer (some ⟨P, 0, none⟩)) :: (.pointer (some ⟨P, 0, none⟩)) :: (.pointer (some ⟨P, 1, none⟩)) :: (undef) :: (undef) :: (.pointer (some ⟨D, 0, none⟩)) :: (undef) :: (.pointer (some ⟨D, 0, none⟩)) :: (undef) :: (undef) :: (.pointer (some ⟨D, 0, none⟩)) :: (undef) :: (undef) :: (undef) :: (.pointer (some ⟨D, 0, none⟩)) :: (undef) :: (undef) :: (.pointer (some ⟨D, 0, none⟩)) :: (undef) :: (undef) :: (undef) :: (undef) :: (undef) :: (undef) :: (undef) :: (undef) :: (undef) :: (undef) :: (undef) :: (undef) :: []).toArray, []⟩ W := by
  have hcell := hR.cell
  have hlt := hR.ply.lt
  refine wpAny_ready (rs := [3, 6, 9, 21]) (by kernel_rfl) (by simp) ?_
  refine AllReady.cons rfl (fun K hK => ?_) ?_
  · simp only [ops53, Tryz.f63]
    go_simp
    refine hK _ _ ?_
    refine wpAny_take (i := 4) (v := .int .i64 (IntKind.i64.wrap ((n : Int) + 1))) rfl (by kernel_rfl) (by kernel_rfl) (by kernel_rfl) (fun _ _ _ h => HQ.2 _ _ _ _ _ h) (Or.inl ⟨by rfl, fun w => by simp only [ops53, Tryz.f63]; go_simp⟩) ?_
    exact st_01000 D ao len cap zs base P bv n acts w Q HQ _ hR
  refine AllReady.cons rfl (fun K hK => ?_) ?_
  · simp only [ops53, Tryz.f63]
    go_wp2_with (go_at_call 35; refine (roll_any D ao len cap zs base P bv n acts w W _ hR (by decide) (by decide)).mono ?_; rintro e w' ⟨v1, rfl, hv1, hr, hk⟩)
    exact st_10000 D ao len cap zs base P bv n acts w Q HQ v1 w' hr hv1
  refine AllReady.cons rfl (fun K hK => ?_) ?_
  · simp only [ops53, Tryz.f63]
    go_simp
    refine hK _ _ ?_
    exact st_00100 D ao len cap zs base P bv n acts w Q HQ _ _ (hR.alloc _) (NineAt.new hR)
  refine AllReady.cons rfl (fun K hK => ?_) ?_
  · simp only [ops53, Tryz.f63]
    go_simp
    refine hK _ _ ?_
    exact st_00010 D ao len cap zs base P bv n acts w Q HQ _ _ (hR.alloc _) (SlotAt.make hR)
  exact AllReady.nil

end Go.Proofs.YtigaphnafnpfnaaGreatDoor

