import Derived.Test.YtigaphnafnpfnaaGreatDoorHP5
import Derived.Test.YtigaphnafnpfnaaGreatDoorHD5
/- the dice and the player -/
set_option linter.unusedVariables false
set_option linter.unusedSimpArgs false
namespace Go.Proofs.YtigaphnafnpfnaaGreatDoor
open Go.RowKit Go.Maps
attribute [local go_sem ↓] Go.wp_at_zero Go.wp_at_succ

/-- the dice lie here, with this code behind them -/
structure Dc (D : Nat) (ao : Option Addr) (len cap : Nat) (zs : Nat → Int) (base : Nat) (w : World) : Prop where
  dice : ∃ at_ : Nat, at_ ≤ len ∧ Blk w D #[.slice ao len cap, .int .i64 (at_ : Int)] 28
  code : Code w ao len zs
  old : 0 < len → ∀ a, ao = some a → a.block < base
  bD : base ≤ D
  tab : Tab w
  bT : tabAt < base

theorem Dc.keep {D : Nat} {ao : Option Addr} {len cap : Nat} {zs : Nat → Int} {base : Nat} {w w' : World} (h : Dc D ao len cap zs base w) {S : Nat → Prop} (k : Chg S w w') (h1 : ¬ S D) (h2 : ∀ x, S x → base ≤ x) : Dc D ao len cap zs base w' := by
  obtain ⟨a, ha, hb⟩ := h.dice
  exact ⟨⟨a, ha, k.blk hb h1⟩, h.code.at k (fun hl a e hx => by have := h.old hl a e; have := h2 _ hx; omega), h.old, h.bD, h.tab.kept k (fun hx => by have := h2 _ hx; have := h.bT; omega), h.bT⟩
theorem Dc.keep0 {D : Nat} {ao : Option Addr} {len cap : Nat} {zs : Nat → Int} {base : Nat} {w w' : World} (h : Dc D ao len cap zs base w) (k : Chg Non w w') : Dc D ao len cap zs base w' := h.keep k (fun x => x) (fun _ x => x.elim)

theorem next_dc (D : Nat) (ao : Option Addr) (len cap : Nat) (zs : Nat → Int) (base : Nat) (n : Int) (w : World) (h : Dc D ao len cap zs base w) (h1 : 0 < n) (h2 : n ≤ 1000000) :
    Calls Tryz.prog 35 #[.pointer (some ⟨D, 0, none⟩), .int .i64 n] w fun e w' => ∃ v : Nat, e = .returned (.int .i64 (v : Int)) ∧ (v : Int) < n ∧ Dc D ao len cap zs base w' ∧ Chg (fun x => x = D) w w' := by
  obtain ⟨a, ha, hb⟩ := h.dice
  refine (next_any D ao len cap a zs n w hb h.code ha h1 h2).mono ?_
  rintro e w' ⟨v, a', rfl, hv0, hv1, hat, hD2, k2⟩
  obtain ⟨m, rfl⟩ : ∃ m : Nat, v = (m : Int) := ⟨v.toNat, by omega⟩
  exact ⟨m, rfl, hv1, ⟨⟨a', hat, hD2⟩, h.code.at k2 (fun hl b e hx => by have := h.old hl b e; have := h.bD; omega), h.old, h.bD, h.tab.kept k2 (fun hx => by have := h.bD; have := h.bT; omega), h.bT⟩, k2⟩

def kindOf (j : Nat) : Int := if j < 4 then 0 else (j : Int) - 3
def kinds9 : Array Value := #[.int .i64 0, .int .i64 0, .int .i64 0, .int .i64 0, .int .i64 1, .int .i64 2, .int .i64 3, .int .i64 4, .int .i64 5]
theorem kinds9_at {j : Nat} (hj : j < 9) : kinds9[j]? = some (.int .i64 (kindOf j)) := by
  have : j = 0 ∨ j = 1 ∨ j = 2 ∨ j = 3 ∨ j = 4 ∨ j = 5 ∨ j = 6 ∨ j = 7 ∨ j = 8 := by omega
  rcases this with rfl | rfl | rfl | rfl | rfl | rfl | rfl | rfl | rfl <;> rfl

/-- what player.order gives -/
def OrdPost (D : Nat) (ao : Option Addr) (len cap : Nat) (zs : Nat → Int) (base n : Nat) (w : World) (v : Value) (w' : World) : Prop :=
  ∃ o : Ask, v = o.val ∧ (∃ i t, i < 2 ∧ t < 2 ∧ AskOK o n i t) ∧ Dc D ao len cap zs base w' ∧ Chg (fun x => x = D) w w'

/-- a player, its venue and its dice, all of it new since w0 -/
structure Ply (D : Nat) (ao : Option Addr) (len cap : Nat) (zs : Nat → Int) (w0 : World) (P bv bm bo : Nat) (V : Ven) (n K : Nat) (M acts : Int) (w : World) : Prop where
  rep : Rep w bv bm bo V
  gv : GV V n M
  lens : LenOK V K
  ply : Blk w P #[.pointer (some ⟨bv, 0, none⟩), .int .i64 n, .int .i64 acts] 37
  dc : Dc D ao len cap zs w0.heap.size w
  foot : ∀ x, Foot bv bm bo V x → w0.heap.size ≤ x
  pP : w0.heap.size ≤ P
  below : Below w0.heap.size w0 w

section
variable {D : Nat} {ao : Option Addr} {len cap : Nat} {zs : Nat → Int} {w0 : World} {P bv bm bo : Nat} {V : Ven} {n K : Nat} {M acts : Int} {w w' : World}

theorem Ply.nfD (h : Ply D ao len cap zs w0 P bv bm bo V n K M acts w) : ¬ Foot bv bm bo V D := by
  obtain ⟨a, _, hb⟩ := h.dc.dice
  exact h.rep.foot hb (by decide) (by decide) (by decide) (by decide) (by decide) (by decide) (by decide)
theorem Ply.nfP (h : Ply D ao len cap zs w0 P bv bm bo V n K M acts w) : ¬ Foot bv bm bo V P := h.rep.foot h.ply (by decide) (by decide) (by decide) (by decide) (by decide) (by decide) (by decide)
theorem Ply.neD (h : Ply D ao len cap zs w0 P bv bm bo V n K M acts w) : P ≠ D := by
  obtain ⟨a, _, hb⟩ := h.dc.dice
  exact Blk.ne h.ply hb (by decide)

theorem Ply.rt (h : Ply D ao len cap zs w0 P bv bm bo V n K M acts w) : Rep w bv bm bo V ∧ Tab w := ⟨h.rep, h.dc.tab⟩

theorem Ply.keep (h : Ply D ao len cap zs w0 P bv bm bo V n K M acts w) (k : Chg Non w w') : Ply D ao len cap zs w0 P bv bm bo V n K M acts w' :=
  ⟨h.rep.kept0 k, h.gv, h.lens, k.blk h.ply (fun x => x), h.dc.keep0 k, h.foot, h.pP, h.below.trans (k.belowOf (S := Non) h.below.size (fun _ x => x.elim))⟩

theorem Ply.rolled (h : Ply D ao len cap zs w0 P bv bm bo V n K M acts w) (hd : Dc D ao len cap zs w0.heap.size w') (k : Chg (fun x => x = D) w w') : Ply D ao len cap zs w0 P bv bm bo V n K M acts w' :=
  ⟨h.rep.kept1 k h.nfD, h.gv, h.lens, k.blk h.ply h.neD, hd, h.foot, h.pP, h.below.trans (k.belowOf h.below.size (fun x e => by rw [e]; exact h.dc.bD))⟩

theorem Ply.next {Q : Ven → Prop} {n' K' : Nat} {M' : Int} (h : Ply D ao len cap zs w0 P bv bm bo V n K M acts w) (hn : Next bv bm bo V Q w w') (hQ : ∀ V2, Q V2 → GV V2 n' M' ∧ LenOK V2 K') :
    ∃ V2, Rep w' bv bm bo V2 ∧ GV V2 n' M' ∧ LenOK V2 K' ∧ Blk w' P #[.pointer (some ⟨bv, 0, none⟩), .int .i64 n, .int .i64 acts] 37 ∧ Dc D ao len cap zs w0.heap.size w' ∧ (∀ x, Foot bv bm bo V2 x → w0.heap.size ≤ x) ∧ Below w0.heap.size w0 w' := by
  obtain ⟨V2, R2, q2, k2, f2⟩ := hn
  obtain ⟨g2, l2⟩ := hQ V2 q2
  exact ⟨V2, R2, g2, l2, k2.blk h.ply h.nfP, h.dc.keep k2 h.nfD h.foot, fun x hx => (f2 x hx).elim (h.foot x) (fun h' => Nat.le_trans h.below.size h'), h.below.trans (k2.belowOf h.below.size h.foot)⟩

/-- the player's own numbers turn -/
theorem Ply.count {acts' : Int} (R : Rep w bv bm bo V) (gv : GV V n M) (l : LenOK V K) (hp : ∃ a b, Blk w P #[.pointer (some ⟨bv, 0, none⟩), a, b] 37) (hd : Dc D ao len cap zs w0.heap.size w) (hf : ∀ x, Foot bv bm bo V x → w0.heap.size ≤ x) (pP : w0.heap.size ≤ P) (hb : Below w0.heap.size w0 w)
    (hp' : Blk w' P #[.pointer (some ⟨bv, 0, none⟩), .int .i64 n, .int .i64 acts'] 37) (k : Chg (fun x => x = P) w w') : Ply D ao len cap zs w0 P bv bm bo V n K M acts' w' := by
  obtain ⟨a, b, hpb⟩ := hp
  have nf : ¬ Foot bv bm bo V P := R.foot hpb (by decide) (by decide) (by decide) (by decide) (by decide) (by decide) (by decide)
  obtain ⟨c, hc, hdb⟩ := hd.dice
  exact ⟨R.kept1 k nf, gv, l, hp', hd.keep k (fun e => Blk.ne hdb hpb (by decide) e) (fun x e => by rw [e]; exact pP), hf, pP, hb.trans (k.belowOf hb.size (fun x e => by rw [e]; exact pP))⟩
end

end Go.Proofs.YtigaphnafnpfnaaGreatDoor

/- player.enter, over what player.order gives -/
set_option linter.unusedVariables false
set_option linter.unusedSimpArgs false
namespace Go.Proofs.YtigaphnafnpfnaaGreatDoor
open Go.RowKit Go.Maps
attribute [local go_sem ↓] Go.wp_at_zero Go.wp_at_succ

/-- the contract of player.order -/
def OrderOK (D : Nat) (ao : Option Addr) (len cap : Nat) (zs : Nat → Int) (base P bv n : Nat) : Prop :=
  ∀ (W : World) (acts : Int), Dc D ao len cap zs base W → Blk W P #[.pointer (some ⟨bv, 0, none⟩), .int .i64 n, .int .i64 acts] 37 → Calls Tryz.prog 63 #[.pointer (some ⟨P, 0, none⟩), .pointer (some ⟨D, 0, none⟩)] W fun e w' => ∃ v, e = .returned v ∧ OrdPost D ao len cap zs base n W v w'

end Go.Proofs.YtigaphnafnpfnaaGreatDoor

/- player.step, without the later acts -/
set_option linter.unusedVariables false
set_option linter.unusedSimpArgs false
namespace Go.Proofs.YtigaphnafnpfnaaGreatDoor
open Go.RowKit Go.Maps
attribute [local go_sem ↓] Go.wp_at_zero Go.wp_at_succ

theorem GV.mono {V : Ven} {n : Nat} {M M' : Int} (h : GV V n M) (hm : M ≤ M') : GV V n M' := ⟨h.nb, h.gb, h.oid, h.no, fun x hx => (h.q x hx).mono hm, h.sym, h.side⟩
theorem LenOK.mono {V : Ven} {K K' : Nat} (h : LenOK V K) (hk : K ≤ K') : LenOK V K' := ⟨Nat.le_trans h.1 hk, Nat.le_trans h.2.1 hk, h.2.2.1, Nat.le_trans h.2.2.2 hk⟩
theorem Ply.mono {D : Nat} {ao : Option Addr} {len cap : Nat} {zs : Nat → Int} {w0 : World} {P bv bm bo : Nat} {V : Ven} {n K K' : Nat} {M M' acts : Int} {w : World} (h : Ply D ao len cap zs w0 P bv bm bo V n K M acts w) (hm : M ≤ M') (hk : K ≤ K') : Ply D ao len cap zs w0 P bv bm bo V n K' M' acts w :=
  ⟨h.rep, h.gv.mono hm, h.lens.mono hk, h.ply, h.dc, h.foot, h.pP, h.below⟩

end Go.Proofs.YtigaphnafnpfnaaGreatDoor

