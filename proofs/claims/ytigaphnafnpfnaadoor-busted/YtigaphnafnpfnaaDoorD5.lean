import Derived.Test.YtigaphnafnpfnaaDoorD1
import Derived.Test.YtigaphnafnpfnaaDoorD4
set_option linter.unusedVariables false
set_option linter.unusedSimpArgs false
namespace Go.Proofs.YtigaphnafnpfnaaDoor
open Go.RowKit Go.Maps Go.Lib
attribute [local go_sem ↓] Go.wp_at_zero Go.wp_at_succ

def arrC (f : Nat → Int) : Array Value := #[.int .i64 (f 0), .int .i64 (f 1), .int .i64 (f 2), .int .i64 (f 3), .int .i64 (f 4), .int .i64 (f 5), .int .i64 (f 6), .int .i64 (f 7), .int .i64 (f 8), .int .i64 (f 9), .int .i64 (f 10), .int .i64 (f 11)]

theorem arrC_get (f : Nat → Int) {i : Nat} (h : i < 12) : (arrC f)[i]? = some (.int .i64 (f i)) := by
  have : i = 0 ∨ i = 1 ∨ i = 2 ∨ i = 3 ∨ i = 4 ∨ i = 5 ∨ i = 6 ∨ i = 7 ∨ i = 8 ∨ i = 9 ∨ i = 10 ∨ i = 11 := by omega
  rcases this with rfl | rfl | rfl | rfl | rfl | rfl | rfl | rfl | rfl | rfl | rfl | rfl <;> rfl
theorem arrC_set (f : Nat → Int) {i : Nat} (h : i < 12) (v : Int) : (arrC f).setIfInBounds i (.int .i64 v) = arrC (ext f i v) := by
  have : i = 0 ∨ i = 1 ∨ i = 2 ∨ i = 3 ∨ i = 4 ∨ i = 5 ∨ i = 6 ∨ i = 7 ∨ i = 8 ∨ i = 9 ∨ i = 10 ∨ i = 11 := by omega
  rcases this with rfl | rfl | rfl | rfl | rfl | rfl | rfl | rfl | rfl | rfl | rfl | rfl <;> simp [arrC, ext]

/-- where all lies, of the sweep -/
structure Lay (w : World) (base D A Bq P bv bm bo : Nat) (ao : Option Addr) (len cap : Nat) (zs : Nat → Int) (at_ : Nat) (pr qt : Nat → Int) (V : Ven) : Prop where
  dice : Blk w D #[.slice ao len cap, .int .i64 at_] 27
  at_le : at_ ≤ len
  arrA : Blk w A (arrC pr) 29
  arrB : Blk w Bq (arrC qt) 29
  ply : Blk w P #[.pointer (some ⟨bv, 0, none⟩), .int .i64 0, .int .i64 2] 36
  rep : Rep w bv bm bo V
  code : Code w ao len zs
  foot : ∀ x, Foot bv bm bo V x → base ≤ x
  bD : base ≤ D
  bA : base ≤ A
  bB : base ≤ Bq
  bP : base ≤ P
  old : 0 < len → ∀ a, ao = some a → a.block < base
  ne : A ≠ Bq
  tab : Tab w
  bT : tabAt < base

theorem Lay.keep {w w' : World} {base D A Bq P bv bm bo : Nat} {ao : Option Addr} {len cap : Nat} {zs : Nat → Int} {at_ : Nat} {pr qt : Nat → Int} {V : Ven} (l : Lay w base D A Bq P bv bm bo ao len cap zs at_ pr qt V) (k : Chg Non w w') : Lay w' base D A Bq P bv bm bo ao len cap zs at_ pr qt V :=
  ⟨k.blk l.dice (fun x => x), l.at_le, k.blk l.arrA (fun x => x), k.blk l.arrB (fun x => x), k.blk l.ply (fun x => x), l.rep.kept0 k,
    ⟨fun i hi => by obtain ⟨b, off, e, hc⟩ := l.code.cell i hi; exact ⟨b, off, e, k.cell hc (fun x => x)⟩, l.code.rng, l.code.small⟩, l.foot, l.bD, l.bA, l.bB, l.bP, l.old, l.ne, l.tab.kept0 k, l.bT⟩

theorem Rep.kept1 {w w' : World} {bv bm bo x : Nat} {V : Ven} (R : Rep w bv bm bo V) (k : Chg (fun y => y = x) w w') (hx : ¬ Foot bv bm bo V x) : Rep w' bv bm bo V := by
  obtain ⟨gB, nB, g1, g2⟩ := R.books
  obtain ⟨gO, nO, g3⟩ := R.orders
  have nf : ∀ y, Foot bv bm bo V y → ¬ y = x := fun y h e => hx (e ▸ h)
  exact ⟨R.log.kept k (nf _ (.inl rfl)) (fun y hy => nf y (.inr (.inr (.inr (.inr (.inr hy)))))), ⟨gB, nB.kept k (nf _ (.inr (.inl rfl))), g1, g2⟩, ⟨gO, nO.kept k (nf _ (.inr (.inr (.inl rfl)))), g3⟩, R.mne,
    fun j hj => (R.book j hj).kept k (fun y hy => nf y (by
      rcases hy with h | ⟨z, hz, h⟩
      · exact .inr (.inr (.inr (.inl ⟨j, hj, .inl h⟩)))
      · exact .inr (.inr (.inr (.inl ⟨j, hj, .inr ⟨z, hz, h⟩⟩))))),
    fun id y h => ⟨(R.ords id y h).1, (R.ords id y h).2.elim fun ix ho => ⟨ix, k.blk ho (nf y (.inr (.inr (.inr (.inr (.inl ⟨id, h⟩))))))⟩⟩, R.mem, R.sepb, R.seps, R.no200⟩

theorem Code.at {w w' : World} {ao : Option Addr} {len : Nat} {zs : Nat → Int} (c : Code w ao len zs) {S : Nat → Prop} (k : Chg S w w') (h : 0 < len → ∀ a, ao = some a → ¬ S a.block) : Code w' ao len zs :=
  ⟨fun i hi => by obtain ⟨b, off, e, hc⟩ := c.cell i hi; exact ⟨b, off, e, k.cell hc (h (by omega) ⟨b, off, none⟩ e)⟩, c.rng, c.small⟩

/-- the dice have turned -/
theorem Lay.dice' {w w' : World} {base D A Bq P bv bm bo : Nat} {ao : Option Addr} {len cap : Nat} {zs : Nat → Int} {at_ at' : Nat} {pr qt : Nat → Int} {V : Ven} (l : Lay w base D A Bq P bv bm bo ao len cap zs at_ pr qt V) (k : Chg (fun x => x = D) w w') (hd : Blk w' D #[.slice ao len cap, .int .i64 at'] 27) (ha : at' ≤ len) : Lay w' base D A Bq P bv bm bo ao len cap zs at' pr qt V :=
  ⟨hd, ha, k.blk l.arrA (Blk.ne l.arrA l.dice (by decide)), k.blk l.arrB (Blk.ne l.arrB l.dice (by decide)), k.blk l.ply (Blk.ne l.ply l.dice (by decide)), l.rep.kept1 k (l.rep.foot l.dice (by decide) (by decide) (by decide) (by decide) (by decide) (by decide) (by decide)),
    l.code.at k (fun hl a e h => by have := l.old hl a e; have := l.bD; omega), l.foot, l.bD, l.bA, l.bB, l.bP, l.old, l.ne, l.tab.kept k (fun e => by have := l.bD; have := l.bT; omega), l.bT⟩

theorem Lay.setA {w : World} {base D A Bq P bv bm bo : Nat} {ao : Option Addr} {len cap : Nat} {zs : Nat → Int} {at_ : Nat} {pr qt : Nat → Int} {V : Ven} (l : Lay w base D A Bq P bv bm bo ao len cap zs at_ pr qt V) {i : Nat} (hi : i < 12) (v : Int) : Lay (w.setCell ⟨A, i, none⟩ (.int .i64 v)) base D A Bq P bv bm bo ao len cap zs at_ (ext pr i v) qt V := by
  have k : Chg (fun x => x = A) w (w.setCell ⟨A, i, none⟩ (.int .i64 v)) := (Chg.refl (fun x => x = A) w).setCell (p := ⟨A, i, none⟩) (.inl rfl) _
  refine ⟨k.blk l.dice (Blk.ne l.dice l.arrA (by decide)), l.at_le, ?_, k.blk l.arrB (fun e => l.ne e.symm), k.blk l.ply (Blk.ne l.ply l.arrA (by decide)), l.rep.kept1 k (l.rep.foot l.arrA (by decide) (by decide) (by decide) (by decide) (by decide) (by decide) (by decide)),
    l.code.at k (fun hl a e h => by have := l.old hl a e; have := l.bA; omega), l.foot, l.bD, l.bA, l.bB, l.bP, l.old, l.ne, l.tab.kept k (fun e => by have := l.bA; have := l.bT; omega), l.bT⟩
  rw [← arrC_set pr hi v]
  exact l.arrA.set i _

theorem Lay.setB {w : World} {base D A Bq P bv bm bo : Nat} {ao : Option Addr} {len cap : Nat} {zs : Nat → Int} {at_ : Nat} {pr qt : Nat → Int} {V : Ven} (l : Lay w base D A Bq P bv bm bo ao len cap zs at_ pr qt V) {i : Nat} (hi : i < 12) (v : Int) : Lay (w.setCell ⟨Bq, i, none⟩ (.int .i64 v)) base D A Bq P bv bm bo ao len cap zs at_ pr (ext qt i v) V := by
  have k : Chg (fun x => x = Bq) w (w.setCell ⟨Bq, i, none⟩ (.int .i64 v)) := (Chg.refl (fun x => x = Bq) w).setCell (p := ⟨Bq, i, none⟩) (.inl rfl) _
  refine ⟨k.blk l.dice (Blk.ne l.dice l.arrB (by decide)), l.at_le, k.blk l.arrA l.ne, ?_, k.blk l.ply (Blk.ne l.ply l.arrB (by decide)), l.rep.kept1 k (l.rep.foot l.arrB (by decide) (by decide) (by decide) (by decide) (by decide) (by decide) (by decide)),
    l.code.at k (fun hl a e h => by have := l.old hl a e; have := l.bB; omega), l.foot, l.bD, l.bA, l.bB, l.bP, l.old, l.ne, l.tab.kept k (fun e => by have := l.bB; have := l.bT; omega), l.bT⟩
  rw [← arrC_set qt hi v]
  exact l.arrB.set i _

/-- an order has come -/
theorem Lay.enter {w w' : World} {base D A Bq P bv bm bo : Nat} {ao : Option Addr} {len cap : Nat} {zs : Nat → Int} {at_ : Nat} {pr qt : Nat → Int} {V V' : Ven} (l : Lay w base D A Bq P bv bm bo ao len cap zs at_ pr qt V) (R : Rep w' bv bm bo V') (k : Chg (Foot bv bm bo V) w w') (hF : ∀ x, Foot bv bm bo V' x → Foot bv bm bo V x ∨ w.heap.size ≤ x) : Lay w' base D A Bq P bv bm bo ao len cap zs at_ pr qt V' := by
  have hd := l.dice.lt
  have hb := l.bD
  exact ⟨k.blk l.dice (l.rep.foot l.dice (by decide) (by decide) (by decide) (by decide) (by decide) (by decide) (by decide)), l.at_le, k.blk l.arrA (l.rep.foot l.arrA (by decide) (by decide) (by decide) (by decide) (by decide) (by decide) (by decide)), k.blk l.arrB (l.rep.foot l.arrB (by decide) (by decide) (by decide) (by decide) (by decide) (by decide) (by decide)), k.blk l.ply (l.rep.foot l.ply (by decide) (by decide) (by decide) (by decide) (by decide) (by decide) (by decide)), R,
    l.code.at k (fun hl a e h => by have := l.old hl a e; have := l.foot _ h; omega), fun x hx => by rcases hF x hx with h | h; exact l.foot x h; omega, l.bD, l.bA, l.bB, l.bP, l.old, l.ne, l.tab.kept k (fun h => by have := l.foot _ h; have := l.bT; omega), l.bT⟩

end Go.Proofs.YtigaphnafnpfnaaDoor
