import Derived.Test.YtigaphnafnpfnaaGreatDoorHD1
import Derived.Test.YtigaphnafnpfnaaGreatDoorHD4
set_option linter.unusedVariables false
set_option linter.unusedSimpArgs false
namespace Go.Proofs.YtigaphnafnpfnaaGreatDoor
open Go.RowKit Go.Maps Go.Lib
attribute [local go_sem ↓] Go.wp_at_zero Go.wp_at_succ

def arrC (f : Nat → Int) : Array Value := #[.int .i64 (f 0), .int .i64 (f 1), .int .i64 (f 2), .int .i64 (f 3), .int .i64 (f 4), .int .i64 (f 5), .int .i64 (f 6), .int .i64 (f 7), .int .i64 (f 8), .int .i64 (f 9), .int .i64 (f 10), .int .i64 (f 11)]

theorem arrC_get (f : Nat → Int) {i : Nat} (h : i < 12) : (arrC f)[i]? = some (.int .i64 (f i)) := by
  have : i = 0 ∨ i = 1 ∨ i = 2 ∨ i = 3 ∨ i = 4 ∨ i = 5 ∨ i = 6 ∨ i = 7 ∨ i = 8 ∨ i = 9 ∨ i = 10 ∨ i = 11 := by omega
  rcases this with rfl | rfl | rfl | rfl | rfl | rfl | rfl | rfl | rfl | rfl | rfl | rfl <;> rfl
theorem arrC_set (f : Nat → Int) {i : Nat} (h : i < 12) (v : Int) : (arrC f).setIfInBounds i (.int .i64 v) = arrC (ext f i v) := by
  have : i = 0 ∨ i = 1 ∨ i = 2 ∨ i = 3 ∨ i = 4 ∨ i = 5 ∨ i = 6 ∨ i = 7 ∨ i = 8 ∨ i = 9 ∨ i = 10 ∨ i = 11 := by omega
  rcases this with rfl | rfl | rfl | rfl | rfl | rfl | rfl | rfl | rfl | rfl | rfl | rfl <;> simp [arrC, ext]

/-- where all lies, of the sweep -/
structure Lay (w : World) (base D A Bq P bv bm bo : Nat) (ao : Option Addr) (len cap : Nat) (zs : Nat → Int) (at_ : Nat) (pr qt : Nat → Int) (V : Ven) : Prop where
  dice : Blk w D #[.slice ao len cap, .int .i64 at_] 28
  at_le : at_ ≤ len
  arrA : Blk w A (arrC pr) 29
  arrB : Blk w Bq (arrC qt) 29
  ply : Blk w P #[.pointer (some ⟨bv, 0, none⟩), .int .i64 0, .int .i64 2] 37
  rep : Rep w bv bm bo V
  code : Code w ao len zs
  foot : ∀ x, Foot bv bm bo V x → base ≤ x
  bD : base ≤ D
  bA : base ≤ A
  bB : base ≤ Bq
  bP : base ≤ P
  old : 0 < len → ∀ a, ao = some a → a.block < base
  ne : A ≠ Bq
  tab : Tab w
  bT : tabAt < base

theorem Lay.keep {w w' : World} {base D A Bq P bv bm bo : Nat} {ao : Option Addr} {len cap : Nat} {zs : Nat → Int} {at_ : Nat} {pr qt : Nat → Int} {V : Ven} (l : Lay w base D A Bq P bv bm bo ao len cap zs at_ pr qt V) (k : Chg Non w w') : Lay w' base D A Bq P bv bm bo ao len cap zs at_ pr qt V :=
  ⟨k.blk l.dice (fun x => x), l.at_le, k.blk l.arrA (fun x => x), k.blk l.arrB (fun x => x), k.blk l.ply (fun x => x), l.rep.kept0 k,
    ⟨fun i hi => by obtain ⟨b, off, e, hc⟩ := l.code.cell i hi; exact ⟨b, off, e, k.cell hc (fun x => x)⟩, l.code.rng, l.code.small⟩, l.foot, l.bD, l.bA, l.bB, l.bP, l.old, l.ne, l.tab.kept0 k, l.bT⟩

theorem Rep.kept1 {w w' : World} {bv bm bo x : Nat} {V : Ven} (R : Rep w bv bm bo V) (k : Chg (fun y => y = x) w w') (hx : ¬ Foot bv bm bo V x) : Rep w' bv bm bo V := by
  obtain ⟨gB, nB, g1, g2⟩ := R.books
  obtain ⟨gO, nO, g3⟩ := R.orders
  have nf : ∀ y, Foot bv bm bo V y → ¬ y = x := fun y h e => hx (e ▸ h)
  exact ⟨R.log.kept k (nf _ (.inl rfl)) (fun y hy => nf y (.inr (.inr (.inr (.inr (.inr hy)))))), ⟨gB, nB.kept k (nf _ (.inr (.inl rfl))), g1, g2⟩, ⟨gO, nO.kept k (nf _ (.inr (.inr (.inl rfl)))), g3⟩, R.mne,
    fun j hj => (R.book j hj).kept k (fun y hy => nf y (by
      rcases hy with h | ⟨z, hz, h⟩
      · exact .inr (.inr (.inr (.inl ⟨j, hj, .inl h⟩)))
      · exact .inr (.inr (.inr (.inl ⟨j, hj, .inr ⟨z, hz, h⟩⟩))))),
    fun id y h => ⟨(R.ords id y h).1, (R.ords id y h).2.elim fun ix ho => ⟨ix, k.blk ho (nf y (.inr (.inr (.inr (.inr (.inl ⟨id, h⟩))))))⟩⟩, R.mem, R.sepb, R.seps, R.no200⟩

theorem Code.at {w w' : World} {ao : Option Addr} {len : Nat} {zs : Nat → Int} (c : Code w ao len zs) {S : Nat → Prop} (k : Chg S w w') (h : 0 < len → ∀ a, ao = some a → ¬ S a.block) : Code w' ao len zs :=
  ⟨fun i hi => by obtain ⟨b, off, e, hc⟩ := c.cell i hi; exact ⟨b, off, e, k.cell hc (h (by omega) ⟨b, off, none⟩ e)⟩, c.rng, c.small⟩

/-- the dice have turned -/
theorem Lay.dice' {w w' : World} {base D A Bq P bv bm bo : Nat} {ao : Option Addr} {len cap : Nat} {zs : Nat → Int} {at_ at' : Nat} {pr qt : Nat → Int} {V : Ven} (l : Lay w base D A Bq P bv bm bo ao len cap zs at_ pr qt V) (k : Chg (fun x => x = D) w w') (hd : Blk w' D #[.slice ao len cap, .int .i64 at'] 28) (ha : at' ≤ len) : Lay w' base D A Bq P bv bm bo ao len cap zs at' pr qt V :=
  ⟨hd, ha, k.blk l.arrA (Blk.ne l.arrA l.dice (by decide)), k.blk l.arrB (Blk.ne l.arrB l.dice (by decide)), k.blk l.ply (Blk.ne l.ply l.dice (by decide)), l.rep.kept1 k (l.rep.foot l.dice (by decide) (by decide) (by decide) (by decide) (by decide) (by decide) (by decide)),
    l.code.at k (fun hl a e h => by have := l.old hl a e; have := l.bD; omega), l.foot, l.bD, l.bA, l.bB, l.bP, l.old, l.ne, l.tab.kept k (fun e => by have := l.bD; have := l.bT; omega), l.bT⟩

theorem Lay.setA {w : World} {base D A Bq P bv bm bo : Nat} {ao : Option Addr} {len cap : Nat} {zs : Nat → Int} {at_ : Nat} {pr qt : Nat → Int} {V : Ven} (l : Lay w base D A Bq P bv bm bo ao len cap zs at_ pr qt V) {i : Nat} (hi : i < 12) (v : Int) : Lay (w.setCell ⟨A, i, none⟩ (.int .i64 v)) base D A Bq P bv bm bo ao len cap zs at_ (ext pr i v) qt V := by
  have k : Chg (fun x => x = A) w (w.setCell ⟨A, i, none⟩ (.int .i64 v)) := (Chg.refl (fun x => x = A) w).setCell (p := ⟨A, i, none⟩) (.inl rfl) _
  refine ⟨k.blk l.dice (Blk.ne l.dice l.arrA (by decide)), l.at_le, ?_, k.blk l.arrB (fun e => l.ne e.symm), k.blk l.ply (Blk.ne l.ply l.arrA (by decide)), l.rep.kept1 k (l.rep.foot l.arrA (by decide) (by decide) (by decide) (by decide) (by decide) (by decide) (by decide)),
    l.code.at k (fun hl a e h => by have := l.old hl a e; have := l.bA; omega), l.foot, l.bD, l.bA, l.bB, l.bP, l.old, l.ne, l.tab.kept k (fun e => by have := l.bA; have := l.bT; omega), l.bT⟩
  rw [← arrC_set pr hi v]
  exact l.arrA.set i _

theorem Lay.setB {w : World} {base D A Bq P bv bm bo : Nat} {ao : Option Addr} {len cap : Nat} {zs : Nat → Int} {at_ : Nat} {pr qt : Nat → Int} {V : Ven} (l : Lay w base D A Bq P bv bm bo ao len cap zs at_ pr qt V) {i : Nat} (hi : i < 12) (v : Int) : Lay (w.setCell ⟨Bq, i, none⟩ (.int .i64 v)) base D A Bq P bv bm bo ao len cap zs at_ pr (ext qt i v) V := by
  have k : Chg (fun x => x = Bq) w (w.setCell ⟨Bq, i, none⟩ (.int .i64 v)) := (Chg.refl (fun x => x = Bq) w).setCell (p := ⟨Bq, i, none⟩) (.inl rfl) _
  refine ⟨k.blk l.dice (Blk.ne l.dice l.arrB (by decide)), l.at_le, k.blk l.arrA l.ne, ?_, k.blk l.ply (Blk.ne l.ply l.arrB (by decide)), l.rep.kept1 k (l.rep.foot l.arrB (by decide) (by decide) (by decide) (by decide) (by decide) (by decide) (by decide)),
    l.code.at k (fun hl a e h => by have := l.old hl a e; have := l.bB; omega), l.foot, l.bD, l.bA, l.bB, l.bP, l.old, l.ne, l.tab.kept k (fun e => by have := l.bB; have := l.bT; omega), l.bT⟩
  rw [← arrC_set qt hi v]
  exact l.arrB.set i _

/-- an order has come -/
theorem Lay.enter {w w' : World} {base D A Bq P bv bm bo : Nat} {ao : Option Addr} {len cap : Nat} {zs : Nat → Int} {at_ : Nat} {pr qt : Nat → Int} {V V' : Ven} (l : Lay w base D A Bq P bv bm bo ao len cap zs at_ pr qt V) (R : Rep w' bv bm bo V') (k : Chg (Foot bv bm bo V) w w') (hF : ∀ x, Foot bv bm bo V' x → Foot bv bm bo V x ∨ w.heap.size ≤ x) : Lay w' base D A Bq P bv bm bo ao len cap zs at_ pr qt V' := by
  have hd := l.dice.lt
  have hb := l.bD
  exact ⟨k.blk l.dice (l.rep.foot l.dice (by decide) (by decide) (by decide) (by decide) (by decide) (by decide) (by decide)), l.at_le, k.blk l.arrA (l.rep.foot l.arrA (by decide) (by decide) (by decide) (by decide) (by decide) (by decide) (by decide)), k.blk l.arrB (l.rep.foot l.arrB (by decide) (by decide) (by decide) (by decide) (by decide) (by decide) (by decide)), k.blk l.ply (l.rep.foot l.ply (by decide) (by decide) (by decide) (by decide) (by decide) (by decide) (by decide)), R,
    l.code.at k (fun hl a e h => by have := l.old hl a e; have := l.foot _ h; omega), fun x hx => by rcases hF x hx with h | h; exact l.foot x h; omega, l.bD, l.bA, l.bB, l.bP, l.old, l.ne, l.tab.kept k (fun h => by have := l.foot _ h; have := l.bT; omega), l.bT⟩

end Go.Proofs.YtigaphnafnpfnaaGreatDoor

set_option linter.unusedVariables false
set_option linter.unusedSimpArgs false
namespace Go.Proofs.YtigaphnafnpfnaaGreatDoor
open Go.RowKit Go.Maps Go.Lib

theorem Sel.congr {V : Ven} {i : Nat} {pr qt pr' qt' : Nat → Int} {blk : Nat → Nat} (h : Sel V i pr qt blk) (he : ∀ j, j < i → pr' j = pr j ∧ qt' j = qt j) : Sel V i pr' qt' blk :=
  ⟨h.nb, h.sym, h.n0, h.n1, h.oid, h.no, h.tr, fun j hj => by rw [h.om j hj]; simp only [selO, (he j hj).1, (he j hj).2], h.places, h.heap, h.mem, h.tp, h.na⟩

theorem numB_of {n : Int} (h1 : 1 ≤ n) (h2 : n ≤ 1000000) : numB n = true := by simp [numB, h1, h2]
theorem ownB_of {n : Int} (h1 : 0 ≤ n) (h2 : n ≤ 9) : ownB' n = true := by simp [ownB', h1, h2]
theorem kindB_of {n : Int} (h1 : 0 ≤ n) (h2 : n ≤ 5) : kindB n = true := by simp [kindB, h1, h2]
theorem priceB_of {k n : Int} (hk : k ≠ 5) (h1 : 1 ≤ n) (h2 : n ≤ 1000000) : priceB k n = true := by unfold priceB; rw [if_neg hk]; exact numB_of h1 h2

theorem ext_self {α : Type} (f : Nat → α) (i : Nat) : ext f i (f i) = f := by
  funext k; unfold ext; split
  · rename_i e; rw [e]
  · rfl

theorem Sel.blk_lt {w : World} {bv bm bo : Nat} {V : Ven} {i : Nat} {pr qt : Nat → Int} {blk : Nat → Nat} (h : Sel V i pr qt blk) (R : Rep w bv bm bo V) : ∀ j, j < i → blk j < w.heap.size := by
  intro j hj
  obtain ⟨_, ix, ho⟩ := R.ords ((j : Int) + 1) (blk j) (by rw [h.oid, if_pos (by omega)]; congr 2; omega)
  exact ho.lt

theorem sell_lay (base D A Bq P bv bm bo : Nat) (ao : Option Addr) (len cap : Nat) (zs : Nat → Int) (at_ : Nat) (pr qt : Nat → Int) (V : Ven) (i : Nat) (blk : Nat → Nat) (w : World) (l : Lay w base D A Bq P bv bm bo ao len cap zs at_ pr qt V) (h : Sel V i pr qt blk) (hi : i < 12) (h1 : 100 ≤ pr i) (h2 : pr i ≤ 103) (h3 : 1 ≤ qt i) (h4 : qt i ≤ 9) :
    Calls Tryz.prog 64 #[.pointer (some ⟨bv, 0, none⟩), (sellA i (pr i) (qt i)).val] w fun e w' => e = .returned (.tuple #[repV 0 (qt i) 0 0 0, .int .i64 0]) ∧ ∃ V' blk', Lay w' base D A Bq P bv bm bo ao len cap zs at_ pr qt V' ∧ Sel V' (i + 1) pr qt blk' ∧ Chg (Foot bv bm bo V) w w' := by
  have hk : ((i : Int) % 2 = 0 ∨ (i : Int) % 2 = 1) := by omega
  refine (enter_ok bv bm bo 0 0 1 V (sellA i (pr i) (qt i)) w l.rep l.tab (by rw [h.nb]; omega) (by rw [h.sym]; rfl) (by show sA.size ≤ 100; decide) ?_ ?_ ?_ ?_ ?_ ?_ ?_ (by rw [h.no]; omega) ?_ ?_ (by omega) rfl rfl ?_ (by rw [h.n1, h.no]; omega) (by rw [h.n0]; omega) (by rw [h.tp]; omega) (by have := h.tr; unfold Ven.tr at this; omega) (by rw [h.na]; omega)).mono ?_
  · exact numB_of (show (1 : Int) ≤ (i : Int) + 1 by omega) (show (i : Int) + 1 ≤ 1000000 by omega)
  · rw [h.oid, if_neg (by simp only [sellA]; omega)]
  · exact ownB_of (show (0 : Int) ≤ 1 + (i : Int) % 9 by omega) (show 1 + (i : Int) % 9 ≤ 9 by omega)
  · rfl
  · exact kindB_of (show (0 : Int) ≤ (i : Int) % 2 by omega) (show (i : Int) % 2 ≤ 5 by omega)
  · exact numB_of (show 1 ≤ qt i by omega) (show qt i ≤ 1000000 by omega)
  · exact priceB_of (show (i : Int) % 2 ≠ 5 by omega) (show 1 ≤ pr i by omega) (show pr i ≤ 1000000 by omega)
  · simp only [sellA]; omega
  · simp only [sellA]; omega
  · intro k hk'; rw [h.n0] at hk'; exact absurd hk' (Nat.not_lt_zero k)
  · rintro e w' ⟨v, rfl, b, g, cap', lm', hb, rfl, R', k, hF, _⟩
    have hlt := h.blk_lt l.rep
    obtain ⟨s1, s2⟩ := h.step (b := b) (g := g) (cap' := cap') (lm' := lm') (p := pr i) (q := qt i) (fun j hj => by have := hlt j hj; omega) (by omega) h3 (by omega)
    rw [ext_self, ext_self] at s1
    rw [s2]
    exact ⟨rfl, _, _, l.enter R' k hF, s1, k⟩

/-- the venue when all has been swept -/
structure Swp (V : Ven) (n : Nat) (pr qt : Nat → Int) (blk : Nat → Nat) (Q : Int) : Prop where
  oid : ∀ id : Int, 1 ≤ id → id ≤ n → V.oid id = some (blk (id - 1).toNat)
  om : ∀ j, j < n → V.om (blk j) = selO pr qt j (min (qt j) (max 0 (Q - ahd n pr qt (pr j) j)))

def tot (n : Nat) (qt : Nat → Int) : Int := sumIf (fun _ => true) qt n
def nTr (n : Nat) (pr qt : Nat → Int) (Q : Int) : Int := sumIf (fun j => decide (ahd n pr qt (pr j) j < Q)) (fun _ => 1) n

theorem buy_lay (base D A Bq P bv bm bo : Nat) (ao : Option Addr) (len cap : Nat) (zs : Nat → Int) (at_ : Nat) (pr qt : Nat → Int) (V : Ven) (n : Nat) (blk : Nat → Nat) (Q : Int) (w : World) (l : Lay w base D A Bq P bv bm bo ao len cap zs at_ pr qt V) (h : Sel V n pr qt blk) (hn1 : 1 ≤ n) (hn : n ≤ 12) (hp : ∀ j, j < n → 100 ≤ pr j ∧ pr j ≤ 103 ∧ 1 ≤ qt j ∧ qt j ≤ 9) (hQ : 1 ≤ Q) (hQ2 : Q ≤ 60) :
    Calls Tryz.prog 64 #[.pointer (some ⟨bv, 0, none⟩), (buyA Q).val] w fun e w' => e = .returned (.tuple #[repV (min Q (tot n qt)) 0 (Q - min Q (tot n qt)) 1 (nTr n pr qt Q), .int .i64 0]) ∧ ∃ V', Lay w' base D A Bq P bv bm bo ao len cap zs at_ pr qt V' ∧ Swp V' n pr qt blk Q ∧ Chg (Foot bv bm bo V) w w' := by
  have hmemo : ∀ k, k < (V.B 0).n 1 → ∃ j, j < n ∧ (V.B 0).h 1 k = blk j := fun k hk => by
    rw [h.n1] at hk
    obtain ⟨j, hj, e⟩ := (h.mem _).1 ⟨k, hk, rfl⟩
    exact ⟨j, hj, e⟩
  have hinv : ∀ k, k < (V.B 0).n 1 → (V.om ((V.B 0).h 1 k)).side = ((1 : Nat) : Int) ∧ 0 < (V.om ((V.B 0).h 1 k)).opn ∧ (V.om ((V.B 0).h 1 k)).opn ≤ 1000000 := fun k hk => by
    obtain ⟨j, hj, e⟩ := hmemo k hk
    have := hp j hj
    rw [e, h.om j hj]
    simp only [selO]
    exact ⟨rfl, by omega, by omega⟩
  refine (enter_ok bv bm bo 0 1 0 V (buyA Q) w l.rep l.tab (by rw [h.nb]; omega) (by rw [h.sym]; rfl) (by show sA.size ≤ 100; decide) (by simp [numB, buyA]) ?_ (by simp [ownB', buyA]) (by simp [sideB, buyA]) (by simp [kindB, buyA]) ?_ (by simp [priceB, buyA]) (by rw [h.no]; omega) (by simp [buyA]) (by simp [buyA]) (by omega) rfl rfl hinv (by rw [h.n0]; omega) (by rw [h.n1, h.no]; omega) (by rw [h.tp]; omega) (by have := h.tr; unfold Ven.tr at this; omega) (by rw [h.na]; omega)).mono ?_
  · rw [h.oid, if_neg (by simp only [buyA]; omega)]
  · exact numB_of (show 1 ≤ Q by omega) (show Q ≤ 1000000 by omega)
  · rintro e w' ⟨v, rfl, b, g, cap', lm', hb, rfl, R', k, hF, _⟩
    have hlt := h.blk_lt l.rep
    have hbb : ∀ j, j < n → blk j ≠ b := fun j hj => by have := hlt j hj; omega
    have iv : Inv b 1 ⟨V.B 0, upd V.om b (newOrd (buyA Q)), V.lg.opened (buyA Q).id⟩ := by
      refine ⟨fun k hk => ?_, ((l.rep.book 0 (by rw [h.nb]; omega)).side 1 (by omega)).inj, ?_, ?_, ?_⟩
      · simp only at hk ⊢
        obtain ⟨j, hj, e⟩ := hmemo k hk
        have hne : (V.B 0).h 1 k ≠ b := by rw [e]; exact hbb j hj
        rw [upd_other _ _ hne]
        exact ⟨(hinv k hk).1, (hinv k hk).2.1, (hinv k hk).2.2, hne⟩
      · simp only [upd_same, newOrd, buyA]; omega
      · simp only [upd_same, newOrd, buyA]; omega
      · simp only [upd_same, newOrd, buyA]; rfl
    obtain ⟨s1, s2, s3⟩ := h.buy (b := b) (g := g) (cap' := cap') (lm' := lm') (Q := Q) hbb hn1 (by omega) (fun j hj => (hp j hj).2.2.1) (fun j hj => by have := (hp j hj).2.2.2; omega) (fun j hj => (hp j hj).1) hQ (by omega) iv
    rw [s3]
    exact ⟨rfl, _, l.enter R' k hF, ⟨s1, s2⟩, k⟩

theorem status_lay (base D A Bq P bv bm bo : Nat) (ao : Option Addr) (len cap : Nat) (zs : Nat → Int) (at_ : Nat) (pr qt : Nat → Int) (V : Ven) (n j : Nat) (blk : Nat → Nat) (Q : Int) (w : World) (l : Lay w base D A Bq P bv bm bo ao len cap zs at_ pr qt V) (h : Swp V n pr qt blk Q) (hj : j < n) (hn : n ≤ 12) (id : Int) (hid : id = (j : Int) + 1) :
    Calls Tryz.prog 26 #[.pointer (some ⟨bv, 0, none⟩), .int .i64 id] w fun e w' => e = .returned (.tuple #[.agg (statC (selO pr qt j (min (qt j) (max 0 (Q - ahd n pr qt (pr j) j))))), .int .i64 0]) ∧ Chg Non w w' := by
  have ho := h.oid id (by omega) (by omega)
  rw [show (id - 1).toNat = j by omega] at ho
  rw [← h.om j hj]
  exact status_some bv bm bo (blk j) V id w l.rep (WalkArith.wf_i64 (by omega)) ho (by rw [h.om j hj]; show (⟨#[65]⟩ : ByteArray).size ≤ 100000; decide)

end Go.Proofs.YtigaphnafnpfnaaGreatDoor

