import Derived.Test.YtigaphnafnpfnaaDoorD5
set_option linter.unusedVariables false
set_option linter.unusedSimpArgs false
namespace Go.Proofs.YtigaphnafnpfnaaDoor
open Go.RowKit Go.Maps Go.Lib

theorem Sel.congr {V : Ven} {i : Nat} {pr qt pr' qt' : Nat → Int} {blk : Nat → Nat} (h : Sel V i pr qt blk) (he : ∀ j, j < i → pr' j = pr j ∧ qt' j = qt j) : Sel V i pr' qt' blk :=
  ⟨h.nb, h.sym, h.n0, h.n1, h.oid, h.no, h.tr, fun j hj => by rw [h.om j hj]; simp only [selO, (he j hj).1, (he j hj).2], h.places, h.heap, h.mem, h.tp, h.na⟩

theorem numB_of {n : Int} (h1 : 1 ≤ n) (h2 : n ≤ 1000000) : numB n = true := by simp [numB, h1, h2]
theorem ownB_of {n : Int} (h1 : 0 ≤ n) (h2 : n ≤ 9) : ownB' n = true := by simp [ownB', h1, h2]
theorem kindB_of {n : Int} (h1 : 0 ≤ n) (h2 : n ≤ 5) : kindB n = true := by simp [kindB, h1, h2]
theorem priceB_of {k n : Int} (hk : k ≠ 5) (h1 : 1 ≤ n) (h2 : n ≤ 1000000) : priceB k n = true := by unfold priceB; rw [if_neg hk]; exact numB_of h1 h2

theorem ext_self {α : Type} (f : Nat → α) (i : Nat) : ext f i (f i) = f := by
  funext k; unfold ext; split
  · rename_i e; rw [e]
  · rfl

theorem Sel.blk_lt {w : World} {bv bm bo : Nat} {V : Ven} {i : Nat} {pr qt : Nat → Int} {blk : Nat → Nat} (h : Sel V i pr qt blk) (R : Rep w bv bm bo V) : ∀ j, j < i → blk j < w.heap.size := by
  intro j hj
  obtain ⟨_, ix, ho⟩ := R.ords ((j : Int) + 1) (blk j) (by rw [h.oid, if_pos (by omega)]; congr 2; omega)
  exact ho.lt

theorem sell_lay (base D A Bq P bv bm bo : Nat) (ao : Option Addr) (len cap : Nat) (zs : Nat → Int) (at_ : Nat) (pr qt : Nat → Int) (V : Ven) (i : Nat) (blk : Nat → Nat) (w : World) (l : Lay w base D A Bq P bv bm bo ao len cap zs at_ pr qt V) (h : Sel V i pr qt blk) (hi : i < 12) (h1 : 100 ≤ pr i) (h2 : pr i ≤ 103) (h3 : 1 ≤ qt i) (h4 : qt i ≤ 9) :
    Calls Tryd.prog 7 #[.pointer (some ⟨bv, 0, none⟩), (sellA i (pr i) (qt i)).val] w fun e w' => e = .returned (.tuple #[repV 0 (qt i) 0 0 0, .int .i64 0]) ∧ ∃ V' blk', Lay w' base D A Bq P bv bm bo ao len cap zs at_ pr qt V' ∧ Sel V' (i + 1) pr qt blk' ∧ Chg (Foot bv bm bo V) w w' := by
  have hk : ((i : Int) % 2 = 0 ∨ (i : Int) % 2 = 1) := by omega
  refine (enter_ok bv bm bo 0 0 1 V (sellA i (pr i) (qt i)) w l.rep l.tab (by rw [h.nb]; omega) (by rw [h.sym]; rfl) (by show sA.size ≤ 100; decide) ?_ ?_ ?_ ?_ ?_ ?_ ?_ (by rw [h.no]; omega) ?_ ?_ (by omega) rfl rfl ?_ (by rw [h.n1, h.no]; omega) (by rw [h.n0]; omega) (by rw [h.tp]; omega) (by have := h.tr; unfold Ven.tr at this; omega) (by rw [h.na]; omega)).mono ?_
  · exact numB_of (show (1 : Int) ≤ (i : Int) + 1 by omega) (show (i : Int) + 1 ≤ 1000000 by omega)
  · rw [h.oid, if_neg (by simp only [sellA]; omega)]
  · exact ownB_of (show (0 : Int) ≤ 1 + (i : Int) % 9 by omega) (show 1 + (i : Int) % 9 ≤ 9 by omega)
  · rfl
  · exact kindB_of (show (0 : Int) ≤ (i : Int) % 2 by omega) (show (i : Int) % 2 ≤ 5 by omega)
  · exact numB_of (show 1 ≤ qt i by omega) (show qt i ≤ 1000000 by omega)
  · exact priceB_of (show (i : Int) % 2 ≠ 5 by omega) (show 1 ≤ pr i by omega) (show pr i ≤ 1000000 by omega)
  · simp only [sellA]; omega
  · simp only [sellA]; omega
  · intro k hk'; rw [h.n0] at hk'; exact absurd hk' (Nat.not_lt_zero k)
  · rintro e w' ⟨v, rfl, b, g, cap', lm', hb, rfl, R', k, hF, _⟩
    have hlt := h.blk_lt l.rep
    obtain ⟨s1, s2⟩ := h.step (b := b) (g := g) (cap' := cap') (lm' := lm') (p := pr i) (q := qt i) (fun j hj => by have := hlt j hj; omega) (by omega) h3 (by omega)
    rw [ext_self, ext_self] at s1
    rw [s2]
    exact ⟨rfl, _, _, l.enter R' k hF, s1, k⟩

/-- the venue when all has been swept -/
structure Swp (V : Ven) (n : Nat) (pr qt : Nat → Int) (blk : Nat → Nat) (Q : Int) : Prop where
  oid : ∀ id : Int, 1 ≤ id → id ≤ n → V.oid id = some (blk (id - 1).toNat)
  om : ∀ j, j < n → V.om (blk j) = selO pr qt j (min (qt j) (max 0 (Q - ahd n pr qt (pr j) j)))

def tot (n : Nat) (qt : Nat → Int) : Int := sumIf (fun _ => true) qt n
def nTr (n : Nat) (pr qt : Nat → Int) (Q : Int) : Int := sumIf (fun j => decide (ahd n pr qt (pr j) j < Q)) (fun _ => 1) n

theorem buy_lay (base D A Bq P bv bm bo : Nat) (ao : Option Addr) (len cap : Nat) (zs : Nat → Int) (at_ : Nat) (pr qt : Nat → Int) (V : Ven) (n : Nat) (blk : Nat → Nat) (Q : Int) (w : World) (l : Lay w base D A Bq P bv bm bo ao len cap zs at_ pr qt V) (h : Sel V n pr qt blk) (hn1 : 1 ≤ n) (hn : n ≤ 12) (hp : ∀ j, j < n → 100 ≤ pr j ∧ pr j ≤ 103 ∧ 1 ≤ qt j ∧ qt j ≤ 9) (hQ : 1 ≤ Q) (hQ2 : Q ≤ 60) :
    Calls Tryd.prog 7 #[.pointer (some ⟨bv, 0, none⟩), (buyA Q).val] w fun e w' => e = .returned (.tuple #[repV (min Q (tot n qt)) 0 (Q - min Q (tot n qt)) 1 (nTr n pr qt Q), .int .i64 0]) ∧ ∃ V', Lay w' base D A Bq P bv bm bo ao len cap zs at_ pr qt V' ∧ Swp V' n pr qt blk Q ∧ Chg (Foot bv bm bo V) w w' := by
  have hmemo : ∀ k, k < (V.B 0).n 1 → ∃ j, j < n ∧ (V.B 0).h 1 k = blk j := fun k hk => by
    rw [h.n1] at hk
    obtain ⟨j, hj, e⟩ := (h.mem _).1 ⟨k, hk, rfl⟩
    exact ⟨j, hj, e⟩
  have hinv : ∀ k, k < (V.B 0).n 1 → (V.om ((V.B 0).h 1 k)).side = ((1 : Nat) : Int) ∧ 0 < (V.om ((V.B 0).h 1 k)).opn ∧ (V.om ((V.B 0).h 1 k)).opn ≤ 1000000 := fun k hk => by
    obtain ⟨j, hj, e⟩ := hmemo k hk
    have := hp j hj
    rw [e, h.om j hj]
    simp only [selO]
    exact ⟨rfl, by omega, by omega⟩
  refine (enter_ok bv bm bo 0 1 0 V (buyA Q) w l.rep l.tab (by rw [h.nb]; omega) (by rw [h.sym]; rfl) (by show sA.size ≤ 100; decide) (by simp [numB, buyA]) ?_ (by simp [ownB', buyA]) (by simp [sideB, buyA]) (by simp [kindB, buyA]) ?_ (by simp [priceB, buyA]) (by rw [h.no]; omega) (by simp [buyA]) (by simp [buyA]) (by omega) rfl rfl hinv (by rw [h.n0]; omega) (by rw [h.n1, h.no]; omega) (by rw [h.tp]; omega) (by have := h.tr; unfold Ven.tr at this; omega) (by rw [h.na]; omega)).mono ?_
  · rw [h.oid, if_neg (by simp only [buyA]; omega)]
  · exact numB_of (show 1 ≤ Q by omega) (show Q ≤ 1000000 by omega)
  · rintro e w' ⟨v, rfl, b, g, cap', lm', hb, rfl, R', k, hF, _⟩
    have hlt := h.blk_lt l.rep
    have hbb : ∀ j, j < n → blk j ≠ b := fun j hj => by have := hlt j hj; omega
    have iv : Inv b 1 ⟨V.B 0, upd V.om b (newOrd (buyA Q)), V.lg.opened (buyA Q).id⟩ := by
      refine ⟨fun k hk => ?_, ((l.rep.book 0 (by rw [h.nb]; omega)).side 1 (by omega)).inj, ?_, ?_, ?_⟩
      · simp only at hk ⊢
        obtain ⟨j, hj, e⟩ := hmemo k hk
        have hne : (V.B 0).h 1 k ≠ b := by rw [e]; exact hbb j hj
        rw [upd_other _ _ hne]
        exact ⟨(hinv k hk).1, (hinv k hk).2.1, (hinv k hk).2.2, hne⟩
      · simp only [upd_same, newOrd, buyA]; omega
      · simp only [upd_same, newOrd, buyA]; omega
      · simp only [upd_same, newOrd, buyA]; rfl
    obtain ⟨s1, s2, s3⟩ := h.buy (b := b) (g := g) (cap' := cap') (lm' := lm') (Q := Q) hbb hn1 (by omega) (fun j hj => (hp j hj).2.2.1) (fun j hj => by have := (hp j hj).2.2.2; omega) (fun j hj => (hp j hj).1) hQ (by omega) iv
    rw [s3]
    exact ⟨rfl, _, l.enter R' k hF, ⟨s1, s2⟩, k⟩

theorem status_lay (base D A Bq P bv bm bo : Nat) (ao : Option Addr) (len cap : Nat) (zs : Nat → Int) (at_ : Nat) (pr qt : Nat → Int) (V : Ven) (n j : Nat) (blk : Nat → Nat) (Q : Int) (w : World) (l : Lay w base D A Bq P bv bm bo ao len cap zs at_ pr qt V) (h : Swp V n pr qt blk Q) (hj : j < n) (hn : n ≤ 12) (id : Int) (hid : id = (j : Int) + 1) :
    Calls Tryd.prog 9 #[.pointer (some ⟨bv, 0, none⟩), .int .i64 id] w fun e w' => e = .returned (.tuple #[.agg (statC (selO pr qt j (min (qt j) (max 0 (Q - ahd n pr qt (pr j) j))))), .int .i64 0]) ∧ Chg Non w w' := by
  have ho := h.oid id (by omega) (by omega)
  rw [show (id - 1).toNat = j by omega] at ho
  rw [← h.om j hj]
  exact status_some bv bm bo (blk j) V id w l.rep (WalkArith.wf_i64 (by omega)) ho (by rw [h.om j hj]; show (⟨#[65]⟩ : ByteArray).size ≤ 100000; decide)

end Go.Proofs.YtigaphnafnpfnaaDoor
