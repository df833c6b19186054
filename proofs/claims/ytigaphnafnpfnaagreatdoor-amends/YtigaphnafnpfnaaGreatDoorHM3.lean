import Derived.Test.YtigaphnafnpfnaaGreatDoorHM1
import Derived.Test.YtigaphnafnpfnaaGreatDoorHC7
import Derived.Test.YtigaphnafnpfnaaGreatDoorHD1
import Derived.Test.YtigaphnafnpfnaaGreatDoorHF1
/- Good venues. Without memory. -/
set_option linter.unusedVariables false
set_option linter.unusedSimpArgs false
namespace Go.Proofs.YtigaphnafnpfnaaGreatDoor

theorem Qo.mono {M M' : Int} {o : Ord} (h : Qo M o) (hm : M ≤ M') : Qo M' o := ⟨h.sum, h.o0, h.f0, h.c0, h.e0, by have := h.hi; omega⟩

theorem leave_good {B : Bk} {om : Nat → Ord} {sym : ByteArray} {L : Nat → Prop} (h : GB B om sym L) {s k : Nat} (hs : s < 2) (hk : k < B.n s) : GB (B.leave om s k) om sym (fun x => L x ∧ x ≠ B.h s k) := by
  have other : ∀ y, y ≠ s → (B.leave om s k).n y = B.n y ∧ (B.leave om s k).h y = B.h y := fun y hy => by simp only [Bk.leave]; rw [upd_other _ _ hy, upd_other _ _ hy]; exact ⟨rfl, rfl⟩
  have iff := leave_iff (om := om) (h.inj s hs) hk
  have ne : ∀ y, y < 2 → y ≠ s → ∀ x, Mem (B.n y) (B.h y) x → x ≠ B.h s k := fun y hy hne x hx e => by
    have a := ((h.mem y hy x).1 hx).2.2.1
    have b := ((h.mem s hs _).1 ⟨k, hk, rfl⟩).2.2.1
    rw [e, b] at a
    omega
  have sub : ∀ y, y < 2 → ∀ x, Mem ((B.leave om s k).n y) ((B.leave om s k).h y) x → Mem (B.n y) (B.h y) x := fun y hy x hx => by
    by_cases e : y = s
    · rw [e] at hx ⊢; exact ((iff x).1 hx).1
    · rw [(other y e).1, (other y e).2] at hx; exact hx
  refine ⟨h.bsym, fun y hy x => ?_, fun y hy => ?_, fun y hy => ?_, fun x y hx hy => h.cross x y (sub 0 (by omega) x hx) (sub 1 (by omega) y hy)⟩
  · by_cases e : y = s
    · rw [e, iff x, h.mem s hs x]
      exact ⟨fun ⟨⟨a, b⟩, c⟩ => ⟨⟨a, c⟩, b⟩, fun ⟨⟨a, c⟩, b⟩ => ⟨⟨a, b⟩, c⟩⟩
    · rw [(other y e).1, (other y e).2]
      constructor
      · intro hx
        obtain ⟨a, b⟩ := (h.mem y hy x).1 hx
        exact ⟨⟨a, ne y hy e x hx⟩, b⟩
      · rintro ⟨⟨a, _⟩, b⟩
        exact (h.mem y hy x).2 ⟨a, b⟩
  · by_cases e : y = s
    · rw [e]; exact leave_heap rfl (fun k hk => h.side hs hk) (h.heap s hs) hk
    · rw [(other y e).1, (other y e).2]; exact h.heap y hy
  · by_cases e : y = s
    · rw [e]
      have h0 : Inj (B.n s - 1 + 1) (B.h s) := by rw [show B.n s - 1 + 1 = B.n s by omega]; exact h.inj s hs
      simp only [Bk.leave, upd_same]
      exact fun a b ha hb e => (h0.remove (lt := ltB om) (i := k) (by omega)) a b (by omega) (by omega) e
    · rw [(other y e).1, (other y e).2]; exact h.inj y hy

def symN (i : Nat) : ByteArray := if i = 0 then sA else sG
theorem sym_ne : sA ≠ sG := fun h => absurd (congrArg ByteArray.size h) (by decide)
theorem symN_inj {i j : Nat} (hi : i < 2) (hj : j < 2) (h : symN i = symN j) : i = j := by
  have : (i = 0 ∨ i = 1) ∧ (j = 0 ∨ j = 1) := by omega
  rcases this with ⟨rfl | rfl, rfl | rfl⟩
  · rfl
  · exact absurd h sym_ne
  · exact absurd h.symm sym_ne
  · rfl

/-- the orders of a venue -/
def VL (V : Ven) (x : Nat) : Prop := ∃ id, V.oid id = some x

structure GV (V : Ven) (n : Nat) (M : Int) : Prop where
  nb : V.nb = 2
  gb : ∀ i, i < 2 → GB (V.B i) V.om (symN i) (VL V)
  oid : ∀ id : Int, (∃ x, V.oid id = some x) ↔ (1 ≤ id ∧ id ≤ n)
  no : V.no = n
  q : ∀ x, VL V x → Qo M (V.om x)
  sym : ∀ x, VL V x → (V.om x).sym = sA ∨ (V.om x).sym = sG
  side : ∀ x, VL V x → (V.om x).side = 0 ∨ (V.om x).side = 1

/-- one that comes, in a venue: both books -/
theorem books_come {BB : Nat → Bk} {i oc s t g cap' : Nat} {B0 : Bk} {om0 : Nat → Ord} {lg : Lg} {L : Nat → Prop} {M : Int} (hM : M ≤ 1000000) (hi : i < 2) (hs : s < 2) (ht : t = 1 - s) (hL : L oc) (hsym : (om0 oc).sym = symN i) (hside : (om0 oc).side = (t : Int)) (hq : ∀ x, L x → Qo M (om0 x))
    (gi : GB B0 om0 (symN i) (fun x => L x ∧ x ≠ oc)) (gj : ∀ j, j < 2 → j ≠ i → GB (BB j) om0 (symN j) L) :
    (∀ j, j < 2 → GB (upd BB i (comeB oc t g cap' (mF oc s ⟨B0, om0, lg⟩)) j) (comeOm oc (mF oc s ⟨B0, om0, lg⟩)) (symN j) L) ∧ (∀ x, L x → Qo M (comeOm oc (mF oc s ⟨B0, om0, lg⟩) x)) ∧ Run oc s M ⟨B0, om0, lg⟩ (mF oc s ⟨B0, om0, lg⟩) ∧
      (∀ x, (comeOm oc (mF oc s ⟨B0, om0, lg⟩) x).sym = (om0 x).sym ∧ (comeOm oc (mF oc s ⟨B0, om0, lg⟩) x).side = (om0 x).side) ∧ Inv oc s ⟨B0, om0, lg⟩ := by
  obtain ⟨iv, g1, g2, run, stat, keep⟩ := come_good (g := g) (cap' := cap') (lg := lg) hM hs ht hL hsym hside hq gi
  have sy : ∀ x, (comeOm oc (mF oc s ⟨B0, om0, lg⟩) x).sym = (om0 x).sym ∧ (comeOm oc (mF oc s ⟨B0, om0, lg⟩) x).side = (om0 x).side := fun x => by
    by_cases e : x = oc
    · have h1 := run.stat oc
      rw [e]
      unfold comeOm
      split
      · rw [upd_same]; exact ⟨h1.2.2.1, h1.2.2.2.1⟩
      · rw [upd_same]; exact ⟨h1.2.2.1, h1.2.2.2.1⟩
    · exact ⟨(stat x e).2.2.1, (stat x e).2.2.2.1⟩
  refine ⟨fun j hj => ?_, g2, run, sy, iv⟩
  by_cases e : j = i
  · rw [e, upd_same]; exact g1
  · rw [upd_other _ _ e]
    have ns : symN j ≠ symN i := fun h => e (symN_inj hj hi h)
    have same : ∀ x, (om0 x).sym = symN j → comeOm oc (mF oc s ⟨B0, om0, lg⟩) x = om0 x := fun x hx => keep x (fun e2 => ns (by rw [← hx, e2]; exact hsym)) (.inl (by rw [hx]; exact ns))
    refine (gj j hj e).cong (fun x => ?_) (fun x _ hx _ => by rw [same x hx]; exact ⟨rfl, rfl, rfl⟩)
    rw [(sy x).1]
    constructor
    · rintro ⟨a, b, c⟩; rw [same x b] at c; exact ⟨a, b, c⟩
    · rintro ⟨a, b, c⟩; rw [same x b]; exact ⟨a, b, c⟩

theorem newOrd_q {o : Ask} {M : Int} (h1 : 0 ≤ o.qty) (h2 : o.qty ≤ M) : Qo M (newOrd o) := by
  refine ⟨?_, h1, ?_, ?_, ?_, h2⟩ <;> simp only [newOrd] <;> omega

/-- Enter -/
theorem GV.enter {V : Ven} {n : Nat} {M : Int} (h : GV V n M) (hM : M ≤ 1000000) {i b s t g cap' : Nat} {o : Ask} {lm' : Lm} (hi : i < 2) (hs : s < 2) (ht : t = 1 - s) (hsym : o.sym = symN i) (hside : o.side = (t : Int)) (hq1 : 0 ≤ o.qty) (hq2 : o.qty ≤ M) (hid : o.id = (n : Int) + 1) (hb : ¬ VL V b) :
    GV (V.enter i b s t g cap' o lm') (n + 1) M ∧ Run b s M ⟨V.B i, upd V.om b (newOrd o), V.lg.opened o.id⟩ (mF b s ⟨V.B i, upd V.om b (newOrd o), V.lg.opened o.id⟩) ∧ Inv b s ⟨V.B i, upd V.om b (newOrd o), V.lg.opened o.id⟩ := by
  have hfree : V.oid o.id = none := by
    cases e : V.oid o.id with
    | none => rfl
    | some x => have := (h.oid o.id).1 ⟨x, e⟩; omega
  have hVL : ∀ x, VL (V.enter i b s t g cap' o lm') x ↔ (VL V x ∨ x = b) := fun x => by
    constructor
    · rintro ⟨id, hx⟩
      simp only [Ven.enter] at hx
      split at hx
      · exact .inr (Option.some.inj hx).symm
      · exact .inl ⟨id, hx⟩
    · rintro (⟨id, hx⟩ | rfl)
      · refine ⟨id, ?_⟩
        simp only [Ven.enter]
        rw [if_neg (fun e => by rw [e, hfree] at hx; simp at hx)]
        exact hx
      · exact ⟨o.id, by simp [Ven.enter]⟩
  have om0 : ∀ x, VL V x → upd V.om b (newOrd o) x = V.om x := fun x hx => upd_other _ _ (fun e => hb (e ▸ hx))
  have gi : GB (V.B i) (upd V.om b (newOrd o)) (symN i) (fun x => VL (V.enter i b s t g cap' o lm') x ∧ x ≠ b) := by
    refine (h.gb i hi).cong (fun x => ?_) (fun x hx _ _ => by rw [om0 x hx]; exact ⟨rfl, rfl, rfl⟩)
    rw [hVL x]
    constructor
    · rintro ⟨⟨a | a, a'⟩, c⟩
      · rw [om0 x a] at c; exact ⟨a, c⟩
      · exact absurd a a'
    · rintro ⟨a, c⟩
      rw [om0 x a]; exact ⟨⟨.inl a, fun e => hb (e ▸ a)⟩, c⟩
  have gj : ∀ j, j < 2 → j ≠ i → GB (V.B j) (upd V.om b (newOrd o)) (symN j) (VL (V.enter i b s t g cap' o lm')) := fun j hj hne => by
    refine (h.gb j hj).cong (fun x => ?_) (fun x hx _ _ => by rw [om0 x hx]; exact ⟨rfl, rfl, rfl⟩)
    rw [hVL x]
    constructor
    · rintro ⟨a | a, c⟩
      · rw [om0 x a] at c; exact ⟨a, c⟩
      · rw [a, upd_same] at c
        exact absurd (symN_inj hi hj (hsym.symm.trans c.1)) (fun e => hne e.symm)
    · rintro ⟨a, c⟩
      rw [om0 x a]; exact ⟨.inl a, c⟩
  obtain ⟨c1, c2, c3, c4, c5⟩ := books_come (BB := V.B) (g := g) (cap' := cap') (lg := V.lg.opened o.id) hM hi hs ht ((hVL b).2 (.inr rfl)) (by rw [upd_same]; exact hsym) (by rw [upd_same]; exact hside) (fun x hx => by
    rcases (hVL x).1 hx with a | a
    · rw [om0 x a]; exact h.q x a
    · rw [a, upd_same]; exact newOrd_q hq1 hq2) gi gj
  refine ⟨⟨h.nb, c1, fun id => ?_, by show V.no + 1 = n + 1; rw [h.no], c2, fun x hx => ?_, fun x hx => ?_⟩, c3, c5⟩
  · simp only [Ven.enter]
    by_cases e : id = o.id
    · rw [if_pos e]
      exact ⟨fun _ => by rw [e, hid]; push_cast; omega, fun _ => ⟨b, rfl⟩⟩
    · rw [if_neg e, h.oid id]
      push_cast
      omega
  · show ((comeOm b (mF b s ⟨V.B i, upd V.om b (newOrd o), V.lg.opened o.id⟩)) x).sym = sA ∨ ((comeOm b (mF b s ⟨V.B i, upd V.om b (newOrd o), V.lg.opened o.id⟩)) x).sym = sG
    rw [(c4 x).1]
    rcases (hVL x).1 hx with a | a
    · rw [om0 x a]; exact h.sym x a
    · rw [a, upd_same]
      show o.sym = sA ∨ o.sym = sG
      rw [hsym]
      unfold symN
      split
      · exact .inl rfl
      · exact .inr rfl
  · show ((comeOm b (mF b s ⟨V.B i, upd V.om b (newOrd o), V.lg.opened o.id⟩)) x).side = 0 ∨ ((comeOm b (mF b s ⟨V.B i, upd V.om b (newOrd o), V.lg.opened o.id⟩)) x).side = 1
    rw [(c4 x).2]
    rcases (hVL x).1 hx with a | a
    · rw [om0 x a]; exact h.side x a
    · rw [a, upd_same]
      show o.side = 0 ∨ o.side = 1
      omega

/-- an order turns, but not its rank; what of it is open stays open -/
theorem GV.keepRank {V : Ven} {n : Nat} {M M' : Int} (h : GV V n M) (hM : M ≤ M') {b : Nat} {o' : Ord} (hb : VL V b) (h1 : o'.sym = (V.om b).sym) (h2 : o'.side = (V.om b).side) (h3 : o'.price = (V.om b).price) (h4 : o'.place = (V.om b).place) (h5 : 0 < o'.opn ↔ 0 < (V.om b).opn) (hq : Qo M' o') (i : Nat) : GV (V.turn i (V.B i) (upd V.om b o')) n M' := by
  have hB : ∀ j, upd V.B i (V.B i) j = V.B j := fun j => by
    by_cases e : j = i
    · rw [e, upd_same]
    · rw [upd_other _ _ e]
  have key : ∀ x, (upd V.om b o' x).sym = (V.om x).sym ∧ (upd V.om b o' x).side = (V.om x).side ∧ (upd V.om b o' x).price = (V.om x).price ∧ (upd V.om b o' x).place = (V.om x).place ∧ (0 < (upd V.om b o' x).opn ↔ 0 < (V.om x).opn) := fun x => by
    by_cases e : x = b
    · rw [e, upd_same]; exact ⟨h1, h2, h3, h4, h5⟩
    · rw [upd_other _ _ e]; exact ⟨rfl, rfl, rfl, rfl, Iff.rfl⟩
  refine ⟨h.nb, fun j hj => ?_, h.oid, h.no, fun x hx => ?_, fun x hx => by show (upd V.om b o' x).sym = _ ∨ (upd V.om b o' x).sym = _; rw [(key x).1]; exact h.sym x hx, fun x hx => by show (upd V.om b o' x).side = _ ∨ (upd V.om b o' x).side = _; rw [(key x).2.1]; exact h.side x hx⟩
  · show GB (upd V.B i (V.B i) j) (upd V.om b o') (symN j) (VL V)
    rw [hB j]
    refine (h.gb j hj).cong (fun x => ?_) (fun x _ _ _ => ⟨(key x).2.1, (key x).2.2.1, (key x).2.2.2.1⟩)
    rw [(key x).1, (key x).2.2.2.2]
  · show Qo M' (upd V.om b o' x)
    by_cases e : x = b
    · rw [e, upd_same]; exact hq
    · rw [upd_other _ _ e]; exact (h.q x hx).mono hM

theorem GV.leaves {V : Ven} {n : Nat} {M : Int} (h : GV V n M) {i s k : Nat} (hi : i < 2) (hs : s < 2) (hk : k < (V.B i).n s) {o' : Ord} (h1 : o'.sym = (V.om ((V.B i).h s k)).sym) (h2 : o'.side = (V.om ((V.B i).h s k)).side) (h0 : o'.opn = 0) (hq : Qo M o') : GV (V.turn i ((V.B i).leave V.om s k) (upd V.om ((V.B i).h s k) o')) n M := by
  have hm := ((h.gb i hi).mem s hs _).1 ⟨k, hk, rfl⟩
  generalize hbb : (V.B i).h s k = b at *
  have key : ∀ x, (upd V.om b o' x).sym = (V.om x).sym ∧ (upd V.om b o' x).side = (V.om x).side := fun x => by
    by_cases e : x = b
    · rw [e, upd_same]; exact ⟨h1, h2⟩
    · rw [upd_other _ _ e]; exact ⟨rfl, rfl⟩
  refine ⟨h.nb, fun j hj => ?_, h.oid, h.no, fun x hx => ?_, fun x hx => by show (upd V.om b o' x).sym = _ ∨ (upd V.om b o' x).sym = _; rw [(key x).1]; exact h.sym x hx, fun x hx => by show (upd V.om b o' x).side = _ ∨ (upd V.om b o' x).side = _; rw [(key x).2]; exact h.side x hx⟩
  · show GB (upd V.B i ((V.B i).leave V.om s k) j) (upd V.om b o') (symN j) (VL V)
    have fin : ∀ {B : Bk} {L : Nat → Prop}, GB B V.om (symN j) L → (∀ x, (VL V x ∧ (V.om x).sym = symN j ∧ 0 < (V.om x).opn ∧ x ≠ b) ↔ (L x ∧ (V.om x).sym = symN j ∧ 0 < (V.om x).opn)) → GB B (upd V.om b o') (symN j) (VL V) := by
      intro B L hB hL
      refine hB.cong (fun x => ?_) (fun x a b' c => ?_)
      · rw [(key x).1, ← hL x]
        constructor
        · rintro ⟨a, b', c⟩
          have hne : x ≠ b := fun e => by rw [e, upd_same, h0] at c; omega
          rw [upd_other _ _ hne] at c
          exact ⟨a, b', c, hne⟩
        · rintro ⟨a, b', c, hne⟩
          rw [upd_other _ _ hne]; exact ⟨a, b', c⟩
      · have hne : x ≠ b := ((hL x).2 ⟨a, b', c⟩).2.2.2
        rw [upd_other _ _ hne]; exact ⟨rfl, rfl, rfl⟩
    by_cases e : j = i
    · rw [e, upd_same]
      have := leave_good (h.gb i hi) hs hk
      rw [hbb] at this
      rw [e] at fin
      exact fin this (fun x => ⟨fun ⟨a, b', c, d⟩ => ⟨⟨a, d⟩, b', c⟩, fun ⟨⟨a, d⟩, b', c⟩ => ⟨a, b', c, d⟩⟩)
    · rw [upd_other _ _ e]
      refine fin (h.gb j hj) (fun x => ⟨fun ⟨a, b', c, d⟩ => ⟨a, b', c⟩, fun ⟨a, b', c⟩ => ⟨a, b', c, fun e2 => e ?_⟩⟩)
      rw [e2, hm.2.1] at b'
      exact (symN_inj hi hj b').symm
  · show Qo M (upd V.om b o' x)
    by_cases e : x = b
    · rw [e, upd_same]; exact hq
    · rw [upd_other _ _ e]; exact h.q x hx

end Go.Proofs.YtigaphnafnpfnaaGreatDoor

/- Good venues: an order that comes anew; how many; what the report says. Without memory. -/
set_option linter.unusedVariables false
set_option linter.unusedSimpArgs false
namespace Go.Proofs.YtigaphnafnpfnaaGreatDoor
open Go.RowKit

theorem pigeon : ∀ (m n : Nat) (f : Nat → Nat), (∀ a b, a < n → b < n → f a = f b → a = b) → (∀ k, k < n → f k < m) → n ≤ m := by
  intro m
  induction m with
  | zero =>
    intro n f _ h
    rcases Nat.eq_zero_or_pos n with h0 | h0
    · omega
    · exact absurd (h 0 h0) (Nat.not_lt_zero _)
  | succ m ih =>
    intro n f hi h
    rcases Nat.eq_zero_or_pos n with h0 | h0
    · omega
    · -- the last of the n: swap its value out
      obtain ⟨n', rfl⟩ : ∃ n', n = n' + 1 := ⟨n - 1, by omega⟩
      have key : n' ≤ m := by
        refine ih n' (fun k => if f k = m then f n' else f k) (fun a b ha hb e => ?_) (fun k hk => ?_)
        · by_cases e1 : f a = m <;> by_cases e2 : f b = m
          · exact hi a b (by omega) (by omega) (e1.trans e2.symm)
          · rw [if_pos e1, if_neg e2] at e
            exact absurd (hi n' b (by omega) (by omega) e) (by omega)
          · rw [if_neg e1, if_pos e2] at e
            exact absurd (hi a n' (by omega) (by omega) e) (by omega)
          · rw [if_neg e1, if_neg e2] at e
            exact hi a b (by omega) (by omega) e
        · have hk1 := h k (by omega)
          have hn1 := h n' (by omega)
          split
          · rename_i e1
            have : f n' ≠ m := fun e2 => by
              have := hi k n' (by omega) (by omega) (e1.trans e2.symm)
              omega
            omega
          · omega
      omega

theorem GV.count {V : Ven} {n : Nat} {M : Int} (h : GV V n M) (hid : ∀ id x, V.oid id = some x → (V.om x).id = id) {i s : Nat} (hi : i < 2) (hs : s < 2) : (V.B i).n s ≤ n := by
  have hm : ∀ k, k < (V.B i).n s → ∃ id, V.oid id = some ((V.B i).h s k) := fun k hk => (((h.gb i hi).mem s hs _).1 ⟨k, hk, rfl⟩).1
  have hr : ∀ k, k < (V.B i).n s → 1 ≤ (V.om ((V.B i).h s k)).id ∧ (V.om ((V.B i).h s k)).id ≤ n := fun k hk => by
    obtain ⟨id, e⟩ := hm k hk
    rw [hid id _ e]
    exact (h.oid id).1 ⟨_, e⟩
  refine pigeon n _ (fun k => ((V.om ((V.B i).h s k)).id - 1).toNat) (fun a b ha hb e => ?_) (fun k hk => ?_)
  · have h1 := hr a ha
    have h2 := hr b hb
    have e2 : (V.om ((V.B i).h s a)).id = (V.om ((V.B i).h s b)).id := by omega
    obtain ⟨ia, ea⟩ := hm a ha
    obtain ⟨ib, eb⟩ := hm b hb
    rw [hid ia _ ea, hid ib _ eb] at e2
    rw [e2, eb] at ea
    exact (h.gb i hi).inj s hs a b ha hb (Option.some.inj ea).symm
  · have := hr k hk
    omega

theorem matchF_len {oc s : Nat} : ∀ (f : Nat) (st : MS), (matchF oc s f st).lg.tr.length ≤ st.lg.tr.length + f ∧ (matchF oc s f st).lg.tp.length ≤ st.lg.tp.length + f := by
  intro f
  induction f with
  | zero => intro st; exact ⟨Nat.le_refl _, Nat.le_refl _⟩
  | succ f ih =>
    intro st
    rw [matchF]
    split
    · exact ⟨by omega, by omega⟩
    · have h := ih (mstep oc s st)
      have e : (mstep oc s st).lg.tr.length ≤ st.lg.tr.length + 1 ∧ (mstep oc s st).lg.tp.length ≤ st.lg.tp.length + 1 := by
        unfold mstep
        split
        · simp only [Lg.noted]; exact ⟨by omega, by omega⟩
        · simp [Lg.addT, Lg.told, Lg.kept, Lg.noted, tradeG_tr, tradeG_tp]
      omega

theorem mF_len {oc s : Nat} {st : MS} : (mF oc s st).lg.tr.length ≤ st.lg.tr.length + (st.B.n s + 1) ∧ (mF oc s st).lg.tp.length ≤ st.lg.tp.length + (st.B.n s + 1) := by
  have h := matchF_len (oc := oc) (s := s) (mu oc s st) st
  have hm : mu oc s st ≤ st.B.n s + 1 := by unfold mu; split <;> omega
  unfold mF
  omega

/-- what is told and noted where an order comes anew -/
def Lg.moved (G : Lg) (b : Nat) (o : Ord) : Lg := G.begun.noted [.left b, .now b o]

/-- the venue behind an order that came anew -/
def Ven.anew (V : Ven) (i b s t k g cap' : Nat) (o' : Ord) (lm' : Lm) : Ven :=
  { V with B := upd V.B i (comeB b t g cap' (mF b s ⟨(V.B i).leave V.om t k, upd V.om b o', V.lg.moved b (V.om b)⟩)), om := comeOm b (mF b s ⟨(V.B i).leave V.om t k, upd V.om b o', V.lg.moved b (V.om b)⟩),
           lg := comeG b (mF b s ⟨(V.B i).leave V.om t k, upd V.om b o', V.lg.moved b (V.om b)⟩), lm := lm' }

theorem GV.anew {V : Ven} {n : Nat} {M M' : Int} (h : GV V n M) (hMM : M ≤ M') (hM : M' ≤ 1000000) {i b s t k g cap' : Nat} {o' : Ord} {lm' : Lm} (hi : i < 2) (hs : s < 2) (ht : t = 1 - s) (hk : k < (V.B i).n t) (hb : (V.B i).h t k = b) (h1 : o'.sym = (V.om b).sym) (h2 : o'.side = (V.om b).side) (hq : Qo M' o') :
    GV (V.anew i b s t k g cap' o' lm') n M' ∧ Run b s M' ⟨(V.B i).leave V.om t k, upd V.om b o', V.lg.moved b (V.om b)⟩ (mF b s ⟨(V.B i).leave V.om t k, upd V.om b o', V.lg.moved b (V.om b)⟩) ∧ Inv b s ⟨(V.B i).leave V.om t k, upd V.om b o', V.lg.moved b (V.om b)⟩ := by
  have t2 : t < 2 := by omega
  have hm := ((h.gb i hi).mem t t2 _).1 ⟨k, hk, rfl⟩
  rw [hb] at hm
  have hVL : VL V b := hm.1
  have gi : GB ((V.B i).leave V.om t k) (upd V.om b o') (symN i) (fun x => VL V x ∧ x ≠ b) := by
    have := leave_good (h.gb i hi) t2 hk
    rw [hb] at this
    refine this.cong (fun x => ?_) (fun x hx _ _ => by rw [upd_other _ _ hx.2]; exact ⟨rfl, rfl, rfl⟩)
    constructor
    · rintro ⟨⟨a, a'⟩, c⟩; rw [upd_other _ _ a'] at c; exact ⟨⟨a, a'⟩, c⟩
    · rintro ⟨⟨a, a'⟩, c⟩; rw [upd_other _ _ a']; exact ⟨⟨a, a'⟩, c⟩
  have gj : ∀ j, j < 2 → j ≠ i → GB (V.B j) (upd V.om b o') (symN j) (VL V) := fun j hj hne => by
    have nb : ∀ x, (V.om x).sym = symN j → x ≠ b := fun x hx e => hne (by rw [e, hm.2.1] at hx; exact (symN_inj hi hj hx).symm)
    refine (h.gb j hj).cong (fun x => ?_) (fun x _ hx _ => by rw [upd_other _ _ (nb x hx)]; exact ⟨rfl, rfl, rfl⟩)
    constructor
    · rintro ⟨a, c, d⟩
      have hxs : (V.om x).sym = symN j := by
        by_cases e : x = b
        · rw [e, upd_same, h1] at c; rw [e]; exact c
        · rw [upd_other _ _ e] at c; exact c
      rw [upd_other _ _ (nb x hxs)] at d
      exact ⟨a, hxs, d⟩
    · rintro ⟨a, c, d⟩
      rw [upd_other _ _ (nb x c)]
      exact ⟨a, c, d⟩
  obtain ⟨c1, c2, c3, c4, c5⟩ := books_come (BB := V.B) (g := g) (cap' := cap') (lg := V.lg.moved b (V.om b)) hM hi hs ht hVL (by rw [upd_same, h1]; exact hm.2.1) (by rw [upd_same, h2]; exact hm.2.2.1) (fun x hx => by
    by_cases e : x = b
    · rw [e, upd_same]; exact hq
    · rw [upd_other _ _ e]; exact (h.q x hx).mono hMM) gi gj
  have o0 : ∀ x, (upd V.om b o' x).sym = (V.om x).sym ∧ (upd V.om b o' x).side = (V.om x).side := fun x => by
    by_cases e : x = b
    · rw [e, upd_same]; exact ⟨h1, h2⟩
    · rw [upd_other _ _ e]; exact ⟨rfl, rfl⟩
  refine ⟨⟨h.nb, c1, h.oid, h.no, c2, fun x hx => ?_, fun x hx => ?_⟩, c3, c5⟩
  · show (comeOm b (mF b s ⟨(V.B i).leave V.om t k, upd V.om b o', V.lg.moved b (V.om b)⟩) x).sym = _ ∨ (comeOm b (mF b s ⟨(V.B i).leave V.om t k, upd V.om b o', V.lg.moved b (V.om b)⟩) x).sym = _
    rw [(c4 x).1, (o0 x).1]; exact h.sym x hx
  · show (comeOm b (mF b s ⟨(V.B i).leave V.om t k, upd V.om b o', V.lg.moved b (V.om b)⟩) x).side = _ ∨ (comeOm b (mF b s ⟨(V.B i).leave V.om t k, upd V.om b o', V.lg.moved b (V.om b)⟩) x).side = _
    rw [(c4 x).2, (o0 x).2]; exact h.side x hx

/-- what comes of the one that came -/
theorem come_self {oc s : Nat} {M : Int} {st0 : MS} (hM : M ≤ 1000000) (run : Run oc s M st0 (mF oc s st0)) :
    (comeOm oc (mF oc s st0) oc).entered = (st0.om oc).entered ∧ (comeOm oc (mF oc s st0) oc).exp = (st0.om oc).exp ∧ (comeOm oc (mF oc s st0) oc).filled = ((mF oc s st0).om oc).filled ∧ (st0.om oc).canc ≤ (comeOm oc (mF oc s st0) oc).canc ∧ Qo M (comeOm oc (mF oc s st0) oc) := by
  have hq := run.q oc (.inl rfl)
  have hs := run.stat oc
  have hc := run.canc
  unfold comeOm
  split
  · rw [upd_same]
    exact ⟨hs.2.2.2.2.2.2.2.2.1, hs.2.2.2.2.2.2.2.2.2, rfl, by show _ ≤ ((mF oc s st0).om oc).canc; omega, ⟨hq.sum, hq.o0, hq.f0, hq.c0, hq.e0, hq.hi⟩⟩
  · rw [upd_same]
    obtain ⟨c1, c2, c3⟩ := hq.canc hM
    exact ⟨hs.2.2.2.2.2.2.2.2.1, hs.2.2.2.2.2.2.2.2.2, rfl, by rw [c3]; have := hq.o0; omega, c1⟩

/-- what the report of an order says -/
theorem rep_facts {o : Ask} {b s : Nat} {M : Int} {B : Bk} {om : Nat → Ord} {lg : Lg} (hM : M ≤ 1000000) (run : Run b s M ⟨B, upd om b (newOrd o), lg⟩ (mF b s ⟨B, upd om b (newOrd o), lg⟩)) (hlen : lg.tr.length + (B.n s + 1) ≤ 1000000) :
    ∃ f r c a m, rep (newOrd o) (comeOm b (mF b s ⟨B, upd om b (newOrd o), lg⟩) b) (lg.tr.length : Int) ((mF b s ⟨B, upd om b (newOrd o), lg⟩).lg.tr.length : Int) = repV f r c a m ∧ f + r + c = o.qty ∧ 0 ≤ f ∧ 0 ≤ r ∧ 0 ≤ c ∧ (m = 0 ↔ f = 0) ∧ f ≤ M ∧ r ≤ M ∧ c ≤ M := by
  obtain ⟨e1, e2, e3, e4, hq⟩ := come_self hM run
  have hfil := run.fil
  have heqv := run.eqv
  have htrl := run.trl
  have hl := (mF_len (oc := b) (s := s) (st := ⟨B, upd om b (newOrd o), lg⟩)).1
  simp only [upd_same] at e1 e2 e4 hfil heqv
  simp only [MS.tr] at heqv htrl
  simp only at hl
  generalize comeOm b (mF b s ⟨B, upd om b (newOrd o), lg⟩) b = O at *
  generalize hst : mF b s ⟨B, upd om b (newOrd o), lg⟩ = st at *
  have n1 : (newOrd o).entered = o.qty := rfl
  have n2 : (newOrd o).filled = 0 := rfl
  have n3 : (newOrd o).canc = 0 := rfl
  have n4 : (newOrd o).exp = 0 := rfl
  rw [n1] at e1; rw [n4] at e2; rw [n3] at e4; rw [n2] at hfil heqv
  have q1 := hq.sum; have q2 := hq.o0; have q3 := hq.f0; have q4 := hq.c0; have q5 := hq.hi
  have w1 : wrap64 (O.filled - (newOrd o).filled) = O.filled := by rw [n2]; rw [wrap64_id (by omega) (by omega)]; omega
  have w2 : wrap64 (O.canc - (newOrd o).canc) = O.canc := by rw [n3]; rw [wrap64_id (by omega) (by omega)]; omega
  unfold rep
  rw [w1, w2]
  split
  · rename_i hlt
    refine ⟨O.filled, O.opn, O.canc, _, _, rfl, by omega, by omega, by omega, by omega, ?_, by omega, by omega, by omega⟩
    rw [wrap64_id (x := ((st.lg.tr.length : Int) - (lg.tr.length : Int))) (by omega) (by omega), e3]
    constructor
    · intro h; omega
    · intro h; have := heqv.1 (by omega); omega
  · rename_i hlt
    refine ⟨O.filled, O.opn, O.canc, 0, 0, rfl, by omega, by omega, by omega, by omega, ?_, by omega, by omega, by omega⟩
    rw [e3]
    exact ⟨fun _ => by rw [heqv.2 (by omega)], fun _ => rfl⟩

end Go.Proofs.YtigaphnafnpfnaaGreatDoor

