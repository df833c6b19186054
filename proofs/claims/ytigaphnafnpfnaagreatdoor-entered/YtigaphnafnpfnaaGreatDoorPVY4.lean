import Derived.Test.YtigaphnafnpfnaaGreatDoorPVM2
import Derived.Test.YtigaphnafnpfnaaGreatDoorPVF1
import Derived.Test.YtigaphnafnpfnaaGreatDoorPVE16
import Derived.Test.YtigaphnafnpfnaaGreatDoorPVY3
import Derived.Test.YtigaphnafnpfnaaGreatDoorPVX15
import Derived.Test.YtigaphnafnpfnaaGreatDoorPVN3
import Derived.Deep.CutRange
import Derived.Test.YtigaphnafnpfnaaGreatDoorPVX14
import Derived.Test.YtigaphnafnpfnaaGreatDoorPVF5
/- Good venues, with any number of books. Without memory. -/
set_option linter.unusedVariables false
set_option linter.unusedSimpArgs false
namespace Go.Proofs.YtigaphnafnpfnaaGreatDoor

theorem Qo.mono {M M' : Int} {o : Ord} (h : Qo M o) (hm : M ≤ M') : Qo M' o := ⟨h.sum, h.o0, h.f0, h.c0, h.e0, by have := h.hi; omega⟩

theorem leave_good {B : Bk} {om : Nat → Ord} {sym : ByteArray} {L : Nat → Prop} (h : GB B om sym L) {s k : Nat} (hs : s < 2) (hk : k < B.n s) : GB (B.leave om s k) om sym (fun x => L x ∧ x ≠ B.h s k) := by
  have other : ∀ y, y ≠ s → (B.leave om s k).n y = B.n y ∧ (B.leave om s k).h y = B.h y := fun y hy => by simp only [Bk.leave]; rw [upd_other _ _ hy, upd_other _ _ hy]; exact ⟨rfl, rfl⟩
  have iff := leave_iff (om := om) (h.inj s hs) hk
  have ne : ∀ y, y < 2 → y ≠ s → ∀ x, Mem (B.n y) (B.h y) x → x ≠ B.h s k := fun y hy hne x hx e => by
    have a := ((h.mem y hy x).1 hx).2.2.1
    have b := ((h.mem s hs _).1 ⟨k, hk, rfl⟩).2.2.1
    rw [e, b] at a
    omega
  have sub : ∀ y, y < 2 → ∀ x, Mem ((B.leave om s k).n y) ((B.leave om s k).h y) x → Mem (B.n y) (B.h y) x := fun y hy x hx => by
    by_cases e : y = s
    · rw [e] at hx ⊢; exact ((iff x).1 hx).1
    · rw [(other y e).1, (other y e).2] at hx; exact hx
  refine ⟨h.bsym, fun y hy x => ?_, fun y hy => ?_, fun y hy => ?_, fun x y hx hy => h.cross x y (sub 0 (by omega) x hx) (sub 1 (by omega) y hy)⟩
  · by_cases e : y = s
    · rw [e, iff x, h.mem s hs x]
      exact ⟨fun ⟨⟨a, b⟩, c⟩ => ⟨⟨a, c⟩, b⟩, fun ⟨⟨a, c⟩, b⟩ => ⟨⟨a, b⟩, c⟩⟩
    · rw [(other y e).1, (other y e).2]
      constructor
      · intro hx
        obtain ⟨a, b⟩ := (h.mem y hy x).1 hx
        exact ⟨⟨a, ne y hy e x hx⟩, b⟩
      · rintro ⟨⟨a, _⟩, b⟩
        exact (h.mem y hy x).2 ⟨a, b⟩
  · by_cases e : y = s
    · rw [e]; exact leave_heap rfl (fun k hk => h.side hs hk) (h.heap s hs) hk
    · rw [(other y e).1, (other y e).2]; exact h.heap y hy
  · by_cases e : y = s
    · rw [e]
      have h0 : Inj (B.n s - 1 + 1) (B.h s) := by rw [show B.n s - 1 + 1 = B.n s by omega]; exact h.inj s hs
      simp only [Bk.leave, upd_same]
      exact fun a b ha hb e => (h0.remove (lt := ltB om) (i := k) (by omega)) a b (by omega) (by omega) e
    · rw [(other y e).1, (other y e).2]; exact h.inj y hy

/-- the orders of a venue -/
def VL (V : Ven) (x : Nat) : Prop := ∃ id, V.oid id = some x

structure GW (V : Ven) (M : Int) : Prop where
  gb : ∀ i, i < V.nb → GB (V.B i) V.om (V.B i).sym (VL V)
  sinj : ∀ i j, i < V.nb → j < V.nb → (V.B i).sym = (V.B j).sym → i = j
  q : ∀ x, VL V x → Qo M (V.om x)
  sym : ∀ x, VL V x → ∃ i, i < V.nb ∧ (V.om x).sym = (V.B i).sym
  side : ∀ x, VL V x → (V.om x).side = 0 ∨ (V.om x).side = 1

/-- one that comes, in a venue: both books -/
theorem books_come {BB : Nat → Bk} {nb : Nat} {nm : Nat → ByteArray} (sinj : ∀ i j, i < nb → j < nb → nm i = nm j → i = j) {i oc s t g cap' : Nat} {B0 : Bk} {om0 : Nat → Ord} {lg : Lg} {L : Nat → Prop} {M : Int} (hM : M ≤ 1000000000000000) (hi : i < nb) (hs : s < 2) (ht : t = 1 - s) (hL : L oc) (hsym : (om0 oc).sym = nm i) (hside : (om0 oc).side = (t : Int)) (hq : ∀ x, L x → Qo M (om0 x))
    (gi : GB B0 om0 (nm i) (fun x => L x ∧ x ≠ oc)) (gj : ∀ j, j < nb → j ≠ i → GB (BB j) om0 (nm j) L) :
    (∀ j, j < nb → GB (upd BB i (comeB oc t g cap' (mF oc s ⟨B0, om0, lg⟩)) j) (comeOm oc (mF oc s ⟨B0, om0, lg⟩)) (nm j) L) ∧ (∀ x, L x → Qo M (comeOm oc (mF oc s ⟨B0, om0, lg⟩) x)) ∧ Run oc s M ⟨B0, om0, lg⟩ (mF oc s ⟨B0, om0, lg⟩) ∧
      (∀ x, (comeOm oc (mF oc s ⟨B0, om0, lg⟩) x).sym = (om0 x).sym ∧ (comeOm oc (mF oc s ⟨B0, om0, lg⟩) x).side = (om0 x).side) ∧ Inv oc s ⟨B0, om0, lg⟩ := by
  obtain ⟨iv, g1, g2, run, stat, keep⟩ := come_good (g := g) (cap' := cap') (lg := lg) hM hs ht hL hsym hside hq gi
  have sy : ∀ x, (comeOm oc (mF oc s ⟨B0, om0, lg⟩) x).sym = (om0 x).sym ∧ (comeOm oc (mF oc s ⟨B0, om0, lg⟩) x).side = (om0 x).side := fun x => by
    by_cases e : x = oc
    · have h1 := run.stat oc
      rw [e]
      unfold comeOm
      split
      · rw [upd_same]; exact ⟨h1.2.2.1, h1.2.2.2.1⟩
      · rw [upd_same]; exact ⟨h1.2.2.1, h1.2.2.2.1⟩
    · exact ⟨(stat x e).2.2.1, (stat x e).2.2.2.1⟩
  refine ⟨fun j hj => ?_, g2, run, sy, iv⟩
  by_cases e : j = i
  · rw [e, upd_same]; exact g1
  · rw [upd_other _ _ e]
    have ns : nm j ≠ nm i := fun h => e (sinj j i hj hi h)
    have same : ∀ x, (om0 x).sym = nm j → comeOm oc (mF oc s ⟨B0, om0, lg⟩) x = om0 x := fun x hx => keep x (fun e2 => ns (by rw [← hx, e2]; exact hsym)) (.inl (by rw [hx]; exact ns))
    refine (gj j hj e).cong (fun x => ?_) (fun x _ hx _ => by rw [same x hx]; exact ⟨rfl, rfl, rfl⟩)
    rw [(sy x).1]
    constructor
    · rintro ⟨a, b, c⟩; rw [same x b] at c; exact ⟨a, b, c⟩
    · rintro ⟨a, b, c⟩; rw [same x b]; exact ⟨a, b, c⟩

theorem newOrd_q {o : Ask} {M : Int} (h1 : 0 ≤ o.qty) (h2 : o.qty ≤ M) : Qo M (newOrd o) := by
  refine ⟨?_, h1, ?_, ?_, ?_, h2⟩ <;> simp only [newOrd] <;> omega

theorem matchF_sym {oc s : Nat} : ∀ (f : Nat) (st : MS), (matchF oc s f st).B.sym = st.B.sym := by
  intro f
  induction f with
  | zero => intro st; rfl
  | succ f ih =>
    intro st
    rw [matchF]
    split
    · rfl
    · rw [ih]
      unfold mstep
      split
      · rfl
      · simp only [tradeB]
        split <;> rfl

/-- Enter -/
theorem GW.enter {V : Ven} {M : Int} (h : GW V M) (hM : M ≤ 1000000000000000) {i b s t g cap' : Nat} {o : Ask} {lm' : Lm} (hi : i < V.nb) (hs : s < 2) (ht : t = 1 - s) (hsym : o.sym = (V.B i).sym) (hside : o.side = (t : Int)) (hq1 : 0 ≤ o.qty) (hq2 : o.qty ≤ M) (hfree : V.oid o.id = none) (hb : ¬ VL V b) :
    GW (V.enter i b s t g cap' o lm') M ∧ Run b s M ⟨V.B i, upd V.om b (newOrd o), V.lg.opened o.id⟩ (mF b s ⟨V.B i, upd V.om b (newOrd o), V.lg.opened o.id⟩) ∧ Inv b s ⟨V.B i, upd V.om b (newOrd o), V.lg.opened o.id⟩ ∧ (∀ j, ((V.enter i b s t g cap' o lm').B j).sym = (V.B j).sym) ∧ (∀ x, VL (V.enter i b s t g cap' o lm') x ↔ (VL V x ∨ x = b)) ∧ GB (V.B i) (upd V.om b (newOrd o)) (V.B i).sym (fun x => VL (V.enter i b s t g cap' o lm') x ∧ x ≠ b) := by
  have hBs : ∀ j, ((V.enter i b s t g cap' o lm').B j).sym = (V.B j).sym := fun j => by
    simp only [Ven.enter]
    by_cases e : j = i
    · rw [e, upd_same, comeB_sym]; unfold mF; rw [matchF_sym]
    · rw [upd_other _ _ e]
  have hVL : ∀ x, VL (V.enter i b s t g cap' o lm') x ↔ (VL V x ∨ x = b) := fun x => by
    constructor
    · rintro ⟨id, hx⟩
      simp only [Ven.enter] at hx
      split at hx
      · exact .inr (Option.some.inj hx).symm
      · exact .inl ⟨id, hx⟩
    · rintro (⟨id, hx⟩ | rfl)
      · refine ⟨id, ?_⟩
        simp only [Ven.enter]
        rw [if_neg (fun e => by rw [e, hfree] at hx; simp at hx)]
        exact hx
      · exact ⟨o.id, by simp [Ven.enter]⟩
  have om0 : ∀ x, VL V x → upd V.om b (newOrd o) x = V.om x := fun x hx => upd_other _ _ (fun e => hb (e ▸ hx))
  have gi : GB (V.B i) (upd V.om b (newOrd o)) ((V.B i).sym) (fun x => VL (V.enter i b s t g cap' o lm') x ∧ x ≠ b) := by
    refine (h.gb i hi).cong (fun x => ?_) (fun x hx _ _ => by rw [om0 x hx]; exact ⟨rfl, rfl, rfl⟩)
    rw [hVL x]
    constructor
    · rintro ⟨⟨a | a, a'⟩, c⟩
      · rw [om0 x a] at c; exact ⟨a, c⟩
      · exact absurd a a'
    · rintro ⟨a, c⟩
      rw [om0 x a]; exact ⟨⟨.inl a, fun e => hb (e ▸ a)⟩, c⟩
  have gj : ∀ j, j < V.nb → j ≠ i → GB (V.B j) (upd V.om b (newOrd o)) ((V.B j).sym) (VL (V.enter i b s t g cap' o lm')) := fun j hj hne => by
    refine (h.gb j hj).cong (fun x => ?_) (fun x hx _ _ => by rw [om0 x hx]; exact ⟨rfl, rfl, rfl⟩)
    rw [hVL x]
    constructor
    · rintro ⟨a | a, c⟩
      · rw [om0 x a] at c; exact ⟨a, c⟩
      · rw [a, upd_same] at c
        exact absurd (h.sinj i j hi hj (hsym.symm.trans c.1)) (fun e => hne e.symm)
    · rintro ⟨a, c⟩
      rw [om0 x a]; exact ⟨.inl a, c⟩
  obtain ⟨c1, c2, c3, c4, c5⟩ := books_come h.sinj (BB := V.B) (g := g) (cap' := cap') (lg := V.lg.opened o.id) hM hi hs ht ((hVL b).2 (.inr rfl)) (by rw [upd_same]; exact hsym) (by rw [upd_same]; exact hside) (fun x hx => by
    rcases (hVL x).1 hx with a | a
    · rw [om0 x a]; exact h.q x a
    · rw [a, upd_same]; exact newOrd_q hq1 hq2) gi gj
  refine ⟨⟨fun j hj => ?_, fun a c ha hc e => ?_, c2, fun x hx => ?_, fun x hx => ?_⟩, c3, c5, hBs, hVL, gi⟩
  · rw [hBs j]; exact c1 j hj
  · rw [hBs a, hBs c] at e; exact h.sinj a c ha hc e
  · show ∃ j, j < V.nb ∧ ((comeOm b (mF b s ⟨V.B i, upd V.om b (newOrd o), V.lg.opened o.id⟩)) x).sym = ((V.enter i b s t g cap' o lm').B j).sym
    rw [(c4 x).1]
    rcases (hVL x).1 hx with a | a
    · rw [om0 x a]
      obtain ⟨j, hj, e⟩ := h.sym x a
      exact ⟨j, hj, by rw [hBs j]; exact e⟩
    · rw [a, upd_same]
      exact ⟨i, hi, by rw [hBs i]; exact hsym⟩
  · show ((comeOm b (mF b s ⟨V.B i, upd V.om b (newOrd o), V.lg.opened o.id⟩)) x).side = 0 ∨ ((comeOm b (mF b s ⟨V.B i, upd V.om b (newOrd o), V.lg.opened o.id⟩)) x).side = 1
    rw [(c4 x).2]
    rcases (hVL x).1 hx with a | a
    · rw [om0 x a]; exact h.side x a
    · rw [a, upd_same]
      show o.side = 0 ∨ o.side = 1
      omega

/-- an order turns, but not its rank; what of it is open stays open -/
theorem GW.keepRank {V : Ven} {M M' : Int} (h : GW V M) (hM : M ≤ M') {b : Nat} {o' : Ord} (hb : VL V b) (h1 : o'.sym = (V.om b).sym) (h2 : o'.side = (V.om b).side) (h3 : o'.price = (V.om b).price) (h4 : o'.place = (V.om b).place) (h5 : 0 < o'.opn ↔ 0 < (V.om b).opn) (hq : Qo M' o') (i : Nat) : GW (V.turn i (V.B i) (upd V.om b o')) M' := by
  have hB : ∀ j, upd V.B i (V.B i) j = V.B j := fun j => by
    by_cases e : j = i
    · rw [e, upd_same]
    · rw [upd_other _ _ e]
  have key : ∀ x, (upd V.om b o' x).sym = (V.om x).sym ∧ (upd V.om b o' x).side = (V.om x).side ∧ (upd V.om b o' x).price = (V.om x).price ∧ (upd V.om b o' x).place = (V.om x).place ∧ (0 < (upd V.om b o' x).opn ↔ 0 < (V.om x).opn) := fun x => by
    by_cases e : x = b
    · rw [e, upd_same]; exact ⟨h1, h2, h3, h4, h5⟩
    · rw [upd_other _ _ e]; exact ⟨rfl, rfl, rfl, rfl, Iff.rfl⟩
  refine ⟨fun j hj => ?_, fun a c ha hc e => ?_, fun x hx => ?_, fun x hx => ?_, fun x hx => by show (upd V.om b o' x).side = _ ∨ (upd V.om b o' x).side = _; rw [(key x).2.1]; exact h.side x hx⟩
  · show GB (upd V.B i (V.B i) j) (upd V.om b o') (upd V.B i (V.B i) j).sym (VL V)
    rw [hB j]
    refine (h.gb j hj).cong (fun x => ?_) (fun x _ _ _ => ⟨(key x).2.1, (key x).2.2.1, (key x).2.2.2.1⟩)
    rw [(key x).1, (key x).2.2.2.2]
  · simp only [Ven.turn] at e
    rw [hB a, hB c] at e
    exact h.sinj a c ha hc e
  · show Qo M' (upd V.om b o' x)
    by_cases e : x = b
    · rw [e, upd_same]; exact hq
    · rw [upd_other _ _ e]; exact (h.q x hx).mono hM
  · obtain ⟨j, hj, e⟩ := h.sym x hx
    refine ⟨j, hj, ?_⟩
    show (upd V.om b o' x).sym = (upd V.B i (V.B i) j).sym
    rw [(key x).1, hB j]; exact e

theorem GW.leaves {V : Ven} {M : Int} (h : GW V M) {i s k : Nat} (hi : i < V.nb) (hs : s < 2) (hk : k < (V.B i).n s) {o' : Ord} (h1 : o'.sym = (V.om ((V.B i).h s k)).sym) (h2 : o'.side = (V.om ((V.B i).h s k)).side) (h0 : o'.opn = 0) (hq : Qo M o') : GW (V.turn i ((V.B i).leave V.om s k) (upd V.om ((V.B i).h s k) o')) M := by
  have hm := ((h.gb i hi).mem s hs _).1 ⟨k, hk, rfl⟩
  generalize hbb : (V.B i).h s k = b at *
  have key : ∀ x, (upd V.om b o' x).sym = (V.om x).sym ∧ (upd V.om b o' x).side = (V.om x).side := fun x => by
    by_cases e : x = b
    · rw [e, upd_same]; exact ⟨h1, h2⟩
    · rw [upd_other _ _ e]; exact ⟨rfl, rfl⟩
  have hBs : ∀ j, (upd V.B i ((V.B i).leave V.om s k) j).sym = (V.B j).sym := fun j => by
    by_cases e : j = i
    · rw [e, upd_same]; rfl
    · rw [upd_other _ _ e]
  refine ⟨fun j hj => ?_, fun a c ha hc e => h.sinj a c ha hc (by rw [← hBs a, ← hBs c]; exact e), fun x hx => ?_, fun x hx => ?_, fun x hx => by show (upd V.om b o' x).side = _ ∨ (upd V.om b o' x).side = _; rw [(key x).2]; exact h.side x hx⟩
  · show GB (upd V.B i ((V.B i).leave V.om s k) j) (upd V.om b o') (upd V.B i ((V.B i).leave V.om s k) j).sym (VL V)
    rw [hBs j]
    have fin : ∀ {B : Bk} {L : Nat → Prop}, GB B V.om ((V.B j).sym) L → (∀ x, (VL V x ∧ (V.om x).sym = (V.B j).sym ∧ 0 < (V.om x).opn ∧ x ≠ b) ↔ (L x ∧ (V.om x).sym = (V.B j).sym ∧ 0 < (V.om x).opn)) → GB B (upd V.om b o') ((V.B j).sym) (VL V) := by
      intro B L hB hL
      refine hB.cong (fun x => ?_) (fun x a b' c => ?_)
      · rw [(key x).1, ← hL x]
        constructor
        · rintro ⟨a, b', c⟩
          have hne : x ≠ b := fun e => by rw [e, upd_same, h0] at c; omega
          rw [upd_other _ _ hne] at c
          exact ⟨a, b', c, hne⟩
        · rintro ⟨a, b', c, hne⟩
          rw [upd_other _ _ hne]; exact ⟨a, b', c⟩
      · have hne : x ≠ b := ((hL x).2 ⟨a, b', c⟩).2.2.2
        rw [upd_other _ _ hne]; exact ⟨rfl, rfl, rfl⟩
    by_cases e : j = i
    · rw [e, upd_same]
      have := leave_good (h.gb i hi) hs hk
      rw [hbb] at this
      rw [e] at fin
      exact fin this (fun x => ⟨fun ⟨a, b', c, d⟩ => ⟨⟨a, d⟩, b', c⟩, fun ⟨⟨a, d⟩, b', c⟩ => ⟨a, b', c, d⟩⟩)
    · rw [upd_other _ _ e]
      refine fin (h.gb j hj) (fun x => ⟨fun ⟨a, b', c, d⟩ => ⟨a, b', c⟩, fun ⟨a, b', c⟩ => ⟨a, b', c, fun e2 => e ?_⟩⟩)
      rw [e2, hm.2.1] at b'
      exact (h.sinj i j hi hj b').symm
  · show Qo M (upd V.om b o' x)
    by_cases e : x = b
    · rw [e, upd_same]; exact hq
    · rw [upd_other _ _ e]; exact h.q x hx
  · obtain ⟨j, hj, e⟩ := h.sym x hx
    exact ⟨j, hj, by show (upd V.om b o' x).sym = (upd V.B i ((V.B i).leave V.om s k) j).sym; rw [(key x).1, hBs j]; exact e⟩


theorem pigeon : ∀ (m n : Nat) (f : Nat → Nat), (∀ a b, a < n → b < n → f a = f b → a = b) → (∀ k, k < n → f k < m) → n ≤ m := by
  intro m
  induction m with
  | zero =>
    intro n f _ h
    rcases Nat.eq_zero_or_pos n with h0 | h0
    · omega
    · exact absurd (h 0 h0) (Nat.not_lt_zero _)
  | succ m ih =>
    intro n f hi h
    rcases Nat.eq_zero_or_pos n with h0 | h0
    · omega
    · -- the last of the n: swap its value out
      obtain ⟨n', rfl⟩ : ∃ n', n = n' + 1 := ⟨n - 1, by omega⟩
      have key : n' ≤ m := by
        refine ih n' (fun k => if f k = m then f n' else f k) (fun a b ha hb e => ?_) (fun k hk => ?_)
        · by_cases e1 : f a = m <;> by_cases e2 : f b = m
          · exact hi a b (by omega) (by omega) (e1.trans e2.symm)
          · rw [if_pos e1, if_neg e2] at e
            exact absurd (hi n' b (by omega) (by omega) e) (by omega)
          · rw [if_neg e1, if_pos e2] at e
            exact absurd (hi a n' (by omega) (by omega) e) (by omega)
          · rw [if_neg e1, if_neg e2] at e
            exact hi a b (by omega) (by omega) e
        · have hk1 := h k (by omega)
          have hn1 := h n' (by omega)
          split
          · rename_i e1
            have : f n' ≠ m := fun e2 => by
              have := hi k n' (by omega) (by omega) (e1.trans e2.symm)
              omega
            omega
          · omega
      omega

theorem matchF_len {oc s : Nat} : ∀ (f : Nat) (st : MS), (matchF oc s f st).lg.tr.length ≤ st.lg.tr.length + f ∧ (matchF oc s f st).lg.tp.length ≤ st.lg.tp.length + f := by
  intro f
  induction f with
  | zero => intro st; exact ⟨Nat.le_refl _, Nat.le_refl _⟩
  | succ f ih =>
    intro st
    rw [matchF]
    split
    · exact ⟨by omega, by omega⟩
    · have h := ih (mstep oc s st)
      have e : (mstep oc s st).lg.tr.length ≤ st.lg.tr.length + 1 ∧ (mstep oc s st).lg.tp.length ≤ st.lg.tp.length + 1 := by
        unfold mstep
        split
        · simp only [Lg.noted]; exact ⟨by omega, by omega⟩
        · simp [Lg.addT, Lg.told, Lg.kept, Lg.noted, tradeG_tr, tradeG_tp]
      omega

theorem mF_len {oc s : Nat} {st : MS} : (mF oc s st).lg.tr.length ≤ st.lg.tr.length + (st.B.n s + 1) ∧ (mF oc s st).lg.tp.length ≤ st.lg.tp.length + (st.B.n s + 1) := by
  have h := matchF_len (oc := oc) (s := s) (mu oc s st) st
  have hm : mu oc s st ≤ st.B.n s + 1 := by unfold mu; split <;> omega
  unfold mF
  omega

/-- the venue behind an order that came anew -/
def Ven.anew (V : Ven) (i b s t k g cap' : Nat) (o' : Ord) (lm' : Lm) : Ven :=
  { V with B := upd V.B i (comeB b t g cap' (mF b s ⟨(V.B i).leave V.om t k, upd V.om b o', V.lg.moved b (V.om b)⟩)), om := comeOm b (mF b s ⟨(V.B i).leave V.om t k, upd V.om b o', V.lg.moved b (V.om b)⟩),
           lg := comeG b (mF b s ⟨(V.B i).leave V.om t k, upd V.om b o', V.lg.moved b (V.om b)⟩), lm := lm' }

theorem GW.anew {V : Ven} {M M' : Int} (h : GW V M) (hMM : M ≤ M') (hM : M' ≤ 1000000000000000) {i b s t k g cap' : Nat} {o' : Ord} {lm' : Lm} (hi : i < V.nb) (hs : s < 2) (ht : t = 1 - s) (hk : k < (V.B i).n t) (hb : (V.B i).h t k = b) (h1 : o'.sym = (V.om b).sym) (h2 : o'.side = (V.om b).side) (hq : Qo M' o') :
    GW (V.anew i b s t k g cap' o' lm') M' ∧ Run b s M' ⟨(V.B i).leave V.om t k, upd V.om b o', V.lg.moved b (V.om b)⟩ (mF b s ⟨(V.B i).leave V.om t k, upd V.om b o', V.lg.moved b (V.om b)⟩) ∧ Inv b s ⟨(V.B i).leave V.om t k, upd V.om b o', V.lg.moved b (V.om b)⟩ ∧ (∀ j, ((V.anew i b s t k g cap' o' lm').B j).sym = (V.B j).sym) ∧ GB ((V.B i).leave V.om t k) (upd V.om b o') (V.B i).sym (fun x => VL V x ∧ x ≠ b) := by
  have hBs : ∀ j, ((V.anew i b s t k g cap' o' lm').B j).sym = (V.B j).sym := fun j => by
    simp only [Ven.anew]
    by_cases e : j = i
    · rw [e, upd_same, comeB_sym]; unfold mF; rw [matchF_sym]; rfl
    · rw [upd_other _ _ e]
  have t2 : t < 2 := by omega
  have hm := ((h.gb i hi).mem t t2 _).1 ⟨k, hk, rfl⟩
  rw [hb] at hm
  have hVL : VL V b := hm.1
  have gi : GB ((V.B i).leave V.om t k) (upd V.om b o') ((V.B i).sym) (fun x => VL V x ∧ x ≠ b) := by
    have := leave_good (h.gb i hi) t2 hk
    rw [hb] at this
    refine this.cong (fun x => ?_) (fun x hx _ _ => by rw [upd_other _ _ hx.2]; exact ⟨rfl, rfl, rfl⟩)
    constructor
    · rintro ⟨⟨a, a'⟩, c⟩; rw [upd_other _ _ a'] at c; exact ⟨⟨a, a'⟩, c⟩
    · rintro ⟨⟨a, a'⟩, c⟩; rw [upd_other _ _ a']; exact ⟨⟨a, a'⟩, c⟩
  have gj : ∀ j, j < V.nb → j ≠ i → GB (V.B j) (upd V.om b o') ((V.B j).sym) (VL V) := fun j hj hne => by
    have nb : ∀ x, (V.om x).sym = (V.B j).sym → x ≠ b := fun x hx e => hne (by rw [e, hm.2.1] at hx; exact (h.sinj i j hi hj hx).symm)
    refine (h.gb j hj).cong (fun x => ?_) (fun x _ hx _ => by rw [upd_other _ _ (nb x hx)]; exact ⟨rfl, rfl, rfl⟩)
    constructor
    · rintro ⟨a, c, d⟩
      have hxs : (V.om x).sym = (V.B j).sym := by
        by_cases e : x = b
        · rw [e, upd_same, h1] at c; rw [e]; exact c
        · rw [upd_other _ _ e] at c; exact c
      rw [upd_other _ _ (nb x hxs)] at d
      exact ⟨a, hxs, d⟩
    · rintro ⟨a, c, d⟩
      rw [upd_other _ _ (nb x c)]
      exact ⟨a, c, d⟩
  obtain ⟨c1, c2, c3, c4, c5⟩ := books_come h.sinj (BB := V.B) (g := g) (cap' := cap') (lg := V.lg.moved b (V.om b)) hM hi hs ht hVL (by rw [upd_same, h1]; exact hm.2.1) (by rw [upd_same, h2]; exact hm.2.2.1) (fun x hx => by
    by_cases e : x = b
    · rw [e, upd_same]; exact hq
    · rw [upd_other _ _ e]; exact (h.q x hx).mono hMM) gi gj
  have o0 : ∀ x, (upd V.om b o' x).sym = (V.om x).sym ∧ (upd V.om b o' x).side = (V.om x).side := fun x => by
    by_cases e : x = b
    · rw [e, upd_same]; exact ⟨h1, h2⟩
    · rw [upd_other _ _ e]; exact ⟨rfl, rfl⟩
  refine ⟨⟨fun j hj => ?_, fun a c ha hc e => ?_, c2, fun x hx => ?_, fun x hx => ?_⟩, c3, c5, hBs, gi⟩
  · rw [hBs j]; exact c1 j hj
  · rw [hBs a, hBs c] at e; exact h.sinj a c ha hc e
  · show ∃ j, j < V.nb ∧ (comeOm b (mF b s ⟨(V.B i).leave V.om t k, upd V.om b o', V.lg.moved b (V.om b)⟩) x).sym = ((V.anew i b s t k g cap' o' lm').B j).sym
    rw [(c4 x).1, (o0 x).1]
    obtain ⟨j, hj, e⟩ := h.sym x hx
    exact ⟨j, hj, by rw [hBs j]; exact e⟩
  · show (comeOm b (mF b s ⟨(V.B i).leave V.om t k, upd V.om b o', V.lg.moved b (V.om b)⟩) x).side = _ ∨ (comeOm b (mF b s ⟨(V.B i).leave V.om t k, upd V.om b o', V.lg.moved b (V.om b)⟩) x).side = _
    rw [(c4 x).2, (o0 x).2]; exact h.side x hx

/-- a book more -/
theorem GW.listed {V : Ven} {M : Int} (h : GW V M) {s : ByteArray} {b : Nat} {lm' : Lm} (hfree : ∀ i, i < V.nb → (V.B i).sym ≠ s) : GW (V.listed s b lm') M := by
  have old : ∀ j, j < V.nb → (V.listed s b lm').B j = V.B j := fun j hj => by
    show upd V.B V.nb (newBk s) j = V.B j
    exact upd_other _ _ (by omega)
  have new : (V.listed s b lm').B V.nb = newBk s := upd_same _ _ _
  have hnew : (newBk s).sym = s := rfl
  have hnb : (V.listed s b lm').nb = V.nb + 1 := rfl
  refine ⟨fun j hj => ?_, fun a c ha hc e => ?_, h.q, fun x hx => ?_, h.side⟩
  · by_cases e : j < V.nb
    · rw [old j e]; exact h.gb j e
    · obtain rfl : j = V.nb := by omega
      rw [new, hnew]
      have n0 : ∀ y, (newBk s).n y = 0 := fun y => rfl
      refine ⟨rfl, fun y hy x => ?_, fun y hy k h0 hk => ?_, fun y hy a c ha => ?_, fun x y hx => ?_⟩
      · rw [n0]
        constructor
        · rintro ⟨k, hk, _⟩; omega
        · rintro ⟨a, c, _⟩
          obtain ⟨j, hj, e2⟩ := h.sym x a
          exact absurd (e2.symm.trans c) (hfree j hj)
      · rw [n0] at hk; omega
      · rw [n0] at ha; omega
      · obtain ⟨k, hk, _⟩ := hx; rw [n0] at hk; omega
  · by_cases ea : a < V.nb <;> by_cases ec : c < V.nb
    · rw [old a ea, old c ec] at e; exact h.sinj a c ea ec e
    · obtain rfl : c = V.nb := by omega
      rw [old a ea, new, hnew] at e; exact absurd e (hfree a ea)
    · obtain rfl : a = V.nb := by omega
      rw [old c ec, new, hnew] at e; exact absurd e.symm (hfree c ec)
    · omega
  · obtain ⟨j, hj, e⟩ := h.sym x hx
    exact ⟨j, by omega, by rw [old j hj]; exact e⟩

end Go.Proofs.YtigaphnafnpfnaaGreatDoor

set_option linter.unusedVariables false
set_option linter.unusedSimpArgs false
/- The program's venue and the document's state. Without memory. -/
namespace Go.Proofs.YtigaphnafnpfnaaGreatDoor
open Go.RowKit

/-- what the one that came is, at the end -/
theorem SimR.fin {p : Nat → Nat} {oc i s : Nat} {sym : ByteArray} {R0 : List Rc} {tr0 f0 M : Int} {st : MS} {c : RC} (h : SimR p oc i s sym R0 tr0 f0 st c) (hM : M ≤ 1000000000000000) (q : Qo M (st.om oc)) :
    (∀ k, k < c.S.l.length → noP (comeOm oc st (p k)) = noP (nthO (rcS i c).l k)) ∧ (rcS i c).l.length = c.S.l.length ∧ (∀ k, k ≠ i → nthO (rcS i c).l k = nthO c.S.l k) ∧
      (waitsB (st.om oc) = true → (nthO (rcS i c).l i).place = wrap64 (c.S.places + 1) ∧ (rcS i c).places = wrap64 (c.S.places + 1)) ∧ (waitsB (st.om oc) = false → (nthO (rcS i c).l i).opn = 0 ∧ (rcS i c).places = c.S.places) ∧ (rcS i c).t = c.S.t ∧ (rcS i c).told = c.S.told ∧ (rcS i c).day = c.S.day ∧ (rcS i c).sy = c.S.sy := by
  obtain ⟨hsim, hleft, htrl, htp, hday, hbs, hfil, hcnt, hfst, hle, hf0, hf1⟩ := h
  have il := hsim.il
  have hself := noP_f hsim.self
  obtain ⟨s1, s2, s3, s4, s5, s6, s7, s8, s9, s10, s11, s12⟩ := hself
  simp only at s1 s2 s3 s4 s5 s6 s7 s8 s9 s10 s11 s12
  have pni : ∀ a, a < c.S.l.length → a ≠ i → p a ≠ oc := fun a ha e e2 => e (hsim.inj a i ha il (by rw [e2, hsim.pi]))
  have o0 := q.o0
  have ofar : ∀ k, k < c.S.l.length → k ≠ i → comeOm oc st (p k) = st.om (p k) := fun k hk e => by
    unfold comeOm
    split <;> exact upd_other _ _ (pni k hk e)
  have bnd : (st.om oc).opn ≤ 1000000000000000 ∧ (st.om oc).canc ≤ 1000000000000000 := by have := q.hi; have := q.sum; have := q.f0; have := q.c0; have := q.e0; omega
  have hk' : (st.om oc).kind = (nthO c.S.l i).kind := s5
  unfold rcS
  by_cases hz : c.left = 0
  · have hw : waitsB (st.om oc) = false := by unfold waitsB; rw [← hleft, hz]; rfl
    rw [if_pos hz]
    refine ⟨fun k hk => ?_, rfl, fun k _ => rfl, fun e => absurd e (by rw [hw]; decide), fun _ => ⟨s9.symm, rfl⟩, rfl, rfl, rfl, rfl⟩
    by_cases e : k = i
    · subst e
      rw [hsim.pi]
      unfold comeOm
      rw [hw]
      simp only [Bool.false_eq_true, if_false, upd_same]
      rw [← hsim.self]
      show noP (cancO (st.om oc)) = noP { st.om oc with opn := 0 }
      unfold cancO
      rw [← hleft, hz, Int.add_zero, wrap64_id (by have := q.c0; omega) (by omega)]
    · rw [ofar k hk e]; exact hsim.same k hk e
  · rw [if_neg hz]
    have hp : 0 < (st.om oc).opn := by omega
    by_cases hr : restsB (nthO c.S.l i).kind = true
    · have hw : waitsB (st.om oc) = true := by unfold waitsB; rw [hk', hr]; simpa using hp
      rw [if_pos hr]
      refine ⟨fun k hk => ?_, by simp [RS.stand], fun k e => ?_, fun _ => ⟨?_, rfl⟩, fun e => absurd e (by rw [hw]; decide), rfl, rfl, rfl, rfl⟩
      · simp only [RS.stand]
        rw [nthO_upd il]
        by_cases e : k = i
        · subst e
          rw [if_pos rfl, hsim.pi]
          unfold comeOm
          rw [hw]
          simp only [if_true, upd_same]
          have e1 : wrap64 ((nthO c.S.l k).opn + c.left) = (st.om oc).opn := by rw [← s9, hleft, Int.zero_add]; exact wrap64_id (by omega) (by omega)
          have := hsim.self
          show noP (st.om oc) = { noP (nthO c.S.l k) with opn := wrap64 ((nthO c.S.l k).opn + c.left) }
          rw [← this, e1]
          rfl
        · rw [if_neg e, ofar k hk e]; exact hsim.same k hk e
      · simp only [RS.stand]; rw [nthO_upd il, if_neg e]
      · simp only [RS.stand]; rw [nthO_upd il, if_pos rfl]
    · have hw : waitsB (st.om oc) = false := by
        unfold waitsB; rw [hk']
        cases hx : restsB (nthO c.S.l i).kind
        · simp
        · exact absurd hx hr
      rw [if_neg hr]
      refine ⟨fun k hk => ?_, by simp [RS.setO], fun k e => ?_, fun e => absurd e (by rw [hw]; decide), fun _ => ⟨?_, rfl⟩, rfl, rfl, rfl, rfl⟩
      · simp only [RS.setO]
        rw [nthO_upd il]
        by_cases e : k = i
        · subst e
          rw [if_pos rfl, hsim.pi]
          unfold comeOm
          rw [hw]
          simp only [Bool.false_eq_true, if_false, upd_same]
          have := hsim.self
          show noP (cancO (st.om oc)) = { noP (nthO c.S.l k) with canc := wrap64 ((nthO c.S.l k).canc + c.left) }
          rw [← this, ← s11, hleft]
          rfl
        · rw [if_neg e, ofar k hk e]; exact hsim.same k hk e
      · simp only [RS.setO]; rw [nthO_upd il, if_neg e]
      · simp only [RS.setO]; rw [nthO_upd il, if_pos rfl]; exact s9.symm

/-- the report -/
theorem SimR.report {p : Nat → Nat} {oc i s : Nat} {sym : ByteArray} {R0 : List Rc} {tr0 f0 M : Int} {st : MS} {c : RC} (h : SimR p oc i s sym R0 tr0 f0 st c) (hM : M ≤ 1000000000000000) (q : Qo M (st.om oc)) (o0 : Ord) (e1 : o0.filled = f0) (e2 : o0.canc = (st.om oc).canc) (htr : st.tr ≤ 1000000000) (htr0 : 0 ≤ tr0) :
    rep o0 (comeOm oc st oc) tr0 st.tr = rcV i c := by
  obtain ⟨hsim, hleft, htrl, htp, hday, hbs, hfil, hcnt, hfst, hle, hf0, hf1⟩ := h
  have hself := noP_f hsim.self
  have hk' : (st.om oc).kind = (nthO c.S.l i).kind := hself.2.2.2.2.1
  have q1 := q.o0; have q2 := q.f0; have q3 := q.c0; have q4 := q.e0; have q5 := q.sum; have q6 := q.hi
  have key : ∀ O : Ord, O.filled = (st.om oc).filled → rep o0 O tr0 st.tr = repV c.filled O.opn (wrap64 (O.canc - (st.om oc).canc)) c.first c.count := fun O hO => by
    unfold rep
    rw [hO, e1, e2, wrap64_id (x := (st.om oc).filled - f0) (by omega) (by omega), hfil, hfst, hcnt]
    split
    · rw [if_neg (by omega), wrap64_id (x := tr0 + 1) (by omega) (by omega), wrap64_id (x := st.tr - tr0) (by omega) (by omega)]
    · rw [if_pos (by omega), show st.tr - tr0 = 0 by omega]
  unfold rcV
  by_cases hz : c.left = 0
  · have hw : waitsB (st.om oc) = false := by unfold waitsB; rw [← hleft, hz]; rfl
    rw [if_pos hz]
    have e : comeOm oc st oc = cancO (st.om oc) := by unfold comeOm; rw [hw]; simp [upd_same]
    rw [e, key (cancO (st.om oc)) rfl]
    show repV c.filled 0 (wrap64 (wrap64 ((st.om oc).canc + (st.om oc).opn) - (st.om oc).canc)) c.first c.count = _
    rw [← hleft, hz, Int.add_zero, wrap64_id (x := (st.om oc).canc) (by omega) (by omega), Int.sub_self, wrap64_id (by decide) (by decide)]
  · rw [if_neg hz]
    have hp : 0 < (st.om oc).opn := by omega
    by_cases hr : restsB (nthO c.S.l i).kind = true
    · have hw : waitsB (st.om oc) = true := by unfold waitsB; rw [hk', hr]; simpa using hp
      rw [if_pos hr]
      have e : comeOm oc st oc = { st.om oc with place := wrap64 (st.B.places + 1) } := by unfold comeOm; rw [hw]; simp [upd_same]
      rw [e, key { st.om oc with place := wrap64 (st.B.places + 1) } rfl]
      show repV c.filled (st.om oc).opn (wrap64 ((st.om oc).canc - (st.om oc).canc)) c.first c.count = _
      rw [Int.sub_self, wrap64_id (by decide) (by decide), hleft]
    · have hw : waitsB (st.om oc) = false := by
        unfold waitsB; rw [hk']
        cases hx : restsB (nthO c.S.l i).kind
        · simp
        · exact absurd hx hr
      rw [if_neg hr]
      have e : comeOm oc st oc = cancO (st.om oc) := by unfold comeOm; rw [hw]; simp [upd_same]
      rw [e, key (cancO (st.om oc)) rfl]
      show repV c.filled 0 (wrap64 (wrap64 ((st.om oc).canc + (st.om oc).opn) - (st.om oc).canc)) c.first c.count = _
      rw [wrap64_id (x := (st.om oc).canc + (st.om oc).opn) (by omega) (by omega), show (st.om oc).canc + (st.om oc).opn - (st.om oc).canc = (st.om oc).opn by omega, wrap64_id (by omega) (by omega), hleft]

end Go.Proofs.YtigaphnafnpfnaaGreatDoor

set_option linter.unusedVariables false
set_option linter.unusedSimpArgs false
/- The program's venue and the document's state: the same. Without memory. -/
namespace Go.Proofs.YtigaphnafnpfnaaGreatDoor
open Go.RowKit

/-- how much may have been entered after so many acts -/
def mN (N : Nat) : Int := 1000000 * ((N : Int) + 1)

structure SimV (p : Nat → Nat) (V : Ven) (S : RS) (N : Nat) : Prop where
  gw : GW V (mN N)
  nb : V.nb = S.sy.length
  sym : ∀ i, i < V.nb → S.sy[i]? = some (V.B i).sym
  no : V.no = S.l.length
  oid : ∀ k, k < S.l.length → V.oid (nthO S.l k).id = some (p k)
  oid' : ∀ id b, V.oid id = some b → ∃ k, k < S.l.length ∧ (nthO S.l k).id = id ∧ p k = b
  inj : ∀ a b, a < S.l.length → b < S.l.length → p a = p b → a = b
  same : ∀ k, k < S.l.length → noP (V.om (p k)) = noP (nthO S.l k)
  place : ∀ a b, a < S.l.length → b < S.l.length → (nthO S.l a).sym = (nthO S.l b).sym → 0 < (nthO S.l a).opn → 0 < (nthO S.l b).opn → ((V.om (p a)).place < (V.om (p b)).place ↔ (nthO S.l a).place < (nthO S.l b).place)
  dist : ∀ a b, a < S.l.length → b < S.l.length → a ≠ b → (nthO S.l a).sym = (nthO S.l b).sym → 0 < (nthO S.l a).opn → 0 < (nthO S.l b).opn → (nthO S.l a).place ≠ (nthO S.l b).place
  plB : ∀ k, k < S.l.length → 0 < (nthO S.l k).opn → ∀ i, i < V.nb → (V.B i).sym = (nthO S.l k).sym → (V.om (p k)).place ≤ (V.B i).places
  plS : ∀ k, k < S.l.length → 0 < (nthO S.l k).opn → (nthO S.l k).place ≤ S.places
  pbN : ∀ i, i < V.nb → 0 ≤ (V.B i).places ∧ (V.B i).places ≤ N
  psN : 0 ≤ S.places ∧ S.places ≤ N
  tr : V.lg.tr = S.t
  day : V.lg.day = S.day
  trN : V.lg.tr.length ≤ 300 * N
  tpN : V.lg.tp.length ≤ 300 * N
  naN : V.lg.na ≤ N
  no200 : V.no ≤ 200
  nb6 : V.nb ≤ 6
  ids : ∀ k, k < S.l.length → numB (nthO S.l k).id = true

section
variable {p : Nat → Nat} {V : Ven} {S : RS} {N : Nat}

theorem SimV.vl (h : SimV p V S N) (x : Nat) : VL V x ↔ ∃ k, k < S.l.length ∧ p k = x := by
  constructor
  · rintro ⟨id, hx⟩
    obtain ⟨k, hk, _, e⟩ := h.oid' id x hx
    exact ⟨k, hk, e⟩
  · rintro ⟨k, hk, rfl⟩
    exact ⟨_, h.oid k hk⟩
theorem SimV.opn (h : SimV p V S N) {k : Nat} (hk : k < S.l.length) : 0 ≤ (nthO S.l k).opn ∧ (nthO S.l k).opn ≤ mN N := by
  have q := h.gw.q (p k) ((h.vl _).2 ⟨k, hk, rfl⟩)
  have e := (noP_f (h.same k hk)).2.2.2.2.2.2.2.2.1
  rw [← e]
  have := q.o0; have := q.f0; have := q.c0; have := q.e0; have := q.sum; have := q.hi
  omega
theorem SimV.side (h : SimV p V S N) {k : Nat} (hk : k < S.l.length) : (nthO S.l k).side = 0 ∨ (nthO S.l k).side = 1 := by
  have e := (noP_f (h.same k hk)).2.2.2.1
  rw [← e]
  exact h.gw.side (p k) ((h.vl _).2 ⟨k, hk, rfl⟩)

/-- a side has no more orders than the venue -/
theorem SimV.count (h : SimV p V S N) {i s : Nat} (hi : i < V.nb) (hs : s < 2) : (V.B i).n s ≤ V.no := by
  have hm : ∀ k, k < (V.B i).n s → ∃ j, j < S.l.length ∧ p j = (V.B i).h s k := fun k hk => (h.vl _).1 ((((h.gw.gb i hi).mem s hs _).1 ⟨k, hk, rfl⟩).1)
  rw [h.no]
  have hj : ∃ f : Nat → Nat, ∀ k, k < (V.B i).n s → f k < S.l.length ∧ p (f k) = (V.B i).h s k := by
    refine ⟨fun k => if hk : k < (V.B i).n s then (hm k hk).choose else 0, fun k hk => ?_⟩
    dsimp only
    rw [dif_pos hk]
    exact (hm k hk).choose_spec
  obtain ⟨f, hf⟩ := hj
  refine pigeon S.l.length _ f (fun a b ha hb e => ?_) (fun k hk => (hf k hk).1)
  have := (hf a ha).2
  rw [e, (hf b hb).2] at this
  exact (h.gw.gb i hi).inj s hs a b ha hb this.symm
end

theorem GW.mono {V : Ven} {M M' : Int} (h : GW V M) (hm : M ≤ M') : GW V M' := ⟨h.gb, h.sinj, fun x hx => (h.q x hx).mono hm, h.sym, h.side⟩
theorem mN_le {N N' : Nat} (h : N ≤ N') : mN N ≤ mN N' := by unfold mN; omega

theorem matchF_places {oc s : Nat} : ∀ (f : Nat) (st : MS), (matchF oc s f st).B.places = st.B.places := by
  intro f
  induction f with
  | zero => intro st; rfl
  | succ f ih =>
    intro st
    rw [matchF]
    split
    · rfl
    · rw [ih]
      unfold mstep
      split
      · rfl
      · simp only [tradeB]
        split <;> rfl

theorem comeB_places (oc t g cap' : Nat) (st : MS) : (comeB oc t g cap' st).places = if waitsB (st.om oc) then wrap64 (st.B.places + 1) else st.B.places := by
  unfold comeB
  split <;> rfl

/-- from the end of a run to the whole venue -/
theorem SimV.ofCome {p : Nat → Nat} {V V' : Ven} {N : Nat} {oc i s t g cap' ib : Nat} {st : MS} {c : RC} {R0 : List Rc} {tr0 f0 : Int} (hN : N < 3000000) (hib : ib < V.nb)
    (hr : SimR p oc i s (V.B ib).sym R0 tr0 f0 st c) (q : Qo (mN (N + 1)) (st.om oc))
    (gw : GW V' (mN (N + 1))) (hnb : V'.nb = V.nb) (hB : V'.B = upd V.B ib (comeB oc t g cap' st)) (hom : V'.om = comeOm oc st) (hlg : V'.lg = comeG oc st)
    (hBs : ∀ j, (V'.B j).sym = (V.B j).sym) (hpb : st.B.places = (V.B ib).places) (pbN : ∀ i, i < V.nb → 0 ≤ (V.B i).places ∧ (V.B i).places ≤ N)
    (hnbS : V.nb = c.S.sy.length) (hsyS : ∀ i, i < V.nb → c.S.sy[i]? = some (V.B i).sym) (hno : V'.no = c.S.l.length) (hoid : ∀ k, k < c.S.l.length → V'.oid (nthO c.S.l k).id = some (p k)) (hoid' : ∀ id b, V'.oid id = some b → ∃ k, k < c.S.l.length ∧ (nthO c.S.l k).id = id ∧ p k = b)
    (plB : ∀ k, k < c.S.l.length → k ≠ i → 0 < (nthO c.S.l k).opn → ∀ j, j < V.nb → (V.B j).sym = (nthO c.S.l k).sym → (st.om (p k)).place ≤ (V.B j).places)
    (plS : ∀ k, k < c.S.l.length → k ≠ i → 0 < (nthO c.S.l k).opn → (nthO c.S.l k).place ≤ c.S.places) (psN : 0 ≤ c.S.places ∧ c.S.places ≤ N)
    (trN : st.lg.tr.length ≤ 300 * (N + 1)) (tpN : st.lg.tp.length ≤ 300 * (N + 1)) (naN : st.lg.na ≤ N + 1) (no200 : V'.no ≤ 200) (hn6 : V.nb ≤ 6) (hids : ∀ k, k < c.S.l.length → numB (nthO c.S.l k).id = true) : SimV p V' (rcS i c) (N + 1) := by
  have hM : mN (N + 1) ≤ 1000000000000000 := by unfold mN; omega
  obtain ⟨f1, f2, f3, f4, f5, f6, f7, f8, f9⟩ := hr.fin hM q
  have hsim := hr.sim
  have il := hsim.il
  have pni : ∀ a, a < c.S.l.length → a ≠ i → p a ≠ oc := fun a ha e e2 => e (hsim.inj a i ha il (by rw [e2, hsim.pi]))
  have ofar : ∀ k, k < c.S.l.length → k ≠ i → comeOm oc st (p k) = st.om (p k) := fun k hk e => by
    unfold comeOm
    split <;> exact upd_other _ _ (pni k hk e)
  have idk : ∀ k, k < c.S.l.length → (nthO (rcS i c).l k).id = (nthO c.S.l k).id := fun k hk => by
    by_cases e : k = i
    · subst e
      have a := (noP_f (f1 k hk)).1
      have b := (noP_f hsim.self).1
      simp only at b
      rw [← a, ← b, hsim.pi, comeOm_id]
    · rw [f3 k e]
  have symi : (nthO (rcS i c).l i).sym = (V.B ib).sym := by
    have a := (noP_f (f1 i il)).2.2.1
    have b := (noP_f hsim.self).2.2.1
    simp only at b
    rw [← a, hsim.pi, ← hsim.osym, ← b]
    unfold comeOm
    split <;> rw [upd_same]
    rfl
  have wb : wrap64 ((V.B ib).places + 1) = (V.B ib).places + 1 := wrap64_id (by have := pbN ib hib; omega) (by have := pbN ib hib; omega)
  have ws : wrap64 (c.S.places + 1) = c.S.places + 1 := wrap64_id (by omega) (by omega)
  have plc : ∀ j, (V'.B j).places = if j = ib ∧ waitsB (st.om oc) = true then (V.B ib).places + 1 else (V.B j).places := fun j => by
    rw [hB]
    by_cases e : j = ib
    · subst e
      rw [upd_same, comeB_places, hpb]
      split
      · rename_i hw; rw [if_pos ⟨rfl, hw⟩, wb]
      · rename_i hw; rw [if_neg (fun h => hw h.2)]
    · rw [upd_other _ _ e, if_neg (fun h => e h.1)]
  have opni : 0 < (nthO (rcS i c).l i).opn → waitsB (st.om oc) = true := fun h0 => by
    cases hw : waitsB (st.om oc)
    · have := (f5 hw).1; omega
    · rfl
  have placei : waitsB (st.om oc) = true → (comeOm oc st oc).place = (V.B ib).places + 1 := fun hw => by
    unfold comeOm
    rw [if_pos hw, upd_same]
    show wrap64 (st.B.places + 1) = _
    rw [hpb, wb]
  have oth : ∀ k, k < c.S.l.length → k ≠ i → 0 < (nthO c.S.l k).opn → (nthO c.S.l k).sym = (V.B ib).sym → (st.om (p k)).place ≤ (V.B ib).places ∧ (nthO c.S.l k).place ≤ c.S.places := fun k hk e h0 hsy => ⟨plB k hk e h0 ib hib hsy.symm, plS k hk e h0⟩
  refine ⟨gw, ?_, ?_, ?_, ?_, ?_, ?_, ?_, ?_, ?_, ?_, ?_, ?_, ?_, ?_, ?_, ?_, ?_, ?_, ?_, by rw [hnb]; exact hn6, fun k hk => by rw [f2] at hk; rw [idk k hk]; exact hids k hk⟩
  · rw [hnb, f9]; exact hnbS
  · intro j hj; rw [f9, hBs j]; exact hsyS j (by omega)
  · rw [hno, f2]
  · intro k hk; rw [f2] at hk; rw [idk k hk]; exact hoid k hk
  · intro id b hb
    obtain ⟨k, hk, e1, e2⟩ := hoid' id b hb
    exact ⟨k, by rw [f2]; exact hk, by rw [idk k hk]; exact e1, e2⟩
  · intro a b ha hb e; rw [f2] at ha hb; exact hsim.inj a b ha hb e
  · intro k hk; rw [f2] at hk; rw [hom]; exact f1 k hk
  · intro a b ha hb hsy h1 h2
    rw [f2] at ha hb
    rw [hom]
    by_cases ea : a = i <;> by_cases eb : b = i
    · rw [ea, eb]; exact ⟨fun h => by omega, fun h => by omega⟩
    · subst ea
      have hw := opni h1
      rw [f3 b eb] at hsy h2 ⊢
      obtain ⟨o1, o2⟩ := oth b hb eb h2 (by rw [← hsy]; exact symi)
      rw [hsim.pi, placei hw, ofar b hb eb, (f4 hw).1, ws]
      omega
    · subst eb
      have hw := opni h2
      rw [f3 a ea] at hsy h1 ⊢
      obtain ⟨o1, o2⟩ := oth a ha ea h1 (by rw [hsy]; exact symi)
      rw [hsim.pi, placei hw, ofar a ha ea, (f4 hw).1, ws]
      omega
    · rw [f3 a ea, f3 b eb] at hsy ⊢
      rw [f3 a ea] at h1
      rw [f3 b eb] at h2
      rw [ofar a ha ea, ofar b hb eb]
      exact hsim.place a b ha hb ea eb hsy h1 h2
  · intro a b ha hb hab hsy h1 h2
    rw [f2] at ha hb
    by_cases ea : a = i <;> by_cases eb : b = i
    · omega
    · subst ea
      have hw := opni h1
      rw [f3 b eb] at hsy h2 ⊢
      obtain ⟨o1, o2⟩ := oth b hb eb h2 (by rw [← hsy]; exact symi)
      rw [(f4 hw).1, ws]
      omega
    · subst eb
      have hw := opni h2
      rw [f3 a ea] at hsy h1 ⊢
      obtain ⟨o1, o2⟩ := oth a ha ea h1 (by rw [hsy]; exact symi)
      rw [(f4 hw).1, ws]
      omega
    · rw [f3 a ea, f3 b eb] at hsy ⊢
      rw [f3 a ea] at h1
      rw [f3 b eb] at h2
      exact hsim.dist a b ha hb ea eb hab hsy h1 h2
  · intro k hk h0 j hj hsy
    rw [f2] at hk
    rw [hBs j] at hsy
    rw [hom, plc j]
    by_cases e : k = i
    · subst e
      have hw := opni h0
      have ej : j = ib := gw.sinj j ib hj (by rw [hnb]; exact hib) (by rw [hBs j, hBs ib, hsy]; exact symi)
      rw [hsim.pi, placei hw, if_pos ⟨ej, hw⟩]
      omega
    · rw [f3 k e] at h0 hsy
      rw [ofar k hk e]
      have := plB k hk e h0 j (by omega) hsy
      split
      · rename_i hx; rw [hx.1] at this; omega
      · exact this
  · intro k hk h0
    rw [f2] at hk
    have hp : c.S.places ≤ (rcS i c).places := by
      cases hw : waitsB (st.om oc)
      · rw [(f5 hw).2]; omega
      · rw [(f4 hw).2, ws]; omega
    by_cases e : k = i
    · subst e
      have hw := opni h0
      rw [(f4 hw).1, (f4 hw).2]; omega
    · rw [f3 k e] at h0 ⊢
      have := plS k hk e h0
      omega
  · intro j hj
    rw [plc j]
    have h1 := pbN j (by omega)
    have h2 := pbN ib hib
    split <;> (push_cast; omega)
  · cases hw : waitsB (st.om oc)
    · rw [(f5 hw).2]; push_cast; omega
    · rw [(f4 hw).2, ws]; push_cast; omega
  · rw [hlg, f6]; exact hr.tr
  · rw [hlg, f8]; exact hr.day
  · rw [hlg]; exact trN
  · rw [hlg]; exact tpN
  · rw [hlg]; exact naN
  · exact no200

end Go.Proofs.YtigaphnafnpfnaaGreatDoor

set_option linter.unusedVariables false
set_option linter.unusedSimpArgs false
/- An order that comes: the program's venue and the document's state stay the same. Without memory. -/
namespace Go.Proofs.YtigaphnafnpfnaaGreatDoor
open Go.RowKit

theorem nthO_snoc_lt {l : List Ord} {o : Ord} {k : Nat} (h : k < l.length) : nthO (l ++ [o]) k = nthO l k := by
  unfold nthO; rw [List.getD_eq_getElem?_getD, List.getD_eq_getElem?_getD, List.getElem?_append_left h]
theorem nthO_snoc_eq {l : List Ord} {o : Ord} : nthO (l ++ [o]) l.length = o := by
  unfold nthO; rw [List.getD_eq_getElem?_getD, List.getElem?_append_right (Nat.le_refl _)]; simp

theorem mF_na (oc s : Nat) (st : MS) : (mF oc s st).lg.na = st.lg.na := (matchF_na oc s _ st).1

theorem SimV.comes {p : Nat → Nat} {V : Ven} {S : RS} {N : Nat} (h : SimV p V S N) {o : Ask} {ib b s t : Nat} (hib : ib < V.nb) (hs : s < 2) (ht : t = 1 - s) (hsym : o.sym = (V.B ib).sym) (hside : o.side = (t : Int)) (hb : ¬ VL V b) :
    SimC (upd p S.l.length b) b S.l.length s (V.B ib) (upd V.om b (newOrd o)) (S.fresh.add o).l (V.B ib).sym := by
  have pb : ∀ k, k < S.l.length → p k ≠ b := fun k hk e => hb ((h.vl b).2 ⟨k, hk, e⟩)
  have om0 : ∀ k, k < S.l.length → upd V.om b (newOrd o) (p k) = V.om (p k) := fun k hk => upd_other _ _ (pb k hk)
  have len0 : (S.fresh.add o).l.length = S.l.length + 1 := by simp [RS.add, RS.fresh]
  have l0 : (S.fresh.add o).l = S.l ++ [newR o] := rfl
  have nl : ∀ k, k < S.l.length → nthO (S.fresh.add o).l k = nthO S.l k := fun k hk => by rw [l0]; exact nthO_snoc_lt hk
  have nn : nthO (S.fresh.add o).l S.l.length = newR o := by rw [l0]; exact nthO_snoc_eq
  have pk : ∀ k, k < S.l.length → upd p S.l.length b k = p k := fun k hk => upd_other _ _ (by omega)
  have pl : upd p S.l.length b S.l.length = b := upd_same _ _ _
  have sides : o.side = 0 ∨ o.side = 1 := by omega
  refine ⟨by omega, pl, fun a c ha hc e => ?_, fun k hk hne => ?_, ?_, fun a c ha hc hna hnc hsy h1 h2 => ?_, fun a c ha hc hna hnc hac hsy h1 h2 => ?_, fun x => ?_, ?_, ?_, fun k hk => ?_, fun k hk => ?_⟩
  · rw [len0] at ha hc
    by_cases ea : a = S.l.length <;> by_cases ec : c = S.l.length
    · omega
    · rw [ea, pl, pk c (by omega)] at e; exact absurd e.symm (pb c (by omega))
    · rw [ec, pl, pk a (by omega)] at e; exact absurd e (pb a (by omega))
    · rw [pk a (by omega), pk c (by omega)] at e; exact h.inj a c (by omega) (by omega) e
  · rw [len0] at hk
    rw [pk k (by omega), om0 k (by omega), nl k (by omega)]
    exact h.same k (by omega)
  · rw [upd_same, nn]; rfl
  · rw [len0] at ha hc
    rw [nl a (by omega), nl c (by omega)] at hsy ⊢
    rw [nl a (by omega)] at h1
    rw [nl c (by omega)] at h2
    rw [pk a (by omega), pk c (by omega), om0 a (by omega), om0 c (by omega)]
    exact h.place a c (by omega) (by omega) hsy h1 h2
  · rw [len0] at ha hc
    rw [nl a (by omega), nl c (by omega)] at hsy ⊢
    rw [nl a (by omega)] at h1
    rw [nl c (by omega)] at h2
    exact h.dist a c (by omega) (by omega) hac hsy h1 h2
  · rw [(h.gw.gb ib hib).mem s hs x, h.vl x, len0]
    constructor
    · rintro ⟨⟨k, hk, rfl⟩, a1, a2, a3⟩
      obtain ⟨_, _, e3, e4, _, _, _, _, e9, _⟩ := noP_f (h.same k hk)
      refine ⟨k, by omega, by omega, pk k hk, ?_, ?_, ?_⟩ <;> rw [nl k hk]
      · rw [← e3]; exact a1
      · rw [← e4]; exact a2
      · rw [← e9]; exact a3
    · rintro ⟨k, hk, hne, e, a1, a2, a3⟩
      have hk' : k < S.l.length := by omega
      obtain ⟨_, _, e3, e4, _, _, _, _, e9, _⟩ := noP_f (h.same k hk')
      rw [nl k hk'] at a1 a2 a3
      rw [pk k hk'] at e
      subst e
      exact ⟨⟨k, hk', rfl⟩, by rw [e3]; exact a1, by rw [e4]; exact a2, by rw [e9]; exact a3⟩
  · rw [nn]; exact hsym
  · rw [nn]
    show o.side = _
    omega
  · rw [len0] at hk
    by_cases e : k = S.l.length
    · rw [e, nn]; exact sides
    · rw [nl k (by omega)]; exact h.side (by omega)
  · rw [len0] at hk
    by_cases e : k = S.l.length
    · rw [e, nn]; exact Int.le_refl _
    · rw [nl k (by omega)]; exact (h.opn (by omega)).1

theorem SimV.enter {p : Nat → Nat} {V : Ven} {S : RS} {N : Nat} (h : SimV p V S N) (hN : N < 2900000) {o : Ask} {ib b s t g cap' : Nat} {lm' : Lm} (hib : ib < V.nb) (hs : s < 2) (ht : t = 1 - s) (hsym : o.sym = (V.B ib).sym) (hside : o.side = (t : Int)) (hq1 : 1 ≤ o.qty) (hq2 : o.qty ≤ 1000000) (hfree : V.oid o.id = none) (hb : ¬ VL V b) (h200 : V.no < 200) (hidn : numB o.id = true) :
    ∃ c' f, Ends S.l.length f ⟨S.fresh.add o, o.qty, 0, 0, 0⟩ c' ∧ f ≤ 201 ∧ SimV (upd p S.l.length b) (V.enter ib b s t g cap' o lm') (rcS S.l.length c') (N + 1) ∧ rep (newOrd o) ((V.enter ib b s t g cap' o lm').om b) V.tr (V.enter ib b s t g cap' o lm').tr = rcV S.l.length c' ∧ (V.enter ib b s t g cap' o lm').lg.tp = recs V.lg.tp (rcS S.l.length c').told ∧ (rcS S.l.length c').told.length ≤ 201 := by
  have hM : mN (N + 1) ≤ 1000000000000000 := by unfold mN; omega
  have hmN : 1000000 ≤ mN (N + 1) := by unfold mN; omega
  obtain ⟨gw', run, iv, hBs, hVL, gi⟩ := (h.gw.mono (mN_le (Nat.le_add_right N 1))).enter (b := b) (g := g) (cap' := cap') (lm' := lm') hM hib hs ht hsym hside (by omega) (by omega) hfree hb
  obtain ⟨st0, hst0⟩ : ∃ st0 : MS, st0 = ⟨V.B ib, upd V.om b (newOrd o), V.lg.opened o.id⟩ := ⟨_, rfl⟩
  rw [← hst0] at run iv
  have pb : ∀ k, k < S.l.length → p k ≠ b := fun k hk e => hb ((h.vl b).2 ⟨k, hk, e⟩)
  have om0 : ∀ k, k < S.l.length → upd V.om b (newOrd o) (p k) = V.om (p k) := fun k hk => upd_other _ _ (pb k hk)
  have len0 : (S.fresh.add o).l.length = S.l.length + 1 := by simp [RS.add, RS.fresh]
  have l0 : (S.fresh.add o).l = S.l ++ [newR o] := rfl
  have nl : ∀ k, k < S.l.length → nthO (S.fresh.add o).l k = nthO S.l k := fun k hk => by rw [l0]; exact nthO_snoc_lt hk
  have nn : nthO (S.fresh.add o).l S.l.length = newR o := by rw [l0]; exact nthO_snoc_eq
  have pk : ∀ k, k < S.l.length → upd p S.l.length b k = p k := fun k hk => upd_other _ _ (by omega)
  have pl : upd p S.l.length b S.l.length = b := upd_same _ _ _
  have sides : o.side = 0 ∨ o.side = 1 := by omega
  have simc := h.comes hib hs ht hsym hside hb
  have hcs := h.count hib hs
  have hmu : mu b s st0 ≤ 201 := by
    rw [hst0]
    unfold mu
    simp only
    split <;> omega
  have hR : SimR (upd p S.l.length b) b S.l.length s (V.B ib).sym V.lg.tp V.tr 0 st0 ⟨S.fresh.add o, o.qty, 0, 0, 0⟩ := by
    rw [hst0]
    refine ⟨simc, ?_, h.tr, rfl, h.day, rfl, ?_, ?_, ?_, Int.le_refl _, Int.le_refl _, by decide⟩
    · simp only [upd_same]; rfl
    · simp only [upd_same]; rfl
    · show (0 : Int) = MS.tr ⟨V.B ib, upd V.om b (newOrd o), V.lg.opened o.id⟩ - V.tr
      unfold MS.tr Ven.tr
      show (0 : Int) = (V.lg.tr.length : Int) - V.lg.tr.length
      omega
    · show (0 : Int) = if MS.tr ⟨V.B ib, upd V.om b (newOrd o), V.lg.opened o.id⟩ = V.tr then 0 else V.tr + 1
      exact (if_pos (show MS.tr ⟨V.B ib, upd V.om b (newOrd o), V.lg.opened o.id⟩ = V.tr from rfl)).symm
  have hqx : ∀ x, (x = b ∨ MemS st0 s x) → Qo (mN (N + 1)) (st0.om x) := fun x hx => by
    rw [hst0] at hx ⊢
    rcases hx with e | e
    · simp only [e, upd_same]; exact newOrd_q (by omega) (by omega)
    · have hvx := (((h.gw.gb ib hib).mem s hs x).1 e).1
      simp only
      rw [upd_other _ _ (fun e2 => hb (by rw [← e2]; exact hvx))]
      exact (h.gw.q x hvx).mono (mN_le (Nat.le_add_right N 1))
  have hheap : HeapOK (ltB st0.om) (st0.B.n s) (st0.B.h s) := by rw [hst0]; exact gi.heap s hs
  have htrN := h.trN
  have htpN := h.tpN
  have hno2 := h.no200
  have hst0tr : st0.tr = V.tr := by rw [hst0]; rfl
  have hVtr : V.tr = (V.lg.tr.length : Int) := rfl
  obtain ⟨c', he, hR', hsy, hpl, hln, hpc, htl, hol⟩ := SimR.ends hM hs (by rw [hVtr]; omega) (mu b s st0) st0 _ hR iv hheap hqx (Nat.le_refl _) (by rw [hst0tr, hVtr]; omega)
  change SimR _ _ _ _ _ _ _ _ (mF b s st0) c' at hR'
  have hsy' : c'.S.sy = S.sy := hsy
  have hpl' : c'.S.places = S.places := hpl
  rw [len0] at hln
  have q := run.q b (.inl rfl)
  have hlen := mF_len (oc := b) (s := s) (st := st0)
  have e0 : st0.lg.tr.length = V.lg.tr.length ∧ st0.lg.tp.length = V.lg.tp.length ∧ st0.B.n s = (V.B ib).n s ∧ st0.lg.na = V.lg.na + 1 := by rw [hst0]; exact ⟨rfl, rfl, rfl, rfl⟩
  obtain ⟨e01, e02, e03, e04⟩ := e0
  rw [e01, e02, e03] at hlen
  -- what the run keeps of the orders
  have old : ∀ k, k < S.l.length → (nthO c'.S.l k).id = (nthO S.l k).id ∧ (nthO c'.S.l k).sym = (nthO S.l k).sym ∧ ((mF b s st0).om (p k)).place = (V.om (p k)).place ∧ (0 < (nthO c'.S.l k).opn → 0 < (nthO S.l k).opn) ∧ (nthO c'.S.l k).place = (nthO S.l k).place := fun k hk => by
    obtain ⟨f1, _, f3, _, _, _, _, _, f9, _⟩ := noP_f (hR'.sim.same k (by rw [hln]; omega) (by omega))
    rw [pk k hk] at f1 f3 f9
    obtain ⟨g1, _, g3, _, _, _, _, g8, _⟩ := run.stat (p k)
    have e1 : st0.om (p k) = V.om (p k) := by rw [hst0]; exact om0 k hk
    rw [e1] at g1 g3 g8
    obtain ⟨k1, _, k3, _, _, _, _, _, k9, _⟩ := noP_f (h.same k hk)
    refine ⟨by rw [← f1, g1, k1], by rw [← f3, g3, k3], g8, fun h0 => ?_, by rw [hpc k]; exact congrArg Ord.place (nl k hk)⟩
    rw [← f9] at h0
    rw [← k9]
    by_cases hm : MemS st0 s (p k)
    · rw [hst0] at hm
      exact (((h.gw.gb ib hib).mem s hs _).1 hm).2.2.2
    · rw [run.far _ (pb k hk) hm, e1] at h0
      exact h0
  have new : (nthO c'.S.l S.l.length).id = o.id := by
    have f1 := (noP_f hR'.sim.self).1
    simp only at f1
    rw [← f1, (run.stat b).1, hst0]
    simp only [upd_same]
    rfl
  refine ⟨c', mu b s st0, he, hmu, ?_, ?_, ?_, ?_⟩
  · refine SimV.ofCome (V := V) (g := g) (cap' := cap') (t := t) (by omega) hib hR' q gw' rfl (by rw [hst0]; rfl) (by rw [hst0]; rfl) (by rw [hst0]; rfl) hBs (by unfold mF; rw [matchF_places, hst0]) h.pbN (by rw [hsy']; exact h.nb) (by rw [hsy']; exact h.sym) (by rw [hln, ← h.no]; rfl) (fun k hk => ?_) (fun id b2 hb2 => ?_) (fun k hk hne h0 j hj hsj => ?_) (fun k hk hne h0 => ?_) (by rw [hpl']; exact h.psN) (by omega) (by omega) (by rw [mF_na, e04]; have := h.naN; omega) (by show V.no + 1 ≤ 200; omega) h.nb6 (fun k hk => ?_)
    · rw [hln] at hk
      show (if (nthO c'.S.l k).id = o.id then some b else V.oid (nthO c'.S.l k).id) = _
      by_cases e : k = S.l.length
      · rw [e, new, if_pos rfl, pl]
      · have hk' : k < S.l.length := by omega
        rw [(old k hk').1, pk k hk']
        have := h.oid k hk'
        rw [if_neg (fun e2 => by rw [e2, hfree] at this; simp at this)]
        exact this
    · have hb3 : (if id = o.id then some b else V.oid id) = some b2 := hb2
      by_cases e : id = o.id
      · rw [if_pos e] at hb3
        refine ⟨S.l.length, by rw [hln]; omega, by rw [new, e], ?_⟩
        rw [pl]; exact Option.some.inj hb3
      · rw [if_neg e] at hb3
        obtain ⟨k, hk, e1, e2⟩ := h.oid' id b2 hb3
        exact ⟨k, by rw [hln]; omega, by rw [(old k hk).1]; exact e1, by rw [pk k hk]; exact e2⟩
    · rw [hln] at hk
      have hk' : k < S.l.length := by omega
      obtain ⟨_, o2, o3, o4, _⟩ := old k hk'
      rw [pk k hk', o3]
      rw [o2] at hsj
      exact h.plB k hk' (o4 h0) j hj hsj
    · rw [hln] at hk
      have hk' : k < S.l.length := by omega
      obtain ⟨_, _, _, o4, o5⟩ := old k hk'
      rw [o5, hpl']
      exact h.plS k hk' (o4 h0)
    · rw [hln] at hk
      by_cases e : k = S.l.length
      · rw [e, new]; exact hidn
      · rw [(old k (by omega)).1]; exact h.ids k (by omega)
  · have hrep := hR'.report hM q (newOrd o) rfl (by rw [run.canc, hst0]; simp only [upd_same]) (by unfold MS.tr; omega) (by rw [hVtr]; omega)
    rw [← hrep]
    show rep (newOrd o) (comeOm b (mF b s ⟨V.B ib, upd V.om b (newOrd o), V.lg.opened o.id⟩) b) V.tr ((comeG b (mF b s ⟨V.B ib, upd V.om b (newOrd o), V.lg.opened o.id⟩)).tr.length : Int) = _
    rw [← hst0]
    rfl
  · obtain ⟨_, _, _, _, _, _, f7, _⟩ := hR'.fin hM q
    rw [f7, ← hR'.tp]
    show (comeG b (mF b s ⟨V.B ib, upd V.om b (newOrd o), V.lg.opened o.id⟩)).tp = _
    rw [← hst0]
    rfl
  · obtain ⟨_, _, _, _, _, _, f7, _⟩ := hR'.fin hM q
    rw [f7]
    have : (S.fresh.add o).told.length = 0 := rfl
    have hol' : c'.S.told.length ≤ (S.fresh.add o).told.length + mu b s st0 := hol
    omega

end Go.Proofs.YtigaphnafnpfnaaGreatDoor

set_option linter.unusedVariables false
set_option linter.unusedSimpArgs false
/- The document's acts: a symbol is listed. -/
namespace Go.Proofs.YtigaphnafnpfnaaGreatDoor
open Go.RowKit
attribute [local go_sem ↓] Go.wp_at_zero Go.wp_at_succ

def listE (sy : List ByteArray) (s : ByteArray) : Int := if nameB s = false then 3 else if symB sy s = true then 2 else if 6 ≤ sy.length then 7 else 0

theorem list_cases (sy : List ByteArray) (s : ByteArray) : (nameB s = false ∧ listE sy s = 3) ∨ (nameB s = true ∧ symB sy s = true ∧ listE sy s = 2) ∨ (nameB s = true ∧ symB sy s = false ∧ decide ((sy.length : Int) ≥ 6) = true ∧ listE sy s = 7) ∨ (nameB s = true ∧ symB sy s = false ∧ decide ((sy.length : Int) ≥ 6) = false ∧ listE sy s = 0) := by
  unfold listE
  cases h1 : nameB s
  · left; simp
  · cases h2 : symB sy s
    · by_cases h3 : 6 ≤ sy.length
      · right; right; left; refine ⟨rfl, rfl, ?_, ?_⟩
        · simp; omega
        · simp [h3]
      · right; right; right; refine ⟨rfl, rfl, ?_, ?_⟩
        · simp; omega
        · simp [h3]
    · right; left; simp

theorem info9 : (Tryz.prog.info? 9).map (fun i => (i.zero.map (fun z => z.cells.size), i.size, i.bytes)) = some (some 1, 1, 16) := by kernel_rfl
theorem info9_parts : ∃ i z, Tryz.prog.info? 9 = some i ∧ i.zero = some z ∧ i.size = 1 ∧ i.bytes = 16 ∧ z.cells.size = 1 := by
  have h := info9
  cases hi : Tryz.prog.info? 9 with
  | none => rw [hi] at h; simp at h
  | some i =>
    rw [hi] at h
    simp at h
    obtain ⟨⟨z, hz, hs⟩, h2, h3⟩ := h
    exact ⟨i, z, rfl, hz, h2, h3, hs⟩

def RS.lists (S : RS) (s : ByteArray) : RS := { S with sy := S.sy ++ [s] }

theorem StV.yGrown {w1 w2 : World} {base sb n H g cap : Nat} {S : RS} {m : SM} {s : ByteArray} (h : StV w1 base sb S m) (hn : S.sy.length = n) (hown : w2.ownsRow base 9 1 (.slice (some ⟨g, 0, none⟩) (n + 1) cap) (n + 1) (S.sy.map Value.string ++ [.string s])) (hgrow : w1.grownBy w2 m.yv.ownBlock) (hat : m.yv.ownBlock = some g ∨ g = H) (hH : w1.heap.size = H) :
    StN base sb (S.lists s) m w1 (w2.setCell ⟨sb, 0, none⟩ (.slice (some ⟨g, 0, none⟩) (n + 1) cap)) := by
  have hne : m.yv.ownBlock ≠ some sb := fun e => by obtain ⟨cs, hc⟩ := own_blk h.yrow e; exact Blk.ne hc h.blk (by decide) rfl
  have hb2 : Blk w2 sb _ 207 := (hgrow.block sb h.blk.lt (fun e => hne e.symm)).trans h.blk
  have k1 : Chg (fun b => m.yv.ownBlock = some b) w1 w2 := (Chg.refl _ w1).grown hgrow (fun k e => .inl e)
  have k2 : Chg (fun b => b = sb) w2 (w2.setCell ⟨sb, 0, none⟩ (.slice (some ⟨g, 0, none⟩) (n + 1) cap)) := (Chg.refl (fun b => b = sb) w2).setCell (p := ⟨sb, 0, none⟩) (.inl rfl) _
  have keep2 : ∀ {e size n' : Nat} {v : Value} {xs : List Value}, w1.ownsRow base e size v n' xs → e ≠ 9 → e ≠ 207 → (w2.setCell ⟨sb, 0, none⟩ (.slice (some ⟨g, 0, none⟩) (n + 1) cap)).ownsRow base e size v n' xs := fun {e size n' v xs} r h1 h2 => by
    have r1 := own_typ (t := 0) r k1 (fun b hb => by obtain ⟨cs, hc⟩ := own_blk h.yrow hb; exact ⟨cs, _, hc, fun x => h1 x.symm⟩)
    exact own_typ (t := 0) r1 k2 (fun b hb => by subst hb; exact ⟨_, _, hb2, fun x => h2 x.symm⟩)
  refine ⟨{ m with yv := .slice (some ⟨g, 0, none⟩) (n + 1) cap }, ⟨h.ge, hb2.set 0 _, ?_, keep2 h.lrow (by decide) (by decide), keep2 h.trow (by decide) (by decide), keep2 h.orow (by decide) (by decide)⟩, ?_, ?_⟩
  · simp only [RS.lists, List.length_append, List.length_cons, List.length_nil, hn, List.map_append, List.map_cons, List.map_nil]
    exact own_typ (t := 0) hown k2 (fun b hb => by subst hb; exact ⟨_, _, hb2, by decide⟩)
  · rintro b (rfl | hb | hb | hb | hb)
    · exact .inl (.inl rfl)
    · simp only [Value.ownBlock, Option.some.injEq] at hb
      rcases hat with e | e
      · exact .inl (.inr (.inl (by rw [e, hb])))
      · right; omega
    · exact .inl (.inr (.inr (.inl hb)))
    · exact .inl (.inr (.inr (.inr (.inl hb))))
    · exact .inl (.inr (.inr (.inr (.inr hb))))
  · exact (k1.mono (fun b hb => .inr (.inl hb))).trans (k2.mono (fun b hb => .inl hb))

theorem news1 (w : World) (s : ByteArray) : ∀ j u, ([.string s] : List Value)[j]? = some u → (w.alloc (.cells #[.string s] 9)).cell? (Addr.add ⟨w.heap.size, 0, none⟩ j) = some u := by
  intro j u hj
  have hb := Blk.new w #[.string s] 9
  have e : Addr.add ⟨w.heap.size, 0, none⟩ j = ⟨w.heap.size, j, none⟩ := by simp [Addr.add]; omega
  rw [e, hb.cell, ← hj]
  simp

set_option maxRecDepth 100000 in
set_option maxHeartbeats 8000000 in
theorem rdoes_list_err (base sb : Nat) (S : RS) (m : SM) (x : RAct) (w : World) (h : StV w base sb S m) (hx : x.kind = 108) (hsz : x.s.size ≤ 1000000000) (hsy : S.sy.length ≤ 1000) (he : listE S.sy x.s ≠ 0) :
    Calls Tryz.prog 138 #[.pointer (some ⟨sb, 0, none⟩), x.val] w fun e w' => e = .returned (.tuple #[repV 0 0 0 0 0, .int .i64 (listE S.sy x.s)]) ∧ StN base sb S.fresh m w w' := by
  have lsb := h.blk.lt
  have v5 : w.cell? ⟨sb, 5, none⟩ = some m.ov := h.blk.cell 5
  have f5 := h.blk.frozen 5
  have sz : sb ≠ w.heap.size := by omega
  have sr : sb ≠ w.heap.size + 1 := by omega
  have sz' := sz.symm
  have sr' := sr.symm
  have lsb1 : sb < w.heap.size + 1 := by omega
  have HNM : Hid (∀ W, Calls Tryz.prog 166 #[.string x.s] W fun e w' => e = .returned (.bool (nameB x.s)) ∧ w' = W) := fun W => rname_any x.s W hsz
  have HSY : Hid (∀ W m', StV W base sb S.fresh m' → Calls Tryz.prog 142 #[.pointer (some ⟨sb, 0, none⟩), .string x.s] W fun e w' => e = .returned (.bool (symB S.sy x.s)) ∧ w' = W) := fun W m' hW => rsymbol_any base sb S.fresh m' x.s W hW hsy
  obtain ⟨ya, yc, hyv⟩ := row_slice h.yrow
  have hc := list_cases S.sy x.s
  obtain ⟨n, hn⟩ : ∃ n, S.sy.length = n := ⟨_, rfl⟩
  rw [hn] at hyv hc hsy
  have v0 : w.cell? ⟨sb, 0, none⟩ = some (.slice ya n yc) := by rw [← hyv]; exact h.blk.cell 0
  obtain ⟨E, hE⟩ : ∃ E, listE S.sy x.s = E := ⟨_, rfl⟩
  rw [hE] at he hc ⊢
  obtain ⟨B, hB⟩ : ∃ B, nameB x.s = B := ⟨_, rfl⟩
  obtain ⟨C, hC⟩ : ∃ C, symB S.sy x.s = C := ⟨_, rfl⟩
  rw [hB] at hc HNM
  rw [hC] at hc HSY
  obtain ⟨kind, s, ⟨id, owner, sym, side, okind, price, qty⟩, a, b, c, again⟩ := x
  simp only at hx
  subst hx
  simp only [RAct.val, RAct.cells, Ask.val] at HNM HSY ⊢
  have HS := hide h
  obtain ⟨p1, q1, b1, b0⟩ := h.starts #[.int .u8 108, .string s, .int .i64 id, .int .i64 owner, .string sym, .int .i64 side, .int .i64 okind, .int .i64 price, .int .i64 qty, .int .i64 a, .int .i64 b, .int .i64 c, .bool again]
  obtain ⟨W1, hW1⟩ : ∃ W1, W1 = (((w.setCell ⟨sb, 5, none⟩ (.slice none 0 0)).alloc (.cells #[.int .u8 108, .string s, .int .i64 id, .int .i64 owner, .string sym, .int .i64 side, .int .i64 okind, .int .i64 price, .int .i64 qty, .int .i64 a, .int .i64 b, .int .i64 c, .bool again] 169)).alloc (.cells zero5 87)) := ⟨_, rfl⟩
  rw [← hW1] at p1 q1 b1 b0
  have HC := hide (unhide HSY _ _ p1)
  have HN : Hid (StN base sb S.fresh m w W1) := StN.ofFresh (unhide HS) q1 (StN.refl p1)
  have HB := hide b1
  have HW1 := hide hW1
  have y1 : W1.cell? ⟨w.heap.size, 1, none⟩ = some (.string s) := b0.cell 1
  have y0 : W1.cell? ⟨sb, 0, none⟩ = some (.slice ya n yc) := by rw [← hyv]; exact p1.blk.cell 0
  have l0 : w.heap.size < W1.heap.size := b0.lt
  have l1 : sb < W1.heap.size := p1.blk.lt
  have z0 : W1.cell? ⟨w.heap.size + 1, 0, none⟩ = some (.int .i64 0) := b1.cell 0
  have z1 : W1.cell? ⟨w.heap.size + 1, 1, none⟩ = some (.int .i64 0) := b1.cell 1
  have z2 : W1.cell? ⟨w.heap.size + 1, 2, none⟩ = some (.int .i64 0) := b1.cell 2
  have z3 : W1.cell? ⟨w.heap.size + 1, 3, none⟩ = some (.int .i64 0) := b1.cell 3
  have z4 : W1.cell? ⟨w.heap.size + 1, 4, none⟩ = some (.int .i64 0) := b1.cell 4
  have fz0 := b1.frozen 0
  have fz1 := b1.frozen 1
  have fz2 := b1.frozen 2
  have fz3 := b1.frozen 3
  have fz4 := b1.frozen 4
  simp only [zero5] at HW1
  clear p1 q1 b1 b0 HSY hW1 h hyv hn hB hC hE
  go_enter Tryz.func138, Tryz.ntmps138
  go_wp2_with fail
  rw [← unhide HW1]
  refine (unhide HNM _).mono ?_
  rintro e w3 ⟨rfl, hw3⟩
  rw [hw3]
  clear hw3 w3
  go_wp2_with fail
  refine (unhide HC).mono ?_
  rintro e w3 ⟨rfl, hw3⟩
  rw [hw3]
  clear hw3 w3
  rcases hc with ⟨rfl, rfl⟩ | ⟨rfl, rfl, rfl⟩ | ⟨rfl, rfl, hd, rfl⟩ | ⟨rfl, rfl, hd, rfl⟩
  case inr.inr.inr => exact absurd rfl he
  all_goals
    go_wp2
    refine bodyPost_ret (res138 _ (w.heap.size + 1) _ 0 0 0 0 0 _ rfl rfl ?_) rfl ⟨rfl, ?_⟩
    · exact set5 (unhide HB) _ _ _ _ _
    · exact (unhide HN).off (unhide HB) (by omega) (chg5 _ _ _ _ _)

end Go.Proofs.YtigaphnafnpfnaaGreatDoor

set_option linter.unusedVariables false
set_option linter.unusedSimpArgs false
/- A symbol more, a cancel, a replace that keeps its place: the bridge stays. Without memory. -/
namespace Go.Proofs.YtigaphnafnpfnaaGreatDoor
open Go.RowKit

theorem SimV.turned {p : Nat → Nat} {V V' : Ven} {S S' : RS} {N : Nat} (h : SimV p V S N) (gw : GW V' (mN (N + 1))) (hnb : V'.nb = V.nb) (hBs : ∀ j, (V'.B j).sym = (V.B j).sym) (hpl : ∀ j, (V'.B j).places = (V.B j).places) (hno : V'.no = V.no) (hoid : V'.oid = V.oid)
    (hsy : S'.sy = S.sy) (hlen : S'.l.length = S.l.length) (hps : S'.places = S.places) (ht : S'.t = S.t) (hd : S'.day = S.day) (same : ∀ k, k < S.l.length → noP (V'.om (p k)) = noP (nthO S'.l k))
    (stat : ∀ k, k < S.l.length → (nthO S'.l k).id = (nthO S.l k).id ∧ (nthO S'.l k).sym = (nthO S.l k).sym ∧ (nthO S'.l k).place = (nthO S.l k).place ∧ (0 < (nthO S'.l k).opn → 0 < (nthO S.l k).opn) ∧ (V'.om (p k)).place = (V.om (p k)).place)
    (htr : V'.lg.tr = V.lg.tr) (htp : V'.lg.tp = V.lg.tp) (hdy : V'.lg.day = V.lg.day) (hna : V'.lg.na = V.lg.na + 1) : SimV p V' S' (N + 1) := by
  refine ⟨gw, by rw [hnb, hsy]; exact h.nb, fun i hi => by rw [hsy, hBs i]; exact h.sym i (by omega), by rw [hno, hlen]; exact h.no, fun k hk => ?_, fun id b hb => ?_, fun a b ha hb => h.inj a b (by omega) (by omega), fun k hk => same k (by omega), fun a b ha hb hs h1 h2 => ?_, fun a b ha hb hab hs h1 h2 => ?_, fun k hk h0 i hi hs => ?_, fun k hk h0 => ?_, fun i hi => ?_, ?_, by rw [htr, ht]; exact h.tr, by rw [hdy, hd]; exact h.day, by rw [htr]; have := h.trN; omega, by rw [htp]; have := h.tpN; omega, by rw [hna]; have := h.naN; omega, by rw [hno]; exact h.no200, by rw [hnb]; exact h.nb6, fun k hk => by rw [(stat k (by omega)).1]; exact h.ids k (by omega)⟩
  · rw [hoid, (stat k (by omega)).1]; exact h.oid k (by omega)
  · rw [hoid] at hb
    obtain ⟨k, hk, e1, e2⟩ := h.oid' id b hb
    exact ⟨k, by omega, by rw [(stat k hk).1]; exact e1, e2⟩
  · obtain ⟨_, a2, a3, a4, a5⟩ := stat a (by omega)
    obtain ⟨_, b2, b3, b4, b5⟩ := stat b (by omega)
    rw [a5, b5, a3, b3]
    exact h.place a b (by omega) (by omega) (by rw [← a2, ← b2]; exact hs) (a4 h1) (b4 h2)
  · obtain ⟨_, a2, a3, a4, a5⟩ := stat a (by omega)
    obtain ⟨_, b2, b3, b4, b5⟩ := stat b (by omega)
    rw [a3, b3]
    exact h.dist a b (by omega) (by omega) hab (by rw [← a2, ← b2]; exact hs) (a4 h1) (b4 h2)
  · obtain ⟨_, a2, a3, a4, a5⟩ := stat k (by omega)
    rw [a5, hpl i]
    exact h.plB k (by omega) (a4 h0) i (by omega) (by rw [← hBs i, hs, a2])
  · obtain ⟨_, a2, a3, a4, a5⟩ := stat k (by omega)
    rw [a3, hps]
    exact h.plS k (by omega) (a4 h0)
  · rw [hpl i]
    have := h.pbN i (by omega)
    push_cast; omega
  · rw [hps]
    have := h.psN
    push_cast; omega

theorem SimV.listed {p : Nat → Nat} {V : Ven} {S : RS} {N : Nat} (h : SimV p V S N) {s : ByteArray} {b : Nat} {lm' : Lm} (hfree : ∀ i, i < V.nb → (V.B i).sym ≠ s) (h6 : V.nb < 6) : SimV p (V.listed s b lm') (S.fresh.lists s) (N + 1) := by
  have old : ∀ j, j < V.nb → (V.listed s b lm').B j = V.B j := fun j hj => by
    show upd V.B V.nb (newBk s) j = V.B j
    exact upd_other _ _ (by omega)
  have new : (V.listed s b lm').B V.nb = newBk s := upd_same _ _ _
  have hnb : (V.listed s b lm').nb = V.nb + 1 := rfl
  have hl : (S.fresh.lists s).l = S.l := rfl
  have hsy : (S.fresh.lists s).sy = S.sy ++ [s] := rfl
  refine ⟨(h.gw.mono (mN_le (Nat.le_add_right N 1))).listed hfree, by rw [hnb, hsy, h.nb]; simp, fun i hi => ?_, h.no, h.oid, h.oid', h.inj, h.same, h.place, h.dist, fun k hk h0 i hi hs => ?_, h.plS, fun i hi => ?_, ?_, h.tr, h.day, ?_, ?_, ?_, h.no200, by rw [hnb]; omega, h.ids⟩
  · by_cases e : i < V.nb
    · rw [old i e, hsy, List.getElem?_append_left (by rw [← h.nb]; exact e)]; exact h.sym i e
    · obtain rfl : i = V.nb := by omega
      rw [new, hsy, h.nb, List.getElem?_append_right (Nat.le_refl _)]
      simp [newBk]
  · by_cases e : i < V.nb
    · rw [old i e] at hs ⊢; exact h.plB k hk h0 i e hs
    · obtain rfl : i = V.nb := by omega
      rw [new] at hs
      exfalso
      obtain ⟨j, hj, e2⟩ := h.gw.sym (p k) ((h.vl _).2 ⟨k, hk, rfl⟩)
      have e3 := (noP_f (h.same k hk)).2.2.1
      exact hfree j hj (by rw [← e2, e3]; exact hs.symm)
  · by_cases e : i < V.nb
    · rw [old i e]; have := h.pbN i e; push_cast; omega
    · obtain rfl : i = V.nb := by omega
      rw [new]
      show (0 : Int) ≤ 0 ∧ (0 : Int) ≤ ((N + 1 : Nat) : Int)
      exact ⟨by omega, by omega⟩
  · have := h.psN
    show 0 ≤ S.places ∧ S.places ≤ _
    push_cast; omega
  · have := h.trN
    show V.lg.tr.length ≤ _
    omega
  · have := h.tpN
    show V.lg.tp.length ≤ _
    omega
  · have := h.naN
    show V.lg.na + 1 ≤ _
    omega

/-- the one that is asked for -/
theorem SimV.found {p : Nat → Nat} {V : Ven} {S : RS} {N : Nat} (h : SimV p V S N) (id : Int) : V.oid id = (ordX S.l id).map p := by
  cases hx : ordX S.l id with
  | some k =>
    obtain ⟨h1, h2⟩ := ordX_lt hx
    rw [← h2]
    exact h.oid k h1
  | none =>
    cases hv : V.oid id with
    | none => rfl
    | some b =>
      exfalso
      obtain ⟨k, hk, e1, e2⟩ := h.oid' id b hv
      unfold ordX at hx
      rw [List.findIdx?_eq_none_iff] at hx
      have := hx (nthO S.l k) (List.mem_of_getElem? (nthO_some hk))
      simp [e1] at this

theorem fresh_l (S : RS) : S.fresh.l = S.l := rfl

theorem SimV.cancel {p : Nat → Nat} {V : Ven} {S : RS} {N : Nat} (h : SimV p V S N) (hN : N < 2900000) {i s k j : Nat} {ds : List Back} {lm' : Lm} (hi : i < V.nb) (hs : s < 2) (hk : k < (V.B i).n s) (hj : j < S.l.length) (hpj : p j = (V.B i).h s k) :
    SimV p { V.turn i ((V.B i).leave V.om s k) (upd V.om ((V.B i).h s k) (cancO (V.om ((V.B i).h s k)))) with lg := V.lg.begun.noted ds, lm := lm' } (S.fresh.cancel j) (N + 1) := by
  have hM : mN (N + 1) ≤ 1000000000000000 := by unfold mN; omega
  have hv : VL V ((V.B i).h s k) := (h.vl _).2 ⟨j, hj, hpj⟩
  have q := h.gw.q _ hv
  have g := (h.gw.mono (mN_le (Nat.le_add_right N 1))).leaves (o' := cancO (V.om ((V.B i).h s k))) hi hs hk rfl rfl rfl ((q.mono (mN_le (Nat.le_add_right N 1))).canc hM).1
  have nk : ∀ a, nthO (S.fresh.cancel j).l a = if a = j then { nthO S.l j with canc := wrap64 ((nthO S.l j).canc + (nthO S.l j).opn), opn := 0 } else nthO S.l a := fun a => by
    simp only [RS.cancel, RS.setO, fresh_l]
    exact nthO_upd hj a
  have pne : ∀ a, a < S.l.length → a ≠ j → p a ≠ (V.B i).h s k := fun a ha e e2 => e (h.inj a j ha hj (by rw [e2, hpj]))
  refine h.turned ⟨g.gb, g.sinj, g.q, g.sym, g.side⟩ rfl (fun a => ?_) (fun a => ?_) rfl rfl rfl (by simp [RS.cancel, RS.setO, fresh_l]) rfl rfl rfl (fun a ha => ?_) (fun a ha => ?_) rfl rfl rfl rfl
  · show (upd V.B i _ a).sym = _
    by_cases e : a = i
    · rw [e, upd_same]; rfl
    · rw [upd_other _ _ e]
  · show (upd V.B i _ a).places = _
    by_cases e : a = i
    · rw [e, upd_same]; rfl
    · rw [upd_other _ _ e]
  · show noP (upd V.om ((V.B i).h s k) (cancO (V.om ((V.B i).h s k))) (p a)) = _
    rw [nk a]
    by_cases e : a = j
    · subst e
      rw [hpj, upd_same, if_pos rfl]
      have := h.same a ha
      rw [hpj] at this
      show cancO (noP (V.om ((V.B i).h s k))) = noP _
      rw [this]
      rfl
    · rw [upd_other _ _ (pne a ha e), if_neg e]
      exact h.same a ha
  · show _ ∧ _ ∧ _ ∧ _ ∧ (upd V.om ((V.B i).h s k) (cancO (V.om ((V.B i).h s k))) (p a)).place = _
    rw [nk a]
    by_cases e : a = j
    · subst e
      rw [hpj, upd_same, if_pos rfl]
      exact ⟨rfl, rfl, rfl, fun h => absurd h (by simp), rfl⟩
    · rw [upd_other _ _ (pne a ha e), if_neg e]
      exact ⟨rfl, rfl, rfl, fun h => h, rfl⟩

theorem repO_q {M M' : Int} {o : Ord} (q : Qo M o) (hM : M + 1000000 ≤ M') (hM' : M' ≤ 1000000000000000) {price qty : Int} (h1 : 1 ≤ qty) (h2 : qty ≤ 1000000) : Qo M' (repO o price qty) ∧ (repO o price qty).entered = o.entered + qty - o.opn ∧ wrap64 (wrap64 (o.entered + qty) - o.opn) = o.entered + qty - o.opn := by
  have a := q.sum; have b := q.o0; have c := q.f0; have d := q.c0; have e := q.e0; have f := q.hi
  have w1 : wrap64 (qty - o.opn) = qty - o.opn := wrap64_id (by omega) (by omega)
  have w2 : wrap64 (o.entered + (qty - o.opn)) = o.entered + (qty - o.opn) := wrap64_id (by omega) (by omega)
  have w3 : wrap64 (o.entered + qty) = o.entered + qty := wrap64_id (by omega) (by omega)
  have w4 : wrap64 (o.entered + qty - o.opn) = o.entered + qty - o.opn := wrap64_id (by omega) (by omega)
  have e1 : (repO o price qty).entered = o.entered + qty - o.opn := by show wrap64 (o.entered + wrap64 (qty - o.opn)) = _; rw [w1, w2]; omega
  refine ⟨⟨?_, by show 0 ≤ qty; omega, c, d, e, by rw [e1]; omega⟩, e1, by rw [w3, w4]⟩
  rw [e1]
  show _ = qty + o.filled + o.canc + o.exp
  omega

theorem SimV.keeps {p : Nat → Nat} {V : Ven} {S : RS} {N : Nat} (h : SimV p V S N) (hN : N < 2900000) {i j : Nat} {price qty : Int} {ds : List Back} {lm' : Lm} (hj : j < S.l.length) (hpr : price = (V.om (p j)).price) (h1 : 1 ≤ qty) (h2 : qty ≤ 1000000) (h3 : 0 < (V.om (p j)).opn) :
    SimV p { V.turn i (V.B i) (upd V.om (p j) (repO (V.om (p j)) price qty)) with lg := V.lg.begun.noted ds, lm := lm' } (S.fresh.setO j (repK (nthO S.l j) qty)) (N + 1) := by
  have hM : mN (N + 1) ≤ 1000000000000000 := by unfold mN; omega
  have hMN : mN N + 1000000 ≤ mN (N + 1) := by unfold mN; push_cast; omega
  have hv : VL V (p j) := (h.vl _).2 ⟨j, hj, rfl⟩
  have q := h.gw.q _ hv
  obtain ⟨q1, q2, q3⟩ := repO_q (price := price) q hMN hM h1 h2
  have g := h.gw.keepRank (o' := repO (V.om (p j)) price qty) (mN_le (Nat.le_add_right N 1)) hv rfl rfl hpr rfl ⟨fun _ => h3, fun _ => by show 0 < qty; omega⟩ q1 i
  obtain ⟨e1, e2, e3, e4, e5, e6, e7, e8, e9, e10, e11, e12⟩ := noP_f (h.same j hj)
  have nk : ∀ a, nthO (S.fresh.setO j (repK (nthO S.l j) qty)).l a = if a = j then repK (nthO S.l j) qty else nthO S.l a := fun a => by
    simp only [RS.setO, fresh_l]
    exact nthO_upd hj a
  have pne : ∀ a, a < S.l.length → a ≠ j → p a ≠ p j := fun a ha e e2 => e (h.inj a j ha hj e2)
  have hB : ∀ a, upd V.B i (V.B i) a = V.B a := fun a => by
    by_cases e : a = i
    · rw [e, upd_same]
    · rw [upd_other _ _ e]
  refine h.turned ⟨g.gb, g.sinj, g.q, g.sym, g.side⟩ rfl (fun a => ?_) (fun a => ?_) rfl rfl rfl (by simp [RS.setO, fresh_l]) rfl rfl rfl (fun a ha => ?_) (fun a ha => ?_) rfl rfl rfl rfl
  · show (upd V.B i (V.B i) a).sym = _
    rw [hB a]
  · show (upd V.B i (V.B i) a).places = _
    rw [hB a]
  · show noP (upd V.om (p j) (repO (V.om (p j)) price qty) (p a)) = _
    rw [nk a]
    by_cases e : a = j
    · subst e
      rw [upd_same, if_pos rfl]
      have := h.same a ha
      show ({ noP (V.om (p a)) with price := price, entered := (repO (V.om (p a)) price qty).entered, opn := qty } : Ord) = { noP (nthO S.l a) with entered := wrap64 (wrap64 ((nthO S.l a).entered + qty) - (nthO S.l a).opn), opn := qty }
      rw [q2, ← e8, ← e9, q3, this, hpr, e6]
      rfl
    · rw [upd_other _ _ (pne a ha e), if_neg e]
      exact h.same a ha
  · show _ ∧ _ ∧ _ ∧ _ ∧ (upd V.om (p j) (repO (V.om (p j)) price qty) (p a)).place = _
    rw [nk a]
    by_cases e : a = j
    · subst e
      rw [upd_same, if_pos rfl]
      exact ⟨rfl, rfl, rfl, fun _ => by rw [← e9]; exact h3, rfl⟩
    · rw [upd_other _ _ (pne a ha e), if_neg e]
      exact ⟨rfl, rfl, rfl, fun h => h, rfl⟩

end Go.Proofs.YtigaphnafnpfnaaGreatDoor

set_option linter.unusedVariables false
set_option linter.unusedSimpArgs false
/- A replace that comes anew: the bridge stays. Without memory. -/
namespace Go.Proofs.YtigaphnafnpfnaaGreatDoor
open Go.RowKit

theorem SimV.anew {p : Nat → Nat} {V : Ven} {S : RS} {N : Nat} (h : SimV p V S N) (hN : N < 2900000) {ib s t k j g cap' : Nat} {price qty : Int} {lm' : Lm} (hib : ib < V.nb) (hs : s < 2) (ht : t = 1 - s) (hk : k < (V.B ib).n t) (hj : j < S.l.length) (hpj : (V.B ib).h t k = p j) (h1 : 1 ≤ qty) (h2 : qty ≤ 1000000) :
    Inv (p j) s ⟨(V.B ib).leave V.om t k, upd V.om (p j) (repO (V.om (p j)) price qty), V.lg.moved (p j) (V.om (p j))⟩ ∧
    ∃ c' f, Ends j f ⟨S.fresh.setO j (repA (nthO S.l j) price qty), qty, 0, 0, 0⟩ c' ∧ f ≤ 201 ∧ SimV p (V.anew ib (p j) s t k g cap' (repO (V.om (p j)) price qty) lm') (rcS j c') (N + 1) ∧
      rep (repO (V.om (p j)) price qty) ((V.anew ib (p j) s t k g cap' (repO (V.om (p j)) price qty) lm').om (p j)) V.tr (V.anew ib (p j) s t k g cap' (repO (V.om (p j)) price qty) lm').tr = rcV j c' ∧ (V.anew ib (p j) s t k g cap' (repO (V.om (p j)) price qty) lm').lg.tp = recs V.lg.tp (rcS j c').told ∧ (rcS j c').told.length ≤ 201 := by
  have hM : mN (N + 1) ≤ 1000000000000000 := by unfold mN; omega
  have hMN : mN N + 1000000 ≤ mN (N + 1) := by unfold mN; push_cast; omega
  have t2 : t < 2 := by omega
  have hts : t ≠ s := by omega
  have hv : VL V (p j) := (h.vl _).2 ⟨j, hj, rfl⟩
  have q0 := h.gw.q _ hv
  obtain ⟨q1, q2, q3⟩ := repO_q (price := price) q0 hMN hM h1 h2
  obtain ⟨gw', run, iv, hBs, gi⟩ := h.gw.anew (g := g) (cap' := cap') (lm' := lm') (mN_le (Nat.le_add_right N 1)) hM hib hs ht hk hpj (o' := repO (V.om (p j)) price qty) rfl rfl q1
  refine ⟨iv, ?_⟩
  obtain ⟨st0, hst0⟩ : ∃ st0 : MS, st0 = ⟨(V.B ib).leave V.om t k, upd V.om (p j) (repO (V.om (p j)) price qty), V.lg.moved (p j) (V.om (p j))⟩ := ⟨_, rfl⟩
  rw [← hst0] at run iv
  have hm := ((h.gw.gb ib hib).mem t t2 _).1 ⟨k, hk, rfl⟩
  rw [hpj] at hm
  obtain ⟨e1, e2, e3, e4, e5, e6, e7, e8, e9, e10, e11, e12⟩ := noP_f (h.same j hj)
  have pne : ∀ a, a < S.l.length → a ≠ j → p a ≠ p j := fun a ha e e2 => e (h.inj a j ha hj e2)
  have om0 : ∀ a, a < S.l.length → a ≠ j → upd V.om (p j) (repO (V.om (p j)) price qty) (p a) = V.om (p a) := fun a ha e => upd_other _ _ (pne a ha e)
  have nk : ∀ a, nthO (S.fresh.setO j (repA (nthO S.l j) price qty)).l a = if a = j then repA (nthO S.l j) price qty else nthO S.l a := fun a => by
    simp only [RS.setO, fresh_l]
    exact nthO_upd hj a
  have nl : ∀ a, a ≠ j → nthO (S.fresh.setO j (repA (nthO S.l j) price qty)).l a = nthO S.l a := fun a e => by rw [nk a, if_neg e]
  have nn : nthO (S.fresh.setO j (repA (nthO S.l j) price qty)).l j = repA (nthO S.l j) price qty := by rw [nk j, if_pos rfl]
  have len0 : (S.fresh.setO j (repA (nthO S.l j) price qty)).l.length = S.l.length := by simp [RS.setO, fresh_l]
  have oth : ((V.B ib).leave V.om t k).n s = (V.B ib).n s ∧ ((V.B ib).leave V.om t k).h s = (V.B ib).h s := by simp only [Bk.leave]; rw [upd_other _ _ (fun e => hts e.symm), upd_other _ _ (fun e => hts e.symm)]; exact ⟨rfl, rfl⟩
  have sidej : (nthO S.l j).side = (t : Int) := by rw [← e4]; exact hm.2.2.1
  have simc : SimC p (p j) j s ((V.B ib).leave V.om t k) (upd V.om (p j) (repO (V.om (p j)) price qty)) (S.fresh.setO j (repA (nthO S.l j) price qty)).l (V.B ib).sym := by
    refine ⟨by omega, rfl, fun a c ha hc e => h.inj a c (by omega) (by omega) e, fun a ha hne => ?_, ?_, fun a c ha hc hna hnc hsy g1 g2 => ?_, fun a c ha hc hna hnc hac hsy g1 g2 => ?_, fun x => ?_, ?_, ?_, fun a ha => ?_, fun a ha => ?_⟩
    · rw [len0] at ha
      rw [om0 a ha hne, nl a hne]
      exact h.same a ha
    · rw [upd_same, nn]
      have := h.same j hj
      show ({ noP (V.om (p j)) with price := price, entered := (repO (V.om (p j)) price qty).entered, opn := 0 } : Ord) = { noP (nthO S.l j) with entered := wrap64 (wrap64 ((nthO S.l j).entered + qty) - (nthO S.l j).opn), opn := 0, price := price }
      rw [q2, ← e8, ← e9, q3, this]
    · rw [len0] at ha hc
      rw [nl a hna, nl c hnc] at hsy ⊢
      rw [nl a hna] at g1
      rw [nl c hnc] at g2
      rw [om0 a ha hna, om0 c hc hnc]
      exact h.place a c ha hc hsy g1 g2
    · rw [len0] at ha hc
      rw [nl a hna, nl c hnc] at hsy ⊢
      rw [nl a hna] at g1
      rw [nl c hnc] at g2
      exact h.dist a c ha hc hac hsy g1 g2
    · rw [oth.1, oth.2, (h.gw.gb ib hib).mem s hs x, h.vl x, len0]
      constructor
      · rintro ⟨⟨a, ha, rfl⟩, a1, a2, a3⟩
        obtain ⟨_, _, k3, k4, _, _, _, _, k9, _⟩ := noP_f (h.same a ha)
        have hne : a ≠ j := fun e => by
          subst e
          rw [k4, sidej] at a2
          omega
        refine ⟨a, ha, hne, rfl, ?_, ?_, ?_⟩ <;> rw [nl a hne]
        · rw [← k3]; exact a1
        · rw [← k4]; exact a2
        · rw [← k9]; exact a3
      · rintro ⟨a, ha, hne, e, a1, a2, a3⟩
        obtain ⟨_, _, k3, k4, _, _, _, _, k9, _⟩ := noP_f (h.same a ha)
        rw [nl a hne] at a1 a2 a3
        subst e
        exact ⟨⟨a, ha, rfl⟩, by rw [k3]; exact a1, by rw [k4]; exact a2, by rw [k9]; exact a3⟩
    · rw [nn]
      show (nthO S.l j).sym = _
      rw [← e3]; exact hm.2.1
    · rw [nn]
      show (nthO S.l j).side = _
      rw [sidej]; omega
    · rw [len0] at ha
      by_cases e : a = j
      · subst e; rw [nn]; exact h.side ha
      · rw [nl a e]; exact h.side ha
    · rw [len0] at ha
      by_cases e : a = j
      · subst e; rw [nn]; exact Int.le_refl _
      · rw [nl a e]; exact (h.opn ha).1
  have hcs := h.count hib hs
  have hno2 := h.no200
  have e03 : st0.B.n s = (V.B ib).n s := by rw [hst0]; exact oth.1
  have hmu : mu (p j) s st0 ≤ 201 := by
    unfold mu
    rw [e03]
    split <;> omega
  have hf1 : (V.om (p j)).filled ≤ 1000000000000000 := by have := q0.f0; have := q0.o0; have := q0.c0; have := q0.e0; have := q0.sum; have := q0.hi; omega
  have hR : SimR p (p j) j s (V.B ib).sym V.lg.tp V.tr (V.om (p j)).filled st0 ⟨S.fresh.setO j (repA (nthO S.l j) price qty), qty, 0, 0, 0⟩ := by
    rw [hst0]
    refine ⟨simc, ?_, h.tr, rfl, h.day, rfl, ?_, ?_, ?_, Int.le_refl _, q0.f0, hf1⟩
    · simp only [upd_same]; rfl
    · simp only [upd_same]
      show (0 : Int) = (V.om (p j)).filled - (V.om (p j)).filled
      omega
    · show (0 : Int) = (V.lg.tr.length : Int) - V.lg.tr.length
      omega
    · exact (if_pos (show MS.tr ⟨(V.B ib).leave V.om t k, upd V.om (p j) (repO (V.om (p j)) price qty), V.lg.moved (p j) (V.om (p j))⟩ = V.tr from rfl)).symm
  have hqx : ∀ x, (x = p j ∨ MemS st0 s x) → Qo (mN (N + 1)) (st0.om x) := fun x hx => by
    rw [hst0] at hx ⊢
    simp only
    by_cases e : x = p j
    · rw [e, upd_same]; exact q1
    · rw [upd_other _ _ e]
      rcases hx with e2 | e2
      · exact absurd e2 e
      · have e3 : Mem ((V.B ib).n s) ((V.B ib).h s) x := by have := e2; simp only [MemS] at this; rw [oth.1, oth.2] at this; exact this
        exact (h.gw.q x (((h.gw.gb ib hib).mem s hs x).1 e3).1).mono (mN_le (Nat.le_add_right N 1))
  have hheap : HeapOK (ltB st0.om) (st0.B.n s) (st0.B.h s) := by rw [hst0]; exact gi.heap s hs
  have htrN := h.trN
  have htpN := h.tpN
  have hst0tr : st0.tr = V.tr := by rw [hst0]; rfl
  have hVtr : V.tr = (V.lg.tr.length : Int) := rfl
  obtain ⟨c', he, hR', hsy, hpl, hln, hpc, htl, hol⟩ := SimR.ends hM hs (by rw [hVtr]; omega) (mu (p j) s st0) st0 _ hR iv hheap hqx (Nat.le_refl _) (by rw [hst0tr, hVtr]; omega)
  change SimR _ _ _ _ _ _ _ _ (mF (p j) s st0) c' at hR'
  have hsy' : c'.S.sy = S.sy := hsy
  have hpl' : c'.S.places = S.places := hpl
  rw [len0] at hln
  have q := run.q (p j) (.inl rfl)
  have hlen := mF_len (oc := p j) (s := s) (st := st0)
  have e0 : st0.lg.tr.length = V.lg.tr.length ∧ st0.lg.tp.length = V.lg.tp.length ∧ st0.lg.na = V.lg.na + 1 := by rw [hst0]; exact ⟨rfl, rfl, rfl⟩
  obtain ⟨e01, e02, e04⟩ := e0
  rw [e01, e02, e03] at hlen
  have idj : ∀ a, a < S.l.length → (nthO c'.S.l a).id = (nthO S.l a).id := fun a ha => by
    by_cases e : a = j
    · subst e
      have f1 := (noP_f hR'.sim.self).1
      simp only at f1
      rw [← f1, (run.stat (p a)).1, hst0]
      simp only [upd_same]
      exact e1
    · have f1 := (noP_f (hR'.sim.same a (by rw [hln]; exact ha) e)).1
      rw [← f1, (run.stat (p a)).1, hst0]
      simp only
      rw [om0 a ha e]
      exact (noP_f (h.same a ha)).1
  have old : ∀ a, a < S.l.length → a ≠ j → (nthO c'.S.l a).sym = (nthO S.l a).sym ∧ ((mF (p j) s st0).om (p a)).place = (V.om (p a)).place ∧ (0 < (nthO c'.S.l a).opn → 0 < (nthO S.l a).opn) ∧ (nthO c'.S.l a).place = (nthO S.l a).place := fun a ha hne => by
    obtain ⟨f1, _, f3, _, _, _, _, _, f9, _⟩ := noP_f (hR'.sim.same a (by rw [hln]; exact ha) hne)
    obtain ⟨g1, _, g3, _, _, _, _, g8, _⟩ := run.stat (p a)
    have e1 : st0.om (p a) = V.om (p a) := by rw [hst0]; exact om0 a ha hne
    rw [e1] at g1 g3 g8
    obtain ⟨k1, _, k3, _, _, _, _, _, k9, _⟩ := noP_f (h.same a ha)
    refine ⟨by rw [← f3, g3, k3], g8, fun h0 => ?_, by rw [hpc a]; exact congrArg Ord.place (nl a hne)⟩
    rw [← f9] at h0
    rw [← k9]
    by_cases hm : MemS st0 s (p a)
    · rw [hst0] at hm
      have e3 : Mem ((V.B ib).n s) ((V.B ib).h s) (p a) := by have := hm; simp only [MemS] at this; rw [oth.1, oth.2] at this; exact this
      exact (((h.gw.gb ib hib).mem s hs _).1 e3).2.2.2
    · rw [run.far _ (pne a ha hne) hm, e1] at h0
      exact h0
  refine ⟨c', mu (p j) s st0, he, hmu, ?_, ?_, ?_, ?_⟩
  · refine SimV.ofCome (V := V) (g := g) (cap' := cap') (t := t) (by omega) hib hR' q gw' rfl (by rw [hst0]; rfl) (by rw [hst0]; rfl) (by rw [hst0]; rfl) hBs (by unfold mF; rw [matchF_places, hst0]; rfl) h.pbN (by rw [hsy']; exact h.nb) (by rw [hsy']; exact h.sym) (by rw [hln, ← h.no]; rfl) (fun a ha => ?_) (fun id b2 hb2 => ?_) (fun a ha hne h0 i hi hsj => ?_) (fun a ha hne h0 => ?_) (by rw [hpl']; exact h.psN) (by omega) (by omega) (by rw [mF_na, e04]; have := h.naN; omega) (by show V.no ≤ 200; omega) h.nb6 (fun a ha => by rw [hln] at ha; rw [idj a ha]; exact h.ids a ha)
    · rw [hln] at ha
      rw [idj a ha]
      exact h.oid a ha
    · obtain ⟨a, ha, x1, x2⟩ := h.oid' id b2 hb2
      exact ⟨a, by rw [hln]; exact ha, by rw [idj a ha]; exact x1, x2⟩
    · rw [hln] at ha
      obtain ⟨o2, o3, o4, _⟩ := old a ha hne
      rw [o3]
      rw [o2] at hsj
      exact h.plB a ha (o4 h0) i hi hsj
    · rw [hln] at ha
      obtain ⟨_, _, o4, o5⟩ := old a ha hne
      rw [o5, hpl']
      exact h.plS a ha (o4 h0)
  · have hrep := hR'.report hM q (repO (V.om (p j)) price qty) rfl (by rw [run.canc, hst0]; simp only [upd_same]) (by unfold MS.tr; omega) (by rw [hVtr]; omega)
    rw [← hrep, hst0]
    rfl
  · obtain ⟨_, _, _, _, _, _, f7, _⟩ := hR'.fin hM q
    rw [f7, ← hR'.tp, hst0]
    rfl
  · obtain ⟨_, _, _, _, _, _, f7, _⟩ := hR'.fin hM q
    rw [f7]
    have hol' : c'.S.told.length ≤ 0 + mu (p j) s st0 := hol
    omega

end Go.Proofs.YtigaphnafnpfnaaGreatDoor

/- A venue of which one book, some orders and the log have turned -/
set_option linter.unusedVariables false
set_option linter.unusedSimpArgs false
namespace Go.Proofs.YtigaphnafnpfnaaGreatDoor
open Go.RowKit Go.Maps

def Ven.turnL (V : Ven) (i : Nat) (B' : Bk) (om' : Nat → Ord) (G' : Lg) (lm' : Lm) : Ven := { V with B := upd V.B i B', om := om', lg := G', lm := lm' }

/-- what a call leaves -/
def Next (bv bm bo : Nat) (V : Ven) (Q : Ven → Prop) (w w' : World) : Prop :=
  ∃ V2, Rep w' bv bm bo V2 ∧ Q V2 ∧ Chg (Foot bv bm bo V) w w' ∧ ∀ x, Foot bv bm bo V2 x → Foot bv bm bo V x ∨ w.heap.size ≤ x

theorem Next.of {w w' : World} {bv bm bo i : Nat} {V : Ven} (R : Rep w bv bm bo V) (hi : i < V.nb) {B' : Bk} {om' : Nat → Ord} {G' : Lg} {lm' : Lm} {S : Nat → Prop} (Q : Ven → Prop)
    (hm : Mk w' (V.bk i) B' om' (fun x => ∃ id, V.oid id = some x)) (hl : IsLog w' bv bm bo G' lm') (hf : ∀ x, lm'.F x → V.lm.F x ∨ w.heap.size ≤ x) (k : Chg S w w')
    (hS : ∀ x, S x → x = bv ∨ V.lm.F x ∨ x = V.bk i ∨ (∃ s, s < 2 ∧ SdB (V.B i) s x) ∨ ((∃ id, V.oid id = some x) ∧ Apart V i x))
    (hom : ∀ j, j < V.nb → j ≠ i → ∀ s, s < 2 → ∀ l, l < (V.B j).n s → om' ((V.B j).h s l) = V.om ((V.B j).h s l)) (hid : ∀ x, (om' x).id = (V.om x).id) (hsym : B'.sym = (V.B i).sym)
    (hsd : ∀ s, s < 2 → ∀ x, SdB B' s x → (∃ t, t < 2 ∧ SdB (V.B i) t x) ∨ ((∃ id, V.oid id = some x) ∧ Apart V i x) ∨ w.heap.size ≤ x) (hQ : Q (V.turnL i B' om' G' lm')) : Next bv bm bo V Q w w' := by
  have typ : ∀ x, S x → ∃ c t, Blk w x c t := fun x hx => by
    rcases hS x hx with rfl | h | h | h | ⟨h, _⟩
    · exact ⟨_, _, R.ven⟩
    · obtain ⟨c, t, hc, _⟩ := R.log.log.typ h; exact ⟨c, t, hc⟩
    · obtain ⟨c, t, hc, _⟩ := (R.mkt hi).typ (.inl h); exact ⟨c, t, hc⟩
    · obtain ⟨c, t, hc, _⟩ := (R.mkt hi).typ (.inr (.inr h)); exact ⟨c, t, hc⟩
    · obtain ⟨c, t, hc, _⟩ := (R.mkt hi).typ (.inr (.inl h)); exact ⟨c, t, hc⟩
  obtain ⟨fB, mB, fB1, fB2⟩ := R.books
  obtain ⟨fO, mO, fO1⟩ := R.orders
  have nB : ¬ S bm := fun h => by obtain ⟨c, t, hc⟩ := typ bm h; exact mB.ne hc rfl
  have nO : ¬ S bo := fun h => by obtain ⟨c, t, hc⟩ := typ bo h; exact mO.ne hc rfl
  have sdlt : ∀ j, j < V.nb → ∀ x, x < 2 → ∀ y, SdB (V.B j) x y → y < w.heap.size := fun j hj x hx y h => by
    rcases h with h | ⟨l, hl, rfl⟩
    · exact ((R.book j hj).side x hx).lt h
    · exact (((R.book j hj).side x hx).ords hl).lt
  have apart0 : ∀ s, s < 2 → ∀ x, SdB (V.B i) s x → Apart V i x := fun s hs x hx j hj hne t ht h => R.seps i j hi hj (fun e => hne e.symm) s t hs ht x hx h
  have sdT : ∀ j, j < V.nb → ∀ y, y < 2 → ∀ x c t, Blk w x c t → t ≠ 114 → t ≠ 116 → ¬ SdB (V.B j) y x := fun j hj y hy x c t hb h1 h2 h => by
    rcases h with h | ⟨l, hl, h⟩
    · exact ((R.book j hj).side y hy).ne hb h1 h
    · rw [h] at hb; exact Blk.ne hb (((R.book j hj).side y hy).ords hl) h2 rfl
  have far : ∀ j, j < V.nb → j ≠ i → IsBook w' (V.bk j) (V.B j) om' := fun j hj hne => by
    have h6 : IsBook w' (V.bk j) (V.B j) V.om := (R.book j hj).kept k (by
      rintro x (rfl | ⟨y, hy, h⟩) hx
      · rcases hS _ hx with h | h | h | ⟨s, hs, h⟩ | ⟨⟨id, h⟩, _⟩
        · exact Blk.ne (R.book j hj).blk R.ven (by decide) h
        · exact R.log.log.ne (R.book j hj).blk (by decide) (by decide) (by decide) (by decide) (by decide) h
        · exact R.sepb j i hj hi hne h
        · exact sdT i hi s hs _ _ _ (R.book j hj).blk (by decide) (by decide) h
        · obtain ⟨_, ix, ho⟩ := R.ords id _ h
          exact Blk.ne (R.book j hj).blk ho (by decide) rfl
      · rcases hS _ hx with e | e | e | ⟨s, hs, e⟩ | ⟨_, e⟩
        · rw [e] at h; exact sdT j hj y hy _ _ _ R.ven (by decide) (by decide) h
        · obtain ⟨c, t, hc, ht⟩ := R.log.log.typ e
          exact sdT j hj y hy _ _ _ hc (by rcases ht with rfl | rfl | rfl | rfl | rfl | rfl <;> decide) (by rcases ht with rfl | rfl | rfl | rfl | rfl | rfl <;> decide) h
        · rw [e] at h; exact sdT j hj y hy _ _ _ (R.book i hi).blk (by decide) (by decide) h
        · exact apart0 s hs x e j hj hne y hy h
        · exact e j hj hne y hy h)
    exact ⟨h6.blk, fun y hy => (h6.side y hy).om (fun l hl => hom j hj hne y hy l hl), h6.apart, h6.disj⟩
  have hRep : Rep w' bv bm bo (V.turnL i B' om' G' lm') := by
    refine ⟨hl, ⟨fB, mB.kept k nB, ?_, ?_⟩, ⟨fO, mO.kept k nO, fO1⟩, R.mne, ?_, ?_, ?_, R.sepb, ?_, R.no200⟩
    · intro j hj
      by_cases e : j = i
      · subst e; simp only [Ven.turnL, upd_same, hsym]; exact fB1 j hj
      · simp only [Ven.turnL, upd_other _ _ e]; exact fB1 j hj
    · intro s' b' h
      obtain ⟨j, hj, e1, e2⟩ := fB2 s' b' h
      refine ⟨j, hj, e1, ?_⟩
      by_cases e : j = i
      · subst e; simp only [Ven.turnL, upd_same, hsym]; exact e2
      · simp only [Ven.turnL, upd_other _ _ e]; exact e2
    · intro j hj
      by_cases e : j = i
      · subst e; simp only [Ven.turnL, upd_same]; exact hm.book
      · simp only [Ven.turnL, upd_other _ _ e]; exact far j hj e
    · intro id x hx
      simp only [Ven.turnL] at hx ⊢
      rw [hid]
      exact ⟨(R.ords id x hx).1, hm.ords x ⟨id, hx⟩⟩
    · intro j hj x hx l hl
      simp only [Ven.turnL] at hj hl ⊢
      by_cases e : j = i
      · subst e
        simp only [upd_same] at hl ⊢
        exact hm.mem x hx l hl
      · simp only [upd_other _ _ e] at hl ⊢
        exact R.mem j hj x hx l hl
    · intro p q hp hq hne x y hx hy z h1 h2
      have half : ∀ q, q < V.nb → q ≠ i → ∀ x y, x < 2 → y < 2 → ∀ z, SdB B' x z → SdB (V.B q) y z → False := by
        intro q hq hne x y hx hy z h1 h2
        rcases hsd x hx z h1 with ⟨t, ht, h⟩ | ⟨_, h⟩ | h
        · exact apart0 t ht z h q hq hne y hy h2
        · exact h q hq hne y hy h2
        · have := sdlt q hq y hy z h2; omega
      simp only [Ven.turnL] at h1 h2
      by_cases e : p = i
      · rw [e, upd_same] at h1
        rw [upd_other _ _ (show q ≠ i by omega)] at h2
        exact half q hq (by omega) x y hx hy z h1 h2
      · rw [upd_other _ _ e] at h1
        by_cases e2 : q = i
        · rw [e2, upd_same] at h2
          exact half p hp e y x hy hx z h2 h1
        · rw [upd_other _ _ e2] at h2
          exact R.seps p q hp hq hne x y hx hy z h1 h2
  refine ⟨_, hRep, hQ, k.mono (fun x hx => ?_), fun x hx => ?_⟩
  · rcases hS x hx with h | h | h | ⟨s, hs, h⟩ | ⟨h, _⟩
    · exact .inl h
    · exact .inr (.inr (.inr (.inr (.inr h))))
    · exact .inr (.inr (.inr (.inl ⟨i, hi, .inl h⟩)))
    · exact .inr (.inr (.inr (.inl ⟨i, hi, .inr ⟨s, hs, h⟩⟩)))
    · exact .inr (.inr (.inr (.inr (.inl h))))
  · rcases hx with h | h | h | ⟨j, hj, h⟩ | h | h
    · exact .inl (.inl h)
    · exact .inl (.inr (.inl h))
    · exact .inl (.inr (.inr (.inl h)))
    · rcases h with h | ⟨s, hs, h⟩
      · exact .inl (.inr (.inr (.inr (.inl ⟨j, hj, .inl h⟩))))
      · by_cases e : j = i
        · subst e
          simp only [Ven.turnL, upd_same] at h
          rcases hsd s hs x h with ⟨t, ht, h⟩ | ⟨h, _⟩ | h
          · exact .inl (.inr (.inr (.inr (.inl ⟨j, hj, .inr ⟨t, ht, h⟩⟩))))
          · exact .inl (.inr (.inr (.inr (.inr (.inl h)))))
          · exact .inr h
        · simp only [Ven.turnL, upd_other _ _ e] at h
          exact .inl (.inr (.inr (.inr (.inl ⟨j, hj, .inr ⟨s, hs, h⟩⟩))))
    · exact .inl (.inr (.inr (.inr (.inr (.inl h)))))
    · rcases hf x h with h | h
      · exact .inl (.inr (.inr (.inr (.inr (.inr h)))))
      · exact .inr h

theorem Next.keep {w w' w'' : World} {bv bm bo : Nat} {V : Ven} {Q : Ven → Prop} (h : Next bv bm bo V Q w w') {x : Nat} {c : Array Value} (hb : Blk w' x c 87) (hx : w.heap.size ≤ x) (k : Chg (fun y => y = x) w' w'') : Next bv bm bo V Q w w'' := by
  obtain ⟨V2, R2, q2, k2, f2⟩ := h
  have nf : ¬ Foot bv bm bo V2 x := R2.foot hb (by decide) (by decide) (by decide) (by decide) (by decide) (by decide) (by decide)
  obtain ⟨gB, nB, g1, g2⟩ := R2.books
  obtain ⟨gO, nO, g3⟩ := R2.orders
  have nf' : ∀ y, Foot bv bm bo V2 y → ¬ y = x := fun y h e => nf (e ▸ h)
  refine ⟨V2, ⟨R2.log.kept k (nf' _ (.inl rfl)) (fun y hy => nf' y (.inr (.inr (.inr (.inr (.inr hy)))))), ⟨gB, nB.kept k (nf' _ (.inr (.inl rfl))), g1, g2⟩, ⟨gO, nO.kept k (nf' _ (.inr (.inr (.inl rfl)))), g3⟩, R2.mne,
    fun j hj => (R2.book j hj).kept k (fun y hy => nf' y (by
      rcases hy with h | ⟨z, hz, h⟩
      · exact .inr (.inr (.inr (.inl ⟨j, hj, .inl h⟩)))
      · exact .inr (.inr (.inr (.inl ⟨j, hj, .inr ⟨z, hz, h⟩⟩))))),
    fun id y h => ⟨(R2.ords id y h).1, (R2.ords id y h).2.elim fun ix ho => ⟨ix, k.blk ho (nf' y (.inr (.inr (.inr (.inr (.inl ⟨id, h⟩))))))⟩⟩, R2.mem, R2.sepb, R2.seps, R2.no200⟩, q2, k2.from (k.mono (fun y h => .inr (by omega))), f2⟩

end Go.Proofs.YtigaphnafnpfnaaGreatDoor

