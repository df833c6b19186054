/- Good venues. Without memory. -/
import Derived.Test.YtafhnopgndemcaaGreatM2
import Derived.Test.YtafhnopgndemcaaGreatC7
import Derived.Test.YtafhnopgndemcaaGreatD1
import Derived.Test.YtafhnopgndemcaaGreatF1
set_option linter.unusedVariables false
set_option linter.unusedSimpArgs false
namespace Go.Proofs.YtafhnopgndemcaaGreat

theorem Qo.mono {M M' : Int} {o : Ord} (h : Qo M o) (hm : M ≤ M') : Qo M' o := ⟨h.sum, h.o0, h.f0, h.c0, h.e0, by have := h.hi; omega⟩

theorem leave_good {B : Bk} {om : Nat → Ord} {sym : ByteArray} {L : Nat → Prop} (h : GB B om sym L) {s k : Nat} (hs : s < 2) (hk : k < B.n s) : GB (B.leave om s k) om sym (fun x => L x ∧ x ≠ B.h s k) := by
  have other : ∀ y, y ≠ s → (B.leave om s k).n y = B.n y ∧ (B.leave om s k).h y = B.h y := fun y hy => by simp only [Bk.leave]; rw [upd_other _ _ hy, upd_other _ _ hy]; exact ⟨rfl, rfl⟩
  have iff := leave_iff (om := om) (h.inj s hs) hk
  have ne : ∀ y, y < 2 → y ≠ s → ∀ x, Mem (B.n y) (B.h y) x → x ≠ B.h s k := fun y hy hne x hx e => by
    have a := ((h.mem y hy x).1 hx).2.2.1
    have b := ((h.mem s hs _).1 ⟨k, hk, rfl⟩).2.2.1
    rw [e, b] at a
    omega
  have sub : ∀ y, y < 2 → ∀ x, Mem ((B.leave om s k).n y) ((B.leave om s k).h y) x → Mem (B.n y) (B.h y) x := fun y hy x hx => by
    by_cases e : y = s
    · rw [e] at hx ⊢; exact ((iff x).1 hx).1
    · rw [(other y e).1, (other y e).2] at hx; exact hx
  refine ⟨h.bsym, fun y hy x => ?_, fun y hy => ?_, fun y hy => ?_, fun x y hx hy => h.cross x y (sub 0 (by omega) x hx) (sub 1 (by omega) y hy)⟩
  · by_cases e : y = s
    · rw [e, iff x, h.mem s hs x]
      exact ⟨fun ⟨⟨a, b⟩, c⟩ => ⟨⟨a, c⟩, b⟩, fun ⟨⟨a, c⟩, b⟩ => ⟨⟨a, b⟩, c⟩⟩
    · rw [(other y e).1, (other y e).2]
      constructor
      · intro hx
        obtain ⟨a, b⟩ := (h.mem y hy x).1 hx
        exact ⟨⟨a, ne y hy e x hx⟩, b⟩
      · rintro ⟨⟨a, _⟩, b⟩
        exact (h.mem y hy x).2 ⟨a, b⟩
  · by_cases e : y = s
    · rw [e]; exact leave_heap rfl (fun k hk => h.side hs hk) (h.heap s hs) hk
    · rw [(other y e).1, (other y e).2]; exact h.heap y hy
  · by_cases e : y = s
    · rw [e]
      have h0 : Inj (B.n s - 1 + 1) (B.h s) := by rw [show B.n s - 1 + 1 = B.n s by omega]; exact h.inj s hs
      simp only [Bk.leave, upd_same]
      exact fun a b ha hb e => (h0.remove (lt := ltB om) (i := k) (by omega)) a b (by omega) (by omega) e
    · rw [(other y e).1, (other y e).2]; exact h.inj y hy

def symN (i : Nat) : ByteArray := if i = 0 then sA else sG
theorem sym_ne : sA ≠ sG := fun h => absurd (congrArg ByteArray.size h) (by decide)
theorem symN_inj {i j : Nat} (hi : i < 2) (hj : j < 2) (h : symN i = symN j) : i = j := by
  have : (i = 0 ∨ i = 1) ∧ (j = 0 ∨ j = 1) := by omega
  rcases this with ⟨rfl | rfl, rfl | rfl⟩
  · rfl
  · exact absurd h sym_ne
  · exact absurd h.symm sym_ne
  · rfl

/-- the orders of a venue -/
def VL (V : Ven) (x : Nat) : Prop := ∃ id, V.oid id = some x

structure GV (V : Ven) (n : Nat) (M : Int) : Prop where
  nb : V.nb = 2
  gb : ∀ i, i < 2 → GB (V.B i) V.om (symN i) (VL V)
  oid : ∀ id : Int, (∃ x, V.oid id = some x) ↔ (1 ≤ id ∧ id ≤ n)
  no : V.no = n
  q : ∀ x, VL V x → Qo M (V.om x)
  sym : ∀ x, VL V x → (V.om x).sym = sA ∨ (V.om x).sym = sG
  side : ∀ x, VL V x → (V.om x).side = 0 ∨ (V.om x).side = 1

/-- one that comes, in a venue: both books -/
theorem books_come {BB : Nat → Bk} {i oc s t g cap' : Nat} {B0 : Bk} {om0 : Nat → Ord} {lg : Lg} {L : Nat → Prop} {M : Int} (hM : M ≤ 1000000) (hi : i < 2) (hs : s < 2) (ht : t = 1 - s) (hL : L oc) (hsym : (om0 oc).sym = symN i) (hside : (om0 oc).side = (t : Int)) (hq : ∀ x, L x → Qo M (om0 x))
    (gi : GB B0 om0 (symN i) (fun x => L x ∧ x ≠ oc)) (gj : ∀ j, j < 2 → j ≠ i → GB (BB j) om0 (symN j) L) :
    (∀ j, j < 2 → GB (upd BB i (comeB oc t g cap' (mF oc s ⟨B0, om0, lg⟩)) j) (comeOm oc (mF oc s ⟨B0, om0, lg⟩)) (symN j) L) ∧ (∀ x, L x → Qo M (comeOm oc (mF oc s ⟨B0, om0, lg⟩) x)) ∧ Run oc s M ⟨B0, om0, lg⟩ (mF oc s ⟨B0, om0, lg⟩) ∧
      (∀ x, (comeOm oc (mF oc s ⟨B0, om0, lg⟩) x).sym = (om0 x).sym ∧ (comeOm oc (mF oc s ⟨B0, om0, lg⟩) x).side = (om0 x).side) ∧ Inv oc s ⟨B0, om0, lg⟩ := by
  obtain ⟨iv, g1, g2, run, stat, keep⟩ := come_good (g := g) (cap' := cap') (lg := lg) hM hs ht hL hsym hside hq gi
  have sy : ∀ x, (comeOm oc (mF oc s ⟨B0, om0, lg⟩) x).sym = (om0 x).sym ∧ (comeOm oc (mF oc s ⟨B0, om0, lg⟩) x).side = (om0 x).side := fun x => by
    by_cases e : x = oc
    · have h1 := run.stat oc
      rw [e]
      unfold comeOm
      split
      · rw [upd_same]; exact ⟨h1.2.2.1, h1.2.2.2.1⟩
      · rw [upd_same]; exact ⟨h1.2.2.1, h1.2.2.2.1⟩
    · exact ⟨(stat x e).2.2.1, (stat x e).2.2.2.1⟩
  refine ⟨fun j hj => ?_, g2, run, sy, iv⟩
  by_cases e : j = i
  · rw [e, upd_same]; exact g1
  · rw [upd_other _ _ e]
    have ns : symN j ≠ symN i := fun h => e (symN_inj hj hi h)
    have same : ∀ x, (om0 x).sym = symN j → comeOm oc (mF oc s ⟨B0, om0, lg⟩) x = om0 x := fun x hx => keep x (fun e2 => ns (by rw [← hx, e2]; exact hsym)) (.inl (by rw [hx]; exact ns))
    refine (gj j hj e).cong (fun x => ?_) (fun x _ hx _ => by rw [same x hx]; exact ⟨rfl, rfl, rfl⟩)
    rw [(sy x).1]
    constructor
    · rintro ⟨a, b, c⟩; rw [same x b] at c; exact ⟨a, b, c⟩
    · rintro ⟨a, b, c⟩; rw [same x b]; exact ⟨a, b, c⟩

theorem newOrd_q {o : Ask} {M : Int} (h1 : 0 ≤ o.qty) (h2 : o.qty ≤ M) : Qo M (newOrd o) := by
  refine ⟨?_, h1, ?_, ?_, ?_, h2⟩ <;> simp only [newOrd] <;> omega

/-- Enter -/
theorem GV.enter {V : Ven} {n : Nat} {M : Int} (h : GV V n M) (hM : M ≤ 1000000) {i b s t g cap' : Nat} {o : Ask} {lm' : Lm} (hi : i < 2) (hs : s < 2) (ht : t = 1 - s) (hsym : o.sym = symN i) (hside : o.side = (t : Int)) (hq1 : 0 ≤ o.qty) (hq2 : o.qty ≤ M) (hid : o.id = (n : Int) + 1) (hb : ¬ VL V b) :
    GV (V.enter i b s t g cap' o lm') (n + 1) M ∧ Run b s M ⟨V.B i, upd V.om b (newOrd o), V.lg.opened o.id⟩ (mF b s ⟨V.B i, upd V.om b (newOrd o), V.lg.opened o.id⟩) ∧ Inv b s ⟨V.B i, upd V.om b (newOrd o), V.lg.opened o.id⟩ := by
  have hfree : V.oid o.id = none := by
    cases e : V.oid o.id with
    | none => rfl
    | some x => have := (h.oid o.id).1 ⟨x, e⟩; omega
  have hVL : ∀ x, VL (V.enter i b s t g cap' o lm') x ↔ (VL V x ∨ x = b) := fun x => by
    constructor
    · rintro ⟨id, hx⟩
      simp only [Ven.enter] at hx
      split at hx
      · exact .inr (Option.some.inj hx).symm
      · exact .inl ⟨id, hx⟩
    · rintro (⟨id, hx⟩ | rfl)
      · refine ⟨id, ?_⟩
        simp only [Ven.enter]
        rw [if_neg (fun e => by rw [e, hfree] at hx; simp at hx)]
        exact hx
      · exact ⟨o.id, by simp [Ven.enter]⟩
  have om0 : ∀ x, VL V x → upd V.om b (newOrd o) x = V.om x := fun x hx => upd_other _ _ (fun e => hb (e ▸ hx))
  have gi : GB (V.B i) (upd V.om b (newOrd o)) (symN i) (fun x => VL (V.enter i b s t g cap' o lm') x ∧ x ≠ b) := by
    refine (h.gb i hi).cong (fun x => ?_) (fun x hx _ _ => by rw [om0 x hx]; exact ⟨rfl, rfl, rfl⟩)
    rw [hVL x]
    constructor
    · rintro ⟨⟨a | a, a'⟩, c⟩
      · rw [om0 x a] at c; exact ⟨a, c⟩
      · exact absurd a a'
    · rintro ⟨a, c⟩
      rw [om0 x a]; exact ⟨⟨.inl a, fun e => hb (e ▸ a)⟩, c⟩
  have gj : ∀ j, j < 2 → j ≠ i → GB (V.B j) (upd V.om b (newOrd o)) (symN j) (VL (V.enter i b s t g cap' o lm')) := fun j hj hne => by
    refine (h.gb j hj).cong (fun x => ?_) (fun x hx _ _ => by rw [om0 x hx]; exact ⟨rfl, rfl, rfl⟩)
    rw [hVL x]
    constructor
    · rintro ⟨a | a, c⟩
      · rw [om0 x a] at c; exact ⟨a, c⟩
      · rw [a, upd_same] at c
        exact absurd (symN_inj hi hj (hsym.symm.trans c.1)) (fun e => hne e.symm)
    · rintro ⟨a, c⟩
      rw [om0 x a]; exact ⟨.inl a, c⟩
  obtain ⟨c1, c2, c3, c4, c5⟩ := books_come (BB := V.B) (g := g) (cap' := cap') (lg := V.lg.opened o.id) hM hi hs ht ((hVL b).2 (.inr rfl)) (by rw [upd_same]; exact hsym) (by rw [upd_same]; exact hside) (fun x hx => by
    rcases (hVL x).1 hx with a | a
    · rw [om0 x a]; exact h.q x a
    · rw [a, upd_same]; exact newOrd_q hq1 hq2) gi gj
  refine ⟨⟨h.nb, c1, fun id => ?_, by show V.no + 1 = n + 1; rw [h.no], c2, fun x hx => ?_, fun x hx => ?_⟩, c3, c5⟩
  · simp only [Ven.enter]
    by_cases e : id = o.id
    · rw [if_pos e]
      exact ⟨fun _ => by rw [e, hid]; push_cast; omega, fun _ => ⟨b, rfl⟩⟩
    · rw [if_neg e, h.oid id]
      push_cast
      omega
  · show ((comeOm b (mF b s ⟨V.B i, upd V.om b (newOrd o), V.lg.opened o.id⟩)) x).sym = sA ∨ ((comeOm b (mF b s ⟨V.B i, upd V.om b (newOrd o), V.lg.opened o.id⟩)) x).sym = sG
    rw [(c4 x).1]
    rcases (hVL x).1 hx with a | a
    · rw [om0 x a]; exact h.sym x a
    · rw [a, upd_same]
      show o.sym = sA ∨ o.sym = sG
      rw [hsym]
      unfold symN
      split
      · exact .inl rfl
      · exact .inr rfl
  · show ((comeOm b (mF b s ⟨V.B i, upd V.om b (newOrd o), V.lg.opened o.id⟩)) x).side = 0 ∨ ((comeOm b (mF b s ⟨V.B i, upd V.om b (newOrd o), V.lg.opened o.id⟩)) x).side = 1
    rw [(c4 x).2]
    rcases (hVL x).1 hx with a | a
    · rw [om0 x a]; exact h.side x a
    · rw [a, upd_same]
      show o.side = 0 ∨ o.side = 1
      omega

/-- an order turns, but not its rank; what of it is open stays open -/
theorem GV.keepRank {V : Ven} {n : Nat} {M M' : Int} (h : GV V n M) (hM : M ≤ M') {b : Nat} {o' : Ord} (hb : VL V b) (h1 : o'.sym = (V.om b).sym) (h2 : o'.side = (V.om b).side) (h3 : o'.price = (V.om b).price) (h4 : o'.place = (V.om b).place) (h5 : 0 < o'.opn ↔ 0 < (V.om b).opn) (hq : Qo M' o') (i : Nat) : GV (V.turn i (V.B i) (upd V.om b o')) n M' := by
  have hB : ∀ j, upd V.B i (V.B i) j = V.B j := fun j => by
    by_cases e : j = i
    · rw [e, upd_same]
    · rw [upd_other _ _ e]
  have key : ∀ x, (upd V.om b o' x).sym = (V.om x).sym ∧ (upd V.om b o' x).side = (V.om x).side ∧ (upd V.om b o' x).price = (V.om x).price ∧ (upd V.om b o' x).place = (V.om x).place ∧ (0 < (upd V.om b o' x).opn ↔ 0 < (V.om x).opn) := fun x => by
    by_cases e : x = b
    · rw [e, upd_same]; exact ⟨h1, h2, h3, h4, h5⟩
    · rw [upd_other _ _ e]; exact ⟨rfl, rfl, rfl, rfl, Iff.rfl⟩
  refine ⟨h.nb, fun j hj => ?_, h.oid, h.no, fun x hx => ?_, fun x hx => by show (upd V.om b o' x).sym = _ ∨ (upd V.om b o' x).sym = _; rw [(key x).1]; exact h.sym x hx, fun x hx => by show (upd V.om b o' x).side = _ ∨ (upd V.om b o' x).side = _; rw [(key x).2.1]; exact h.side x hx⟩
  · show GB (upd V.B i (V.B i) j) (upd V.om b o') (symN j) (VL V)
    rw [hB j]
    refine (h.gb j hj).cong (fun x => ?_) (fun x _ _ _ => ⟨(key x).2.1, (key x).2.2.1, (key x).2.2.2.1⟩)
    rw [(key x).1, (key x).2.2.2.2]
  · show Qo M' (upd V.om b o' x)
    by_cases e : x = b
    · rw [e, upd_same]; exact hq
    · rw [upd_other _ _ e]; exact (h.q x hx).mono hM

theorem GV.leaves {V : Ven} {n : Nat} {M : Int} (h : GV V n M) {i s k : Nat} (hi : i < 2) (hs : s < 2) (hk : k < (V.B i).n s) {o' : Ord} (h1 : o'.sym = (V.om ((V.B i).h s k)).sym) (h2 : o'.side = (V.om ((V.B i).h s k)).side) (h0 : o'.opn = 0) (hq : Qo M o') : GV (V.turn i ((V.B i).leave V.om s k) (upd V.om ((V.B i).h s k) o')) n M := by
  have hm := ((h.gb i hi).mem s hs _).1 ⟨k, hk, rfl⟩
  generalize hbb : (V.B i).h s k = b at *
  have key : ∀ x, (upd V.om b o' x).sym = (V.om x).sym ∧ (upd V.om b o' x).side = (V.om x).side := fun x => by
    by_cases e : x = b
    · rw [e, upd_same]; exact ⟨h1, h2⟩
    · rw [upd_other _ _ e]; exact ⟨rfl, rfl⟩
  refine ⟨h.nb, fun j hj => ?_, h.oid, h.no, fun x hx => ?_, fun x hx => by show (upd V.om b o' x).sym = _ ∨ (upd V.om b o' x).sym = _; rw [(key x).1]; exact h.sym x hx, fun x hx => by show (upd V.om b o' x).side = _ ∨ (upd V.om b o' x).side = _; rw [(key x).2]; exact h.side x hx⟩
  · show GB (upd V.B i ((V.B i).leave V.om s k) j) (upd V.om b o') (symN j) (VL V)
    have fin : ∀ {B : Bk} {L : Nat → Prop}, GB B V.om (symN j) L → (∀ x, (VL V x ∧ (V.om x).sym = symN j ∧ 0 < (V.om x).opn ∧ x ≠ b) ↔ (L x ∧ (V.om x).sym = symN j ∧ 0 < (V.om x).opn)) → GB B (upd V.om b o') (symN j) (VL V) := by
      intro B L hB hL
      refine hB.cong (fun x => ?_) (fun x a b' c => ?_)
      · rw [(key x).1, ← hL x]
        constructor
        · rintro ⟨a, b', c⟩
          have hne : x ≠ b := fun e => by rw [e, upd_same, h0] at c; omega
          rw [upd_other _ _ hne] at c
          exact ⟨a, b', c, hne⟩
        · rintro ⟨a, b', c, hne⟩
          rw [upd_other _ _ hne]; exact ⟨a, b', c⟩
      · have hne : x ≠ b := ((hL x).2 ⟨a, b', c⟩).2.2.2
        rw [upd_other _ _ hne]; exact ⟨rfl, rfl, rfl⟩
    by_cases e : j = i
    · rw [e, upd_same]
      have := leave_good (h.gb i hi) hs hk
      rw [hbb] at this
      rw [e] at fin
      exact fin this (fun x => ⟨fun ⟨a, b', c, d⟩ => ⟨⟨a, d⟩, b', c⟩, fun ⟨⟨a, d⟩, b', c⟩ => ⟨a, b', c, d⟩⟩)
    · rw [upd_other _ _ e]
      refine fin (h.gb j hj) (fun x => ⟨fun ⟨a, b', c, d⟩ => ⟨a, b', c⟩, fun ⟨a, b', c⟩ => ⟨a, b', c, fun e2 => e ?_⟩⟩)
      rw [e2, hm.2.1] at b'
      exact (symN_inj hi hj b').symm
  · show Qo M (upd V.om b o' x)
    by_cases e : x = b
    · rw [e, upd_same]; exact hq
    · rw [upd_other _ _ e]; exact h.q x hx

end Go.Proofs.YtafhnopgndemcaaGreat
