import Derived.Test.YtigaphnafnpfnaaGreatDoorHF4
import Derived.Test.YtigaphnafnpfnaaGreatDoorHB6
import Derived.Test.YtigaphnafnpfnaaGreatDoorHM3
/- The trades that hold, and the tape that tells of them. Without memory. -/
set_option linter.unusedVariables false
set_option linter.unusedSimpArgs false
namespace Go.Proofs.YtigaphnafnpfnaaGreatDoor
open Go.RowKit

/-- the trades that hold -/
def held (tr : List Tg) : List Tr := (tr.filter (·.holds)).map (·.t)

theorem held_append (a b : List Tg) : held (a ++ b) = held a ++ held b := by simp [held, List.filter_append]
theorem held_one (x : Tg) : held [x] = if x.holds then [x.t] else [] := by
  unfold held
  cases h : x.holds <;> simp [h]
theorem held_mem {tr : List Tg} {t : Tr} (h : t ∈ held tr) : ∃ x ∈ tr, x.t = t := by
  simp only [held, List.mem_map, List.mem_filter] at h
  obtain ⟨x, ⟨hx, _⟩, e⟩ := h
  exact ⟨x, hx, e⟩

/-- trades have their numbers by their places -/
def Numd (tr : List Tg) : Prop := ∀ (k : Nat) (x : Tg), tr[k]? = some x → x.t.num = (k : Int) + 1

theorem Numd.snoc {tr : List Tg} {x : Tg} (h : Numd tr) (hx : x.t.num = (tr.length : Int) + 1) : Numd (tr ++ [x]) := by
  intro k y hy
  by_cases hk : k < tr.length
  · rw [List.getElem?_append_left hk] at hy; exact h k y hy
  · rw [List.getElem?_append_right (by omega)] at hy
    have : k - tr.length = 0 := by
      cases e : k - tr.length with
      | zero => rfl
      | succ m => rw [e] at hy; simp at hy
    rw [this] at hy
    simp only [List.getElem?_cons_zero, Option.some.injEq] at hy
    subst hy
    rw [hx]
    have : k = tr.length := by omega
    rw [this]

theorem Numd.set {tr : List Tg} {x : Tg} {k : Nat} (h : Numd tr) (hx : x.t.num = (k : Int) + 1) : Numd (tr.set k x) := by
  intro j y hy
  rw [List.getElem?_set] at hy
  split at hy
  · split at hy
    · simp only [Option.some.injEq] at hy; subst hy; rename_i e _; rw [← e]; exact hx
    · simp at hy
  · exact h j y hy

theorem split_at {tr : List Tg} {k : Nat} {x : Tg} (hx : tr[k]? = some x) : tr = tr.take k ++ [x] ++ tr.drop (k + 1) := by
  obtain ⟨hk, e⟩ := List.getElem?_eq_some_iff.1 hx
  rw [← e, List.append_assoc, List.singleton_append, List.getElem_cons_drop, List.take_append_drop]

theorem set_split {tr : List Tg} {k : Nat} {x : Tg} (hk : k < tr.length) : tr.set k x = tr.take k ++ [x] ++ tr.drop (k + 1) := by
  rw [List.set_eq_take_append_cons_drop, if_pos hk, List.append_assoc, List.singleton_append]

/-- the trades that hold fall into those ahead of a number, that one, and those behind -/
theorem held_split {tr : List Tg} {k : Nat} {x : Tg} (h : Numd tr) (hx : tr[k]? = some x) :
    held tr = held (tr.take k) ++ (if x.holds then [x.t] else []) ++ held (tr.drop (k + 1)) ∧ (∀ t ∈ held (tr.take k), t.num < (k : Int) + 1) ∧ (∀ t ∈ held (tr.drop (k + 1)), (k : Int) + 1 < t.num) := by
  refine ⟨?_, fun t ht => ?_, fun t ht => ?_⟩
  · have e := congrArg held (split_at hx)
    rw [held_append, held_append, held_one] at e
    exact e
  · obtain ⟨y, hy, rfl⟩ := held_mem ht
    obtain ⟨j, hj⟩ := List.mem_iff_getElem?.1 hy
    rw [List.getElem?_take] at hj
    split at hj
    · have := h j y hj; omega
    · simp at hj
  · obtain ⟨y, hy, rfl⟩ := held_mem ht
    obtain ⟨j, hj⟩ := List.mem_iff_getElem?.1 hy
    rw [List.getElem?_drop] at hj
    have := h _ y hj
    push_cast at this
    omega

/-- one record, folded: Print (1) of a trade that does not hold, Bust (2) of one that does, just so, Correct (3) of one that does, Close (4) -/
inductive Folds : List Tr → Rc → List Tr → Prop
  | print {a b : List Tr} {r : Rc} (hk : r.kind = 1) (h1 : ∀ t ∈ a, t.num < r.t.num) (h2 : ∀ t ∈ b, r.t.num < t.num) : Folds (a ++ b) r (a ++ [r.t] ++ b)
  | bust {a b : List Tr} {r : Rc} (hk : r.kind = 2) (h1 : ∀ t ∈ a, t.num < r.t.num) (h2 : ∀ t ∈ b, r.t.num < t.num) : Folds (a ++ [r.t] ++ b) r (a ++ b)
  | correct {a b : List Tr} {r : Rc} {t : Tr} (hk : r.kind = 3) (ht : t.num = r.t.num) (h1 : ∀ t ∈ a, t.num < r.t.num) (h2 : ∀ t ∈ b, r.t.num < t.num) : Folds (a ++ [t] ++ b) r (a ++ [r.t] ++ b)
  | close {a : List Tr} {r : Rc} (hk : r.kind = 4) : Folds a r a

/-- a tape, folded -/
inductive FoldsTo : List Rc → List Tr → Prop
  | nil : FoldsTo [] []
  | snoc {rs : List Rc} {r : Rc} {a b : List Tr} (h : FoldsTo rs a) (hr : Folds a r b) (hn : r.num = (rs.length : Int) + 1) : FoldsTo (rs ++ [r]) b

/-- a log whose tape, folded, gives the trades that hold -/
structure Told (tr : List Tg) (tp : List Rc) : Prop where
  num : Numd tr
  fold : FoldsTo tp (held tr)

theorem Told.start : Told [] [] := ⟨fun k x h => by simp at h, .nil⟩

theorem Told.print {tr : List Tg} {tp : List Rc} {t : Tr} {r : Rc} (h : Told tr tp) (ht : t.num = (tr.length : Int) + 1) (hr : r.t = t) (hk : r.kind = 1) (hn : r.num = (tp.length : Int) + 1) : Told (tr ++ [⟨t, true⟩]) (tp ++ [r]) := by
  refine ⟨h.num.snoc ht, ?_⟩
  rw [held_append, held_one]
  have hb : ∀ x ∈ held tr, x.num < r.t.num := fun x hx => by
    obtain ⟨y, hy, rfl⟩ := held_mem hx
    obtain ⟨j, hj⟩ := List.mem_iff_getElem?.1 hy
    have := h.num j y hj
    have := (List.getElem?_eq_some_iff.1 hj).1
    rw [hr]; omega
  have hF := Folds.print (a := held tr) (b := []) (r := r) hk hb (fun x hx => by simp at hx)
  rw [List.append_nil, List.append_nil, hr] at hF
  simpa using FoldsTo.snoc h.fold hF hn

theorem Told.bust {tr : List Tg} {tp : List Rc} {k : Nat} {x : Tg} {r : Rc} (h : Told tr tp) (hx : tr[k]? = some x) (hh : x.holds = true) (hr : r.t = x.t) (hk : r.kind = 2) (hn : r.num = (tp.length : Int) + 1) : Told (tr.set k ⟨x.t, false⟩) (tp ++ [r]) := by
  have hl := (List.getElem?_eq_some_iff.1 hx).1
  have hnum := h.num k x hx
  obtain ⟨e, h1, h2⟩ := held_split h.num hx
  refine ⟨h.num.set hnum, ?_⟩
  rw [set_split hl, held_append, held_append, held_one]
  rw [hh] at e
  have hF := Folds.bust (a := held (tr.take k)) (b := held (tr.drop (k + 1))) (r := r) hk (fun t ht => by rw [hr, hnum]; exact h1 t ht) (fun t ht => by rw [hr, hnum]; exact h2 t ht)
  rw [hr] at hF
  have hf := h.fold
  rw [e] at hf
  simpa using FoldsTo.snoc hf (by simpa using hF) hn

theorem Told.again {tr : List Tg} {tp : List Rc} {k : Nat} {x : Tg} {r : Rc} (h : Told tr tp) (hx : tr[k]? = some x) (hh : x.holds = false) (hr : r.t = x.t) (hk : r.kind = 1) (hn : r.num = (tp.length : Int) + 1) : Told (tr.set k ⟨x.t, true⟩) (tp ++ [r]) := by
  have hl := (List.getElem?_eq_some_iff.1 hx).1
  have hnum := h.num k x hx
  obtain ⟨e, h1, h2⟩ := held_split h.num hx
  refine ⟨h.num.set hnum, ?_⟩
  rw [set_split hl, held_append, held_append, held_one]
  rw [hh] at e
  have hF := Folds.print (a := held (tr.take k)) (b := held (tr.drop (k + 1))) (r := r) hk (fun t ht => by rw [hr, hnum]; exact h1 t ht) (fun t ht => by rw [hr, hnum]; exact h2 t ht)
  rw [hr] at hF
  have hf := h.fold
  rw [e] at hf
  simpa using FoldsTo.snoc (by simpa using hf) (by simpa using hF) hn

theorem Told.correct {tr : List Tg} {tp : List Rc} {k : Nat} {x : Tg} {t : Tr} {r : Rc} (h : Told tr tp) (hx : tr[k]? = some x) (hh : x.holds = true) (ht : t.num = x.t.num) (hr : r.t = t) (hk : r.kind = 3) (hn : r.num = (tp.length : Int) + 1) : Told (tr.set k ⟨t, true⟩) (tp ++ [r]) := by
  have hl := (List.getElem?_eq_some_iff.1 hx).1
  have hnum := h.num k x hx
  obtain ⟨e, h1, h2⟩ := held_split h.num hx
  refine ⟨h.num.set (by simp only [ht]; exact hnum), ?_⟩
  rw [set_split hl, held_append, held_append, held_one]
  rw [hh] at e
  have hF := Folds.correct (a := held (tr.take k)) (b := held (tr.drop (k + 1))) (r := r) (t := x.t) hk (by rw [hr, ht]) (fun y hy => by rw [hr, ht, hnum]; exact h1 y hy) (fun y hy => by rw [hr, ht, hnum]; exact h2 y hy)
  rw [hr] at hF
  have hf := h.fold
  rw [e] at hf
  simpa using FoldsTo.snoc hf (by simpa using hF) hn

theorem Told.close {tr : List Tg} {tp : List Rc} {r : Rc} (h : Told tr tp) (hk : r.kind = 4) (hn : r.num = (tp.length : Int) + 1) : Told tr (tp ++ [r]) := ⟨h.num, .snoc h.fold (.close hk) hn⟩

def Lg.Told (G : Lg) : Prop := Go.Proofs.YtigaphnafnpfnaaGreatDoor.Told G.tr G.tp

theorem Lg.Told.addT {G : Lg} (h : G.Told) (t : Tr) : (G.addT t).Told := Go.Proofs.YtigaphnafnpfnaaGreatDoor.Told.print h (t := G.stamp t) rfl rfl rfl rfl
theorem Lg.Told.noted {G : Lg} (h : G.Told) (ds : List Back) : (G.noted ds).Told := h
theorem Lg.Told.begun {G : Lg} (h : G.Told) : G.begun.Told := h
theorem Lg.Told.busting {G : Lg} (h : G.Told) {k tb : Nat} {x : Tg} (hx : G.tr[k]? = some x) (hh : x.holds = true) : (G.busting k tb x.t).Told := Go.Proofs.YtigaphnafnpfnaaGreatDoor.Told.bust h hx hh rfl rfl rfl
theorem Lg.Told.tradeG {G : Lg} (h : G.Told) (om : Nat → Ord) (oc ow : Nat) : (tradeG G om oc ow).Told := by
  unfold Lg.Told
  rw [tradeG_tr, tradeG_tp]
  exact h
theorem told_mstep {oc s : Nat} {st : MS} (h : st.lg.Told) : (mstep oc s st).lg.Told := by
  unfold mstep
  split
  · exact h
  · exact (h.tradeG _ _ _).addT _
theorem told_match {oc s : Nat} : ∀ (k : Nat) (st : MS), st.lg.Told → (matchF oc s k st).lg.Told := by
  intro k
  induction k with
  | zero => intro st h; exact h
  | succ k ih =>
    intro st h
    unfold matchF
    split
    · exact h
    · exact ih _ (told_mstep h)

end Go.Proofs.YtigaphnafnpfnaaGreatDoor

/- What a trade had is taken back: good books stay good. Without memory. -/
set_option linter.unusedVariables false
set_option linter.unusedSimpArgs false
namespace Go.Proofs.YtigaphnafnpfnaaGreatDoor

/-- nothing of the other side is good for an order: the first of them is not -/
theorem bad_of_first {B : Bk} {om : Nat → Ord} {sym : ByteArray} {L : Nat → Prop} (gb : GB B om sym L) {s t : Nat} (hs : s < 2) (ht : t = 1 - s) {o : Ord} (hk5 : o.kind ≠ 5) (hside : o.side = (t : Int)) (hf : firstG B om (askOf o) s = none) :
    ∀ y, Mem (B.n s) (B.h s) y → if (t : Int) = 0 then o.price < (om y).price else (om y).price < o.price := by
  intro y hy
  obtain ⟨k, hk, e⟩ := hy
  have hn0 : B.n s ≠ 0 := by omega
  unfold firstG at hf
  rw [if_neg hn0] at hf
  have hg : goodB (askOf o).kind (askOf o).side (askOf o).price (om (B.h s 0)).price = false := by
    split at hf
    · simp at hf
    · rename_i h; simpa using h
  have hb := goodB_false hg hk5
  have hsd : (askOf o).side = (t : Int) := hside
  rw [hsd] at hb
  have hsideS : ∀ k, k < B.n s → (om (B.h s k)).side = (s : Int) := fun k hk => gb.side hs hk
  have hmin := root_min (pre_side om (s : Int)) (gb.heap s hs) hsideS k hk
  have hless := (lessB_iff' _ _).1 hmin
  rw [hsideS k hk] at hless
  have hap : (askOf o).price = o.price := rfl
  rw [hap] at hb
  rw [← e] at hless
  by_cases e0 : (t : Int) = 0
  · rw [if_pos e0] at hb ⊢
    have es : ¬ (s : Int) = 0 := by omega
    rw [if_neg es] at hless
    omega
  · rw [if_neg e0] at hb ⊢
    have es : (s : Int) = 0 := by omega
    rw [if_pos es] at hless
    omega

/-- one that rests behind all others of its price -/
theorem rest_good {B : Bk} {om om' : Nat → Ord} {sym : ByteArray} {L : Nat → Prop} {b s t g cap' : Nat} (hs : s < 2) (ht : t = 1 - s) (gb : GB B om sym (fun x => L x ∧ x ≠ b)) (hL : L b) (far : ∀ x, x ≠ b → om' x = om x)
    (h1 : (om' b).sym = sym) (h2 : (om' b).side = (t : Int)) (h3 : 0 < (om' b).opn) (bad : ∀ y, Mem (B.n s) (B.h s) y → if (t : Int) = 0 then (om' b).price < (om y).price else (om y).price < (om' b).price) :
    GB (B.rest om' t b g cap') om' sym L := by
  have t2 : t < 2 := by omega
  have hts : (t : Int) ≠ (s : Int) := by omega
  have two : ∀ x, x < 2 → x = s ∨ x = t := by omega
  have nS : (B.rest om' t b g cap').n s = B.n s := by simp only [Bk.rest]; rw [upd_other _ _ (by omega)]
  have hS : (B.rest om' t b g cap').h s = B.h s := by simp only [Bk.rest]; rw [upd_other _ _ (by omega)]
  have nT : (B.rest om' t b g cap').n t = B.n t + 1 := by simp only [Bk.rest, upd_same]
  have hT : (B.rest om' t b g cap').h t = upF (ltB om') (fun k => if k = B.n t then b else B.h t k) (B.n t) := by simp only [Bk.rest, upd_same]
  have mT : ∀ x, Mem ((B.rest om' t b g cap').n t) ((B.rest om' t b g cap').h t) x ↔ Mem (B.n t) (B.h t) x ∨ x = b := fun x => by rw [nT, hT]; exact mem_push _ _ _
  have ne : ∀ y, y < 2 → ∀ x, Mem (B.n y) (B.h y) x → x ≠ b ∧ om' x = om x := fun y hy x hx => by
    have := ((gb.mem y hy x).1 hx).1.2
    exact ⟨this, far x this⟩
  have lt' : ∀ y, y < 2 → HeapOK (ltB om') (B.n y) (B.h y) := fun y hy => (gb.heap y hy).cong (fun j k hj hk => by
    have a := (ne y hy _ ⟨j, hj, rfl⟩).2
    have c := (ne y hy _ ⟨k, hk, rfl⟩).2
    exact ltB_cong (by rw [a]; exact ⟨rfl, rfl, rfl⟩) (by rw [c]; exact ⟨rfl, rfl⟩))
  refine ⟨gb.bsym, fun y hy x => ?_, fun y hy => ?_, fun y hy => ?_, fun x y hx hy => ?_⟩
  · rcases two y hy with e | e
    · rw [e, nS, hS]
      constructor
      · intro hx
        obtain ⟨a, c⟩ := ne s hs x hx
        have h0 := (gb.mem s hs x).1 hx
        rw [c]
        exact ⟨h0.1.1, h0.2⟩
      · rintro ⟨a, c, d, f⟩
        have hne : x ≠ b := fun e => by rw [e, h2] at d; exact hts d
        rw [far x hne] at c d f
        exact (gb.mem s hs x).2 ⟨⟨a, hne⟩, c, d, f⟩
    · rw [e, mT x]
      constructor
      · rintro (hx | hx)
        · obtain ⟨a, c⟩ := ne t t2 x hx
          have h0 := (gb.mem t t2 x).1 hx
          rw [c]
          exact ⟨h0.1.1, h0.2⟩
        · rw [hx]; exact ⟨hL, h1, h2, h3⟩
      · rintro ⟨a, c, d, f⟩
        by_cases hne : x = b
        · exact .inr hne
        · rw [far x hne] at c d f
          exact .inl ((gb.mem t t2 x).2 ⟨⟨a, hne⟩, c, d, f⟩)
  · rcases two y hy with e | e
    · rw [e, nS, hS]; exact lt' s hs
    · rw [e, nT, hT]
      refine push_ok (pre_side om' (t : Int)) _ _ h2 (fun k hk => ?_) (lt' t t2)
      rw [(ne t t2 _ ⟨k, hk, rfl⟩).2]; exact gb.side t2 hk
  · rcases two y hy with e | e
    · rw [e, nS, hS]; exact gb.inj s hs
    · rw [e, nT, hT]
      refine Inj.up ?_ (by omega)
      intro j k hj hk e
      simp only at e
      by_cases ej : j = B.n t
      · by_cases ek : k = B.n t
        · omega
        · rw [if_pos ej, if_neg ek] at e
          exact absurd e.symm (ne t t2 _ ⟨k, by omega, rfl⟩).1
      · by_cases ek : k = B.n t
        · rw [if_neg ej, if_pos ek] at e
          exact absurd e (ne t t2 _ ⟨j, by omega, rfl⟩).1
        · rw [if_neg ej, if_neg ek] at e
          exact gb.inj t t2 j k (by omega) (by omega) e
  · have h01 : (s = 0 ∧ t = 1) ∨ (s = 1 ∧ t = 0) := by omega
    rcases h01 with ⟨rfl, rfl⟩ | ⟨rfl, rfl⟩
    · rw [nS, hS] at hx
      rw [mT y] at hy
      have hpx : (om' x).price = (om x).price := by rw [(ne 0 hs x hx).2]
      rcases hy with hy | hy
      · rw [hpx, (ne 1 t2 y hy).2]; exact gb.cross x y hx hy
      · have := bad x hx
        rw [if_neg (by decide)] at this
        rw [hy, hpx]; exact this
    · rw [mT x] at hx
      rw [nS, hS] at hy
      have hpy : (om' y).price = (om y).price := by rw [(ne 1 hs y hy).2]
      rcases hx with hx | hx
      · rw [hpy, (ne 0 t2 x hx).2]; exact gb.cross x y hx hy
      · have := bad y hy
        rw [if_pos (by decide)] at this
        rw [hx, hpy]; exact this

end Go.Proofs.YtigaphnafnpfnaaGreatDoor

/- What is filled of each order is what the trades that hold have of it. Without memory. -/
set_option linter.unusedVariables false
set_option linter.unusedSimpArgs false
namespace Go.Proofs.YtigaphnafnpfnaaGreatDoor

def sumT (f : Tr → Int) : List Tr → Int
  | [] => 0
  | t :: l => f t + sumT f l

theorem sumT_append (f : Tr → Int) (a b : List Tr) : sumT f (a ++ b) = sumT f a + sumT f b := by
  induction a with
  | nil => simp [sumT]
  | cons t l ih => simp only [List.cons_append, sumT, ih]; omega

theorem sumT_congr {f g : Tr → Int} {l : List Tr} (h : ∀ t ∈ l, f t = g t) : sumT f l = sumT g l := by
  induction l with
  | nil => rfl
  | cons t l ih => simp only [sumT]; rw [h t (by simp), ih (fun x hx => h x (by simp [hx]))]

theorem sumT_zero {f : Tr → Int} {l : List Tr} (h : ∀ t ∈ l, f t = 0) : sumT f l = 0 := by
  induction l with
  | nil => rfl
  | cons t l ih => simp only [sumT]; rw [h t (by simp), ih (fun x hx => h x (by simp [hx]))]; omega

theorem sumT_nonneg {f : Tr → Int} {l : List Tr} (h : ∀ t ∈ l, 0 ≤ f t) : 0 ≤ sumT f l := by
  induction l with
  | nil => exact Int.le_refl _
  | cons t l ih =>
    simp only [sumT]
    have := h t (by simp)
    have := ih (fun x hx => h x (by simp [hx]))
    omega

/-- what a trade has of an order -/
def tq (side id : Int) (t : Tr) : Int := if side = 0 then (if t.buy = id then t.qty else 0) else (if t.sell = id then t.qty else 0)

theorem tq_nonneg {side id : Int} {t : Tr} (h : 0 ≤ t.qty) : 0 ≤ tq side id t := by unfold tq; repeat (first | split | omega)

/-- a trade that is in order: who buys and who sells -/
structure TW (om : Nat → Ord) (oid : Int → Option Nat) (t : Tr) : Prop where
  buy : ∃ b, oid t.buy = some b ∧ (om b).sym = t.sym ∧ (om b).side = 0
  sell : ∃ b, oid t.sell = some b ∧ (om b).sym = t.sym ∧ (om b).side = 1
  qty : 1 ≤ t.qty ∧ t.qty ≤ 1000000

/-- what is filled of each order, but for what is still to be taken back of some -/
structure FL (om : Nat → Ord) (oid : Int → Option Nat) (hl : List Tr) (ex : Int → Int) : Prop where
  tw : ∀ t ∈ hl, TW om oid t
  ids : ∀ id b, oid id = some b → (om b).id = id
  eq : ∀ id b, oid id = some b → (om b).filled = sumT (tq (om b).side id) hl + ex id

theorem TW.cong {om om' : Nat → Ord} {oid : Int → Option Nat} {t : Tr} (h : TW om oid t) (he : ∀ x, (om' x).sym = (om x).sym ∧ (om' x).side = (om x).side) : TW om' oid t := by
  obtain ⟨⟨b, h1, h2, h3⟩, ⟨c, g1, g2, g3⟩, hq⟩ := h
  exact ⟨⟨b, h1, by rw [(he b).1]; exact h2, by rw [(he b).2]; exact h3⟩, ⟨c, g1, by rw [(he c).1]; exact g2, by rw [(he c).2]; exact g3⟩, hq⟩

/-- orders turn, but what is filled of them does not -/
theorem FL.cong {om om' : Nat → Ord} {oid : Int → Option Nat} {hl : List Tr} {ex : Int → Int} (h : FL om oid hl ex) (he : ∀ x, (om' x).sym = (om x).sym ∧ (om' x).side = (om x).side ∧ (om' x).id = (om x).id ∧ (om' x).filled = (om x).filled) : FL om' oid hl ex :=
  ⟨fun t ht => (h.tw t ht).cong (fun x => ⟨(he x).1, (he x).2.1⟩), fun id b hb => (he b).2.2.1.trans (h.ids id b hb), fun id b hb => by rw [(he b).2.2.2, (he b).2.1]; exact h.eq id b hb⟩

theorem fl_mstep {oc s : Nat} {M : Int} {st : MS} {oid : Int → Option Nat} (hM : M ≤ 1000000) (iv : Inv oc s st) (hn : 0 < st.B.n s) (hp : 0 < (st.om oc).opn) (hq : ∀ x, (x = oc ∨ MemS st s x) → Qo M (st.om x))
    (hs : s < 2) (hoc : oid (st.om oc).id = some oc) (how : ∀ x, MemS st s x → oid (st.om x).id = some x ∧ (st.om x).sym = st.B.sym) (hsym : (st.om oc).sym = st.B.sym)
    (h : FL st.om oid (held st.lg.tr) (fun _ => 0)) : FL (mstep oc s st).om oid (held (mstep oc s st).lg.tr) (fun _ => 0) := by
  obtain ⟨B, om, lg⟩ := st
  simp only at hn hp hoc how hsym h hq
  have hr := iv.mem 0 hn
  simp only at hr
  obtain ⟨hs0, hpos, hmax, hne⟩ := hr
  have hrm : MemS ⟨B, om, lg⟩ s (B.h s 0) := ⟨0, hn, rfl⟩
  have qr : Qo M (om (B.h s 0)) := hq _ (.inr hrm)
  have qc : Qo M (om oc) := hq _ (.inl rfl)
  have hsc : (om oc).side = 1 - (s : Int) := iv.side
  obtain ⟨ho1, ho2⟩ := how _ hrm
  unfold mstep
  simp only
  generalize B.h s 0 = ow at *
  by_cases ho : (om ow).owner = (om oc).owner
  · rw [if_pos ho]
    refine h.cong (fun x => ?_)
    by_cases e : x = ow
    · simp only [e, upd_same]; exact ⟨rfl, rfl, rfl, rfl⟩
    · simp only [upd_other _ _ e]; exact ⟨trivial, trivial, trivial, trivial⟩
  · rw [if_neg ho]
    simp only
    have q1 : 0 ≤ min (om oc).opn (om ow).opn := by omega
    obtain ⟨_, _, c3⟩ := qc.fill (q := min (om oc).opn (om ow).opn) q1 (by omega) hM
    obtain ⟨_, _, w3⟩ := qr.fill (q := min (om oc).opn (om ow).opn) q1 (by omega) hM
    have eoc : tradeOm om oc ow oc = fillO (om oc) (min (om oc).opn (om ow).opn) := by simp only [tradeOm]; rw [upd_other _ _ (fun e => hne e.symm), upd_same]
    have eow : tradeOm om oc ow ow = fillO (om ow) (min (om oc).opn (om ow).opn) := by simp only [tradeOm, upd_same]
    have eot : ∀ x, x ≠ oc → x ≠ ow → tradeOm om oc ow x = om x := fun x h1 h2 => by simp only [tradeOm]; rw [upd_other _ _ h2, upd_other _ _ h1]
    have stat : ∀ x, (tradeOm om oc ow x).sym = (om x).sym ∧ (tradeOm om oc ow x).side = (om x).side ∧ (tradeOm om oc ow x).id = (om x).id := fun x => by
      by_cases e1 : x = oc
      · rw [e1, eoc]; exact ⟨rfl, rfl, rfl⟩
      · by_cases e2 : x = ow
        · rw [e2, eow]; exact ⟨rfl, rfl, rfl⟩
        · rw [eot x e1 e2]; exact ⟨rfl, rfl, rfl⟩
    have htr : held ((tradeG lg om oc ow).addT (tradeT B om oc ow)).tr = held lg.tr ++ [(tradeG lg om oc ow).stamp (tradeT B om oc ow)] := by
      show held ((tradeG lg om oc ow).tr ++ [⟨(tradeG lg om oc ow).stamp (tradeT B om oc ow), true⟩]) = _
      rw [held_append, held_one, tradeG_tr]
      rfl
    rw [htr]
    have hT : ∀ side id, tq side id ((tradeG lg om oc ow).stamp (tradeT B om oc ow)) = if side = 0 then (if (if (om oc).side = 1 then (om ow).id else (om oc).id) = id then min (om oc).opn (om ow).opn else 0) else (if (if (om oc).side = 1 then (om oc).id else (om ow).id) = id then min (om oc).opn (om ow).opn else 0) := fun side id => rfl
    have s01 : s = 0 ∨ s = 1 := by omega
    refine ⟨fun t ht => ?_, fun id b hb => (stat b).2.2.trans (h.ids id b hb), fun id b hb => ?_⟩
    · rcases List.mem_append.1 ht with ht | ht
      · exact (h.tw t ht).cong (fun x => ⟨(stat x).1, (stat x).2.1⟩)
      · simp only [List.mem_singleton] at ht
        subst ht
        have hqq : 1 ≤ min (om oc).opn (om ow).opn ∧ min (om oc).opn (om ow).opn ≤ 1000000 := by omega
        rcases s01 with e | e
        · subst e
          have hs1 : (om oc).side = 1 := by simpa using hsc
          refine ⟨⟨ow, ?_, (stat ow).1.trans ho2, (stat ow).2.1.trans (by simpa using hs0)⟩, ⟨oc, ?_, (stat oc).1.trans hsym, (stat oc).2.1.trans hs1⟩, hqq⟩
          · show oid (if (om oc).side = 1 then (om ow).id else (om oc).id) = _
            rw [if_pos hs1]; exact ho1
          · show oid (if (om oc).side = 1 then (om oc).id else (om ow).id) = _
            rw [if_pos hs1]; exact hoc
        · subst e
          have hs1 : (om oc).side = 0 := by simpa using hsc
          refine ⟨⟨oc, ?_, (stat oc).1.trans hsym, (stat oc).2.1.trans hs1⟩, ⟨ow, ?_, (stat ow).1.trans ho2, (stat ow).2.1.trans (by simpa using hs0)⟩, hqq⟩
          · show oid (if (om oc).side = 1 then (om ow).id else (om oc).id) = _
            rw [if_neg (by omega)]; exact hoc
          · show oid (if (om oc).side = 1 then (om oc).id else (om ow).id) = _
            rw [if_neg (by omega)]; exact ho1
    · rw [sumT_append, (stat b).2.1]
      have h0 := h.eq id b hb
      have hid := h.ids id b hb
      simp only [sumT, hT, Int.add_zero] at h0 ⊢
      by_cases e1 : b = oc
      · subst e1
        rw [eoc, c3, h0]
        rcases s01 with e | e
        · subst e
          have hs1 : (om b).side = 1 := by simpa using hsc
          simp [hs1, hid]
        · subst e
          have hs1 : (om b).side = 0 := by simpa using hsc
          simp [hs1, hid]
      · by_cases e2 : b = ow
        · subst e2
          rw [eow, w3, h0]
          rcases s01 with e | e
          · subst e
            have hs1 : (om oc).side = 1 := by simpa using hsc
            have hsw : (om b).side = 0 := by simpa using hs0
            simp [hs1, hsw, hid]
          · subst e
            have hs1 : (om oc).side = 0 := by simpa using hsc
            have hsw : (om b).side = 1 := by simpa using hs0
            simp [hs1, hsw, hid]
        · rw [eot b e1 e2, h0]
          have n1 : (om oc).id ≠ id := fun e => e1 (by rw [e, hb] at hoc; exact Option.some.inj hoc)
          have n2 : (om ow).id ≠ id := fun e => e2 (by rw [e, hb] at ho1; exact Option.some.inj ho1)
          have z1 : (if (om oc).side = 1 then (om ow).id else (om oc).id) ≠ id := by split <;> assumption
          have z2 : (if (om oc).side = 1 then (om oc).id else (om ow).id) ≠ id := by split <;> assumption
          rw [if_neg z1, if_neg z2]
          split <;> omega

theorem fl_matchF {oc s : Nat} {M : Int} {oid : Int → Option Nat} (hM : M ≤ 1000000) (hs : s < 2) : ∀ (f : Nat) (st : MS), Inv oc s st → HeapOK (ltB st.om) (st.B.n s) (st.B.h s) → (∀ x, (x = oc ∨ MemS st s x) → Qo M (st.om x)) →
    oid (st.om oc).id = some oc → (∀ x, MemS st s x → oid (st.om x).id = some x ∧ (st.om x).sym = st.B.sym) → (st.om oc).sym = st.B.sym →
    FL st.om oid (held st.lg.tr) (fun _ => 0) → FL (matchF oc s f st).om oid (held (matchF oc s f st).lg.tr) (fun _ => 0) := by
  intro f
  induction f with
  | zero => intro st _ _ _ _ _ _ h; exact h
  | succ f ih =>
    intro st iv hh hq hoc how hsym h
    rw [matchF]
    split
    · exact h
    · rename_i hst
      obtain ⟨hn, hp⟩ := stops_false hst
      have r1 := mstep_run hM iv hn hp hh hq
      have hb : (mstep oc s st).B.sym = st.B.sym := by
        unfold mstep
        split
        · rfl
        · show (tradeB st.B st.om oc (st.B.h s 0) s).sym = _
          unfold tradeB
          split <;> rfl
      refine ih _ r1.inv r1.heap (fun x hx => r1.q x (hx.imp_right (r1.mem x))) ?_ (fun x hx => ?_) ?_ (fl_mstep hM iv hn hp hq hs hoc how hsym h)
      · rw [(r1.stat oc).1]; exact hoc
      · obtain ⟨a, b⟩ := how x (r1.mem x hx)
        exact ⟨by rw [(r1.stat x).1]; exact a, by rw [(r1.stat x).2.2.1, hb]; exact b⟩
      · rw [(r1.stat oc).2.2.1, hb]; exact hsym

end Go.Proofs.YtigaphnafnpfnaaGreatDoor

/- The tape and what is filled, through the acts. Without memory. -/
set_option linter.unusedVariables false
set_option linter.unusedSimpArgs false
namespace Go.Proofs.YtigaphnafnpfnaaGreatDoor

/-- what the tape names is short -/
def TyOK (lg : Lg) : Prop := ∀ r ∈ lg.tp, r.t.sym.size ≤ 100000

/-- a venue whose tape tells its trades, and whose orders have filled what these have -/
structure AV (V : Ven) : Prop where
  told : V.lg.Told
  fl : FL V.om V.oid (held V.lg.tr) (fun _ => 0)
  ty : TyOK V.lg

theorem TyOK.snoc {G : Lg} (h : TyOK G) {r : Rc} (hr : r.t.sym.size ≤ 100000) {G' : Lg} (e : G'.tp = G.tp ++ [r]) : TyOK G' := by
  intro x hx
  rw [e] at hx
  rcases List.mem_append.1 hx with h' | h'
  · exact h x h'
  · rw [List.mem_singleton.1 h']; exact hr

theorem mstep_ty {oc s : Nat} {st : MS} (hb : st.B.sym.size ≤ 100000) (hs : TyOK st.lg) : (mstep oc s st).B.sym.size ≤ 100000 ∧ TyOK (mstep oc s st).lg := by
  unfold mstep
  split
  · exact ⟨hb, hs⟩
  · refine ⟨?_, fun x hx => ?_⟩
    · simp only [tradeB]; split <;> exact hb
    · simp only [Lg.addT, Lg.told, Lg.kept, Lg.noted, tradeG_tp, List.mem_append, List.mem_singleton] at hx
      rcases hx with hx | hx
      · exact hs x hx
      · subst hx; exact hb

theorem matchF_ty {oc s : Nat} : ∀ (f : Nat) (st : MS), st.B.sym.size ≤ 100000 → TyOK st.lg → TyOK (matchF oc s f st).lg := by
  intro f
  induction f with
  | zero => intro st _ h; exact h
  | succ f ih =>
    intro st hb h
    rw [matchF]
    split
    · exact h
    · obtain ⟨a, b⟩ := mstep_ty (oc := oc) (s := s) hb h
      exact ih _ a b

theorem symN_ty (i : Nat) : (symN i).size ≤ 100000 := by unfold symN; split <;> decide

theorem come_fl {oc : Nat} {st : MS} {oid : Int → Option Nat} {hl : List Tr} {ex : Int → Int} (h : FL st.om oid hl ex) : FL (comeOm oc st) oid hl ex := by
  refine h.cong (fun x => ?_)
  by_cases e : x = oc
  · subst e
    unfold comeOm
    split
    · simp only [upd_same]; exact ⟨trivial, trivial, trivial, trivial⟩
    · simp only [upd_same, cancO]; exact ⟨trivial, trivial, trivial, trivial⟩
  · rw [comeOm_far oc st e]; exact ⟨rfl, rfl, rfl, rfl⟩

theorem heapU {om : Nat → Ord} {b : Nat} {o' : Ord} {n : Nat} {h : Nat → Nat} (hp : HeapOK (ltB om) n h) (hb : ∀ k, k < n → h k ≠ b) : HeapOK (ltB (upd om b o')) n h :=
  hp.cong (fun j k hj hk => ltB_cong (by rw [upd_other _ _ (hb j hj)]; exact ⟨rfl, rfl, rfl⟩) (by rw [upd_other _ _ (hb k hk)]; exact ⟨rfl, rfl⟩))

theorem FL.enter {om : Nat → Ord} {oid : Int → Option Nat} {hl : List Tr} (h : FL om oid hl (fun _ => 0)) {b : Nat} {o : Ask} (hfree : oid o.id = none) (hb : ∀ id, oid id ≠ some b) :
    FL (upd om b (newOrd o)) (fun id => if id = o.id then some b else oid id) hl (fun _ => 0) := by
  have om0 : ∀ id x, oid id = some x → upd om b (newOrd o) x = om x := fun id x hx => upd_other _ _ (fun e => hb id (e ▸ hx))
  have nid : ∀ id x, oid id = some x → id ≠ o.id := fun id x hx e => by rw [e, hfree] at hx; simp at hx
  have tw : ∀ t ∈ hl, TW (upd om b (newOrd o)) (fun id => if id = o.id then some b else oid id) t := fun t ht => by
    obtain ⟨⟨x, h1, h2, h3⟩, ⟨y, g1, g2, g3⟩, hq⟩ := h.tw t ht
    exact ⟨⟨x, by rw [if_neg (nid _ x h1)]; exact h1, by rw [om0 _ x h1]; exact h2, by rw [om0 _ x h1]; exact h3⟩, ⟨y, by rw [if_neg (nid _ y g1)]; exact g1, by rw [om0 _ y g1]; exact g2, by rw [om0 _ y g1]; exact g3⟩, hq⟩
  refine ⟨tw, fun id x hx => ?_, fun id x hx => ?_⟩
  · by_cases e : id = o.id
    · rw [if_pos e] at hx
      obtain rfl := Option.some.inj hx
      rw [upd_same, e]; rfl
    · rw [if_neg e] at hx
      rw [om0 id x hx]; exact h.ids id x hx
  · by_cases e : id = o.id
    · rw [if_pos e] at hx
      obtain rfl := Option.some.inj hx
      rw [upd_same]
      rw [sumT_zero (fun t ht => ?_)]
      · rfl
      · obtain ⟨⟨x, h1, _⟩, ⟨y, g1, _⟩, _⟩ := h.tw t ht
        unfold tq
        rw [e, if_neg (nid _ x h1), if_neg (nid _ y g1)]
        split <;> rfl
    · rw [if_neg e] at hx
      rw [om0 id x hx]; exact h.eq id x hx

theorem AV.enter {V : Ven} {n : Nat} {M : Int} (h : AV V) (g : GV V n M) (hM : M ≤ 1000000) {i b s t g' cap' : Nat} {o : Ask} {lm' : Lm} (hi : i < 2) (hs : s < 2) (hsym : o.sym = symN i) (hq1 : 0 ≤ o.qty) (hq2 : o.qty ≤ M) (hfree : V.oid o.id = none) (hb : ¬ VL V b) (iv : Inv b s ⟨V.B i, upd V.om b (newOrd o), V.lg.opened o.id⟩) :
    AV (V.enter i b s t g' cap' o lm') := by
  have hbo : ∀ id, V.oid id ≠ some b := fun id e => hb ⟨id, e⟩
  have f1 := h.fl.enter (o := o) hfree hbo
  have memb : ∀ x, Mem ((V.B i).n s) ((V.B i).h s) x → VL V x ∧ (V.om x).sym = symN i := fun x hx => ⟨(((g.gb i hi).mem s hs x).1 hx).1, (((g.gb i hi).mem s hs x).1 hx).2.1⟩
  have neb : ∀ x, Mem ((V.B i).n s) ((V.B i).h s) x → x ≠ b := fun x hx e => hb (e ▸ (memb x hx).1)
  have f2 := fl_matchF (M := M) (oid := fun id => if id = o.id then some b else V.oid id) hM hs (mu b s ⟨V.B i, upd V.om b (newOrd o), V.lg.opened o.id⟩) ⟨V.B i, upd V.om b (newOrd o), V.lg.opened o.id⟩ iv
    (heapU ((g.gb i hi).heap s hs) (fun k hk => neb _ ⟨k, hk, rfl⟩)) (fun x hx => by
      rcases hx with rfl | hx
      · simp only [upd_same]; exact newOrd_q hq1 hq2
      · simp only; rw [upd_other _ _ (neb x hx)]; exact g.q x (memb x hx).1) (by simp only [upd_same]; exact if_pos rfl) (fun x hx => by
      obtain ⟨⟨id, hid⟩, hsy⟩ := memb x hx
      have e1 := h.fl.ids id x hid
      simp only
      rw [upd_other _ _ (neb x hx), e1, if_neg (fun e => by rw [e, hfree] at hid; simp at hid)]
      exact ⟨hid, by rw [hsy, (g.gb i hi).bsym]⟩) (by simp only [upd_same]; rw [(g.gb i hi).bsym]; exact hsym) f1
  exact ⟨told_match _ _ h.told, come_fl f2, matchF_ty _ _ (by show (V.B i).sym.size ≤ _; rw [(g.gb i hi).bsym]; exact symN_ty i) h.ty⟩

theorem AV.anew {V : Ven} {n : Nat} {M M' : Int} (h : AV V) (g : GV V n M) (hMM : M ≤ M') (hM : M' ≤ 1000000) {i b s t k g' cap' : Nat} {o' : Ord} {lm' : Lm} (hi : i < 2) (hs : s < 2) (ht : t = 1 - s) (hk : k < (V.B i).n t) (hb : (V.B i).h t k = b) (h1 : o'.sym = (V.om b).sym) (h2 : o'.side = (V.om b).side) (h3 : o'.id = (V.om b).id) (h4 : o'.filled = (V.om b).filled) (hq : Qo M' o') (iv : Inv b s ⟨(V.B i).leave V.om t k, upd V.om b o', V.lg.moved b (V.om b)⟩) :
    AV (V.anew i b s t k g' cap' o' lm') := by
  have t2 : t < 2 := by omega
  have hmb := ((g.gb i hi).mem t t2 _).1 ⟨k, hk, rfl⟩
  rw [hb] at hmb
  have eN : ((V.B i).leave V.om t k).n s = (V.B i).n s := by simp only [Bk.leave]; rw [upd_other _ _ (by omega)]
  have eH : ((V.B i).leave V.om t k).h s = (V.B i).h s := by simp only [Bk.leave]; rw [upd_other _ _ (by omega)]
  have f1 : FL (upd V.om b o') V.oid (held V.lg.tr) (fun _ => 0) := h.fl.cong (fun x => by
    by_cases e : x = b
    · rw [e, upd_same]; exact ⟨h1, h2, h3, h4⟩
    · rw [upd_other _ _ e]; exact ⟨rfl, rfl, rfl, rfl⟩)
  have memb : ∀ x, Mem ((V.B i).n s) ((V.B i).h s) x → VL V x ∧ (V.om x).sym = symN i ∧ x ≠ b := fun x hx => by
    have m := ((g.gb i hi).mem s hs x).1 hx
    exact ⟨m.1, m.2.1, fun e => by have a := m.2.2.1; rw [e, hmb.2.2.1] at a; omega⟩
  obtain ⟨⟨idb, hidb⟩, hsb, _⟩ := hmb
  have f2 := fl_matchF (M := M') (oid := V.oid) hM hs (mu b s ⟨(V.B i).leave V.om t k, upd V.om b o', V.lg.moved b (V.om b)⟩) ⟨(V.B i).leave V.om t k, upd V.om b o', V.lg.moved b (V.om b)⟩ iv
    (by simp only [eN, eH]; exact heapU ((g.gb i hi).heap s hs) (fun k hk => (memb _ ⟨k, hk, rfl⟩).2.2)) (fun x hx => by
      rcases hx with rfl | hx
      · simp only [upd_same]; exact hq
      · simp only [MemS, eN, eH] at hx
        simp only; rw [upd_other _ _ (memb x hx).2.2]; exact (g.q x (memb x hx).1).mono hMM) (by simp only [upd_same]; rw [h3, h.fl.ids idb b hidb]; exact hidb) (fun x hx => by
      simp only [MemS, eN, eH] at hx
      obtain ⟨⟨id, hid⟩, hsy, hne⟩ := memb x hx
      have e1 := h.fl.ids id x hid
      simp only
      rw [upd_other _ _ hne, e1]
      exact ⟨hid, by rw [hsy]; exact (g.gb i hi).bsym.symm⟩) (by simp only [upd_same]; rw [h1, hsb]; exact (g.gb i hi).bsym.symm) f1
  exact ⟨told_match _ _ h.told, come_fl f2, matchF_ty _ _ (by show (V.B i).sym.size ≤ _; rw [(g.gb i hi).bsym]; exact symN_ty i) h.ty⟩

/-- orders and books turn, nothing is filled, and the log notes more -/
theorem AV.turn {V : Ven} (h : AV V) {V' : Ven} (ho : V'.oid = V.oid) (hm : ∀ x, (V'.om x).sym = (V.om x).sym ∧ (V'.om x).side = (V.om x).side ∧ (V'.om x).id = (V.om x).id ∧ (V'.om x).filled = (V.om x).filled) (h1 : V'.lg.tr = V.lg.tr) (h2 : V'.lg.tp = V.lg.tp) : AV V' := by
  refine ⟨?_, ?_, fun x hx => h.ty x (by rw [h2] at hx; exact hx)⟩
  · have := h.told
    unfold Lg.Told at this ⊢
    rw [h1, h2]; exact this
  · rw [ho, h1]; exact h.fl.cong hm

/-- what a trade had of an order is taken back -/
theorem FL.back {om om' : Nat → Ord} {oid : Int → Option Nat} {hl : List Tr} {ex ex' : Int → Int} (h : FL om oid hl ex) {id q : Int} {b : Nat} (hid : oid id = some b) (far : ∀ x, x ≠ b → om' x = om x)
    (h1 : (om' b).sym = (om b).sym) (h2 : (om' b).side = (om b).side) (h3 : (om' b).id = (om b).id) (h4 : (om' b).filled = (om b).filled - q) (e1 : ex' id = ex id - q) (e2 : ∀ j, j ≠ id → ex' j = ex j) : FL om' oid hl ex' := by
  have st : ∀ x, (om' x).sym = (om x).sym ∧ (om' x).side = (om x).side ∧ (om' x).id = (om x).id := fun x => by
    by_cases e : x = b
    · rw [e]; exact ⟨h1, h2, h3⟩
    · rw [far x e]; exact ⟨rfl, rfl, rfl⟩
  refine ⟨fun t ht => (h.tw t ht).cong (fun x => ⟨(st x).1, (st x).2.1⟩), fun j x hx => (st x).2.2.trans (h.ids j x hx), fun j x hx => ?_⟩
  rw [(st x).2.1]
  have h0 := h.eq j x hx
  by_cases e : j = id
  · subst e
    rw [hid] at hx
    obtain rfl := Option.some.inj hx
    rw [h4, e1, h0]; omega
  · have hne : x ≠ b := fun e2 => e (by rw [← h.ids j x hx, e2]; exact h.ids id b hid)
    rw [far x hne, e2 j e, h0]

/-- what is still to be taken back, where a trade holds no longer -/
def exT (t : Tr) (j : Int) : Int := (if j = t.buy then t.qty else 0) + (if j = t.sell then t.qty else 0)

theorem FL.unhold {om : Nat → Ord} {oid : Int → Option Nat} {tr : List Tg} {k : Nat} {x : Tg} (h : FL om oid (held tr) (fun _ => 0)) (hn : Numd tr) (hx : tr[k]? = some x) (hh : x.holds = true) : FL om oid (held (tr.set k ⟨x.t, false⟩)) (exT x.t) ∧ TW om oid x.t := by
  have hl := (List.getElem?_eq_some_iff.1 hx).1
  obtain ⟨e, _, _⟩ := held_split hn hx
  rw [hh, if_pos rfl] at e
  have e2 : held (tr.set k ⟨x.t, false⟩) = held (tr.take k) ++ held (tr.drop (k + 1)) := by
    rw [set_split hl, held_append, held_append, held_one]
    simp
  have hT : TW om oid x.t := h.tw x.t (by rw [e]; simp)
  rw [e2]
  rw [e] at h
  refine ⟨⟨fun t ht => h.tw t (by
    rcases List.mem_append.1 ht with a | a
    · simp [a]
    · simp [a]), h.ids, fun id b hb => ?_⟩, hT⟩
  have h0 := h.eq id b hb
  rw [sumT_append, sumT_append] at h0
  rw [sumT_append, h0]
  simp only [sumT]
  obtain ⟨⟨bx, b1, b2, b3⟩, ⟨sx, s1, s2, s3⟩, _⟩ := hT
  have key : tq (om b).side id x.t = exT x.t id := by
    unfold tq exT
    by_cases c1 : id = x.t.buy
    · have hb' : b = bx := by rw [c1, b1] at hb; exact (Option.some.inj hb).symm
      have n2 : ¬ id = x.t.sell := fun c2 => by
        rw [c2, s1] at hb
        have : sx = bx := (Option.some.inj hb).trans hb'
        rw [this, b3] at s3
        omega
      rw [hb', b3, if_pos rfl, if_pos c1.symm, if_pos c1, if_neg n2]; omega
    · by_cases c2 : id = x.t.sell
      · have hs' : b = sx := by rw [c2, s1] at hb; exact (Option.some.inj hb).symm
        rw [hs', s3, if_neg (by decide), if_pos c2.symm, if_neg c1, if_pos c2]; omega
      · have n1 : ¬ x.t.buy = id := fun e => c1 e.symm
        have n2 : ¬ x.t.sell = id := fun e => c2 e.symm
        simp only [if_neg n1, if_neg n2, if_neg c1, if_neg c2]
        split <;> rfl
  omega

end Go.Proofs.YtigaphnafnpfnaaGreatDoor

