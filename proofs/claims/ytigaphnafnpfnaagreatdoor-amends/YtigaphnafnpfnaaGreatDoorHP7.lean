import Derived.Test.YtigaphnafnpfnaaGreatDoorHP5
/- What is open of a side is what its book has. Without memory. -/
set_option linter.unusedVariables false
set_option linter.unusedSimpArgs false
namespace Go.Proofs.YtigaphnafnpfnaaGreatDoor
open Go.RowKit

/-- which of the four sides an order is of -/
def sideK (o : Ord) : Nat := o.side.toNat + (if o.sym = sG then 2 else 0)

/-- what is open of side k, of the first i orders -/
def openS (V : Ven) (k : Nat) : Nat → Int
  | 0 => 0
  | i + 1 => openS V k i + (if sideK (V.om (ob V i)) = k then (V.om (ob V i)).opn else 0)

theorem perm_of_same {l₁ l₂ : List Nat} (h1 : l₁.Nodup) (h2 : l₂.Nodup) (h : ∀ a, a ∈ l₁ ↔ a ∈ l₂) : l₁.Perm l₂ := by
  induction l₁ generalizing l₂ with
  | nil =>
    have : l₂ = [] := by
      cases l₂ with
      | nil => rfl
      | cons x l => exact absurd ((h x).2 (by simp)) (by simp)
    rw [this]
  | cons x l ih =>
    have hx : x ∈ l₂ := (h x).1 (by simp)
    rw [List.nodup_cons] at h1
    have hp := List.perm_cons_erase hx
    refine List.Perm.trans (List.Perm.cons x (ih h1.2 (h2.erase x) (fun a => ?_))) hp.symm
    rw [h2.mem_erase_iff]
    constructor
    · intro ha
      exact ⟨fun e => h1.1 (e ▸ ha), (h a).1 (by simp [ha])⟩
    · rintro ⟨hne, ha⟩
      have := (h a).2 ha
      simp only [List.mem_cons] at this
      exact this.resolve_left hne

theorem openS_list (V : Ven) (k : Nat) : ∀ i, openS V k i = sumL ((((List.range i).filter (fun j => decide (sideK (V.om (ob V j)) = k ∧ (V.om (ob V j)).opn ≠ 0))).map (fun j => ob V j)).map (fun x => (V.om x).opn)) := by
  intro i
  induction i with
  | zero => rfl
  | succ i ih =>
    rw [openS, ih, List.range_succ, List.filter_append, List.map_append, List.map_append, sumL_append]
    congr 1
    by_cases e : sideK (V.om (ob V i)) = k
    · by_cases e0 : (V.om (ob V i)).opn = 0
      · simp [e, e0, sumL]
      · simp [e, e0, sumL]
    · simp [e, sumL]

theorem sideK_iff {o : Ord} {k : Nat} (hk : k < 4) (hs : o.side = 0 ∨ o.side = 1) (hy : o.sym = sA ∨ o.sym = sG) : sideK o = k ↔ (o.sym = symN (k / 2) ∧ o.side = ((k % 2 : Nat) : Int)) := by
  unfold sideK symN
  have hne := sym_ne
  have : k = 0 ∨ k = 1 ∨ k = 2 ∨ k = 3 := by omega
  rcases hs with hs | hs <;> rcases hy with hy | hy <;> rw [hs, hy] <;> rcases this with rfl | rfl | rfl | rfl <;> simp [hne, Ne.symm hne]

/-- the sums are the same -/
theorem openS_book {V : Ven} {n : Nat} {M : Int} (h : GV V n M) (hid : ∀ id x, V.oid id = some x → (V.om x).id = id) {k : Nat} (hk : k < 4) : openS V k n = sumL ((upto ((V.B (k / 2)).h (k % 2)) ((V.B (k / 2)).n (k % 2))).map (fun x => (V.om x).opn)) := by
  have hi : k / 2 < 2 := by omega
  have hs : k % 2 < 2 := by omega
  rw [openS_list]
  refine sumL_perm (List.Perm.map _ (perm_of_same ?_ ?_ (fun x => ?_)))
  · refine List.Pairwise.map _ (R := fun a b => a ≠ b ∧ a < n ∧ b < n) (fun a b hab e => hab.1 ?_) ?_
    · have ea := h.ob hab.2.1
      have eb := h.ob hab.2.2
      rw [e, ← eb] at ea
      have e1 := hid _ _ (h.ob hab.2.2)
      have e2 := hid _ _ (by rw [ea]; exact h.ob hab.2.2 : V.oid ((a : Int) + 1) = some (ob V b))
      omega
    · refine List.Pairwise.filter _ ?_
      rw [List.pairwise_iff_getElem]
      intro a b ha hb hab
      simp only [List.length_range] at ha hb
      simp only [List.getElem_range]
      omega
  · unfold upto
    refine List.Pairwise.map _ (R := fun a b => a ≠ b ∧ a < (V.B (k / 2)).n (k % 2) ∧ b < (V.B (k / 2)).n (k % 2)) (fun a b hab e => hab.1 ((h.gb _ hi).inj _ hs a b hab.2.1 hab.2.2 e)) ?_
    rw [List.pairwise_iff_getElem]
    intro a b ha hb hab
    simp only [List.length_range] at ha hb
    simp only [List.getElem_range]
    omega
  · have hm := (h.gb _ hi).mem _ hs x
    constructor
    · intro hx
      simp only [List.mem_map, List.mem_filter, List.mem_range, decide_eq_true_eq] at hx
      obtain ⟨j, ⟨hj, hk', ho⟩, rfl⟩ := hx
      have hv : VL V (ob V j) := ⟨_, h.ob hj⟩
      obtain ⟨a, b⟩ := (sideK_iff hk (h.side _ hv) (h.sym _ hv)).1 hk'
      obtain ⟨l, hl, e⟩ := hm.2 ⟨hv, a, b, by have := (h.q _ hv).o0; omega⟩
      simp only [upto, List.mem_map, List.mem_range]
      exact ⟨l, hl, e.symm⟩
    · intro hx
      simp only [upto, List.mem_map, List.mem_range] at hx
      obtain ⟨l, hl, e⟩ := hx
      obtain ⟨⟨id, hv⟩, a, b, c⟩ := hm.1 ⟨l, hl, e.symm⟩
      have hr := (h.oid id).1 ⟨x, hv⟩
      simp only [List.mem_map, List.mem_filter, List.mem_range, decide_eq_true_eq]
      refine ⟨(id - 1).toNat, ?_⟩
      have ej : (((id - 1).toNat : Nat) : Int) + 1 = id := by omega
      have eo : ob V (id - 1).toNat = x := by
        have := h.ob (j := (id - 1).toNat) (by omega)
        rw [ej, hv] at this
        exact (Option.some.inj this).symm
      rw [eo]
      exact ⟨⟨by omega, (sideK_iff hk (h.side x ⟨id, hv⟩) (h.sym x ⟨id, hv⟩)).2 ⟨a, b⟩, by omega⟩, rfl⟩

theorem openS_bound {V : Ven} {n : Nat} {M : Int} (h : GV V n M) (hM : M ≤ 1000000) {k : Nat} : ∀ i, i ≤ n → 0 ≤ openS V k i ∧ openS V k i ≤ 1000000 * i := by
  intro i
  induction i with
  | zero => intro _; simp [openS]
  | succ i ih =>
    intro hi
    have h1 := ih (by omega)
    have q := h.q _ ⟨_, h.ob (j := i) (by omega)⟩
    have := q.sum; have := q.o0; have := q.f0; have := q.c0; have := q.e0; have := q.hi
    rw [openS]
    push_cast
    split <;> omega

end Go.Proofs.YtigaphnafnpfnaaGreatDoor

/- counted: what a picture says. Without walks. -/
set_option linter.unusedVariables false
set_option linter.unusedSimpArgs false
namespace Go.Proofs.YtigaphnafnpfnaaGreatDoor
open Go.RowKit Go.Maps

/-- a picture as it lies in memory -/
structure Seen (V : Ven) (n go gk : Nat) (xg xc : Nat → Nat) (xa : Nat → Option Addr) (lv : Nat → List Lvl) (W : World) : Prop where
  ord : ∀ i, i < n → ∀ j u, (statL (V.om (ob V i)))[j]? = some u → W.cell? ⟨go, i * 12 + j, none⟩ = some u
  bks : ∀ k, k < 4 → W.cell? ⟨gk, k, none⟩ = some (.slice (xa k) (lv k).length (xc k))
  lev : ∀ k, k < 4 → ∀ i l, (lv k)[i]? = some l → xa k = some ⟨xg k, 0, none⟩ ∧ W.cell? ⟨xg k, i * 3, none⟩ = some (.int .i64 l.price) ∧ W.cell? ⟨xg k, i * 3 + 1, none⟩ = some (.int .i64 l.qty) ∧ W.cell? ⟨xg k, i * 3 + 2, none⟩ = some (.int .i64 l.num)

theorem Seen.keep {V : Ven} {n go gk : Nat} {xg xc : Nat → Nat} {xa : Nat → Option Addr} {lv : Nat → List Lvl} {W W' : World} (h : Seen V n go gk xg xc xa lv W) (k : Chg Non W W') : Seen V n go gk xg xc xa lv W' :=
  ⟨fun i hi j u hu => k.cell (h.ord i hi j u hu) (fun x => x), fun j hj => k.cell (h.bks j hj) (fun x => x), fun j hj i l hl => by
    obtain ⟨a, b, c, d⟩ := h.lev j hj i l hl
    exact ⟨a, k.cell b (fun x => x), k.cell c (fun x => x), k.cell d (fun x => x)⟩⟩

theorem flatS_at : ∀ (os : List Ord) (i : Nat) (o : Ord) (j : Nat) (u : Value), os[i]? = some o → (statL o)[j]? = some u → (flatS os)[i * 12 + j]? = some u := by
  intro os
  induction os with
  | nil => intro i o j u h; simp at h
  | cons x os ih =>
    intro i o j u h hu
    have hl : (statL x).length = 12 := rfl
    have hj : j < 12 := by
      have := (List.getElem?_eq_some_iff.1 hu).1
      simpa [statL] using this
    show (statL x ++ flatS os)[i * 12 + j]? = some u
    cases i with
    | zero =>
      simp only [List.getElem?_cons_zero, Option.some.injEq] at h
      subst h
      rw [List.getElem?_append_left (by rw [hl]; omega)]
      simpa using hu
    | succ i =>
      simp only [List.getElem?_cons_succ] at h
      rw [List.getElem?_append_right (by rw [hl]; omega), hl]
      have e : (i + 1) * 12 + j - 12 = i * 12 + j := by omega
      rw [e]
      exact ih i o j u h hu

/-- the cells of a row -/
theorem own_cell {w : World} {base e size m cap : Nat} {a : Option Addr} {xs : List Value} (h : w.ownsRow base e size (.slice a m cap) m xs) (hm : 0 < m) : ∃ g, a = some ⟨g, 0, none⟩ ∧ ∀ i u, xs[i]? = some u → w.cell? ⟨g, i, none⟩ = some u := by
  rcases h.2 with ⟨h0, h1⟩ | ⟨g, c, cur, hv, _, hg, _, _, _, ht⟩
  · omega
  · injection hv with h1 h2 h3
    refine ⟨g, h1, fun i u hu => ?_⟩
    rw [← ht] at hu
    have hi := (List.getElem?_eq_some_iff.1 hu).1
    rw [List.getElem?_take] at hu
    split at hu
    · simp [World.cell?, hg]
      simpa using hu
    · simp at hu

theorem flatL_at : ∀ (ls : List Lvl) (i : Nat) (l : Lvl), ls[i]? = some l → (flat ls)[i * 3]? = some (.int .i64 l.price) ∧ (flat ls)[i * 3 + 1]? = some (.int .i64 l.qty) ∧ (flat ls)[i * 3 + 2]? = some (.int .i64 l.num) := by
  intro ls
  induction ls with
  | nil => intro i l h; simp at h
  | cons x ls ih =>
    intro i l h
    have hf : flat (x :: ls) = .int .i64 x.price :: .int .i64 x.qty :: .int .i64 x.num :: flat ls := rfl
    rw [hf]
    cases i with
    | zero =>
      simp only [List.getElem?_cons_zero, Option.some.injEq] at h
      subst h
      exact ⟨rfl, rfl, rfl⟩
    | succ i =>
      simp only [List.getElem?_cons_succ] at h
      have e : (i + 1) * 3 = i * 3 + 3 := by omega
      rw [e]
      exact ih i l h

/-- what a good venue's picture says -/
structure Fine (V : Ven) (n : Nat) (lv : Nat → List Lvl) : Prop where
  sum : ∀ k, k < 4 → sumL ((lv k).map (·.qty)) = openS V k n
  num : ∀ k, k < 4 → ∀ l ∈ lv k, 1 ≤ l.num ∧ l.num ≤ l.qty ∧ l.qty ≤ 1000000000
  mono : ∀ k, k < 4 → (lv k).Pairwise (fun a b => worse ((k % 2 : Nat) : Int) a.price b.price)
  cross : ∀ k, k < 4 → k % 2 = 0 → ∀ l ∈ lv k, ∀ l' ∈ lv (k + 1), l.price < l'.price
  len : ∀ k, k < 4 → (lv k).length ≤ 1000
  open_ : ∀ k i, i ≤ n → 0 ≤ openS V k i ∧ openS V k i ≤ 1000000 * i

theorem lvStep_len (ls : List Lvl) (o : Ord) : (lvStep ls o).length ≤ ls.length + 1 := by
  unfold lvStep
  split
  · split
    · simp only [List.length_append, List.length_dropLast, List.length_cons, List.length_nil]; omega
    · simp
  · simp
theorem levels_len (os : List Ord) : (levelsOf os).length ≤ os.length := by
  have : ∀ (os : List Ord) (ls : List Lvl), (os.foldl lvStep ls).length ≤ ls.length + os.length := by
    intro os
    induction os with
    | nil => intro ls; simp
    | cons o os ih => intro ls; have := ih (lvStep ls o); have := lvStep_len ls o; simp only [List.foldl_cons, List.length_cons]; omega
  have := this os []
  simpa [levelsOf] using this

theorem fine_of {V : Ven} {n : Nat} {M : Int} (h : GV V n M) (hM : M ≤ 1000000) (hn : n ≤ 100) (hid : ∀ id x, V.oid id = some x → (V.om x).id = id) (ys : Nat → List Nat) (hy : ∀ k, k < 4 → SortYs V.om ((V.B (k / 2)).n (k % 2)) ((V.B (k / 2)).h (k % 2)) (ys k)) (hlen : ∀ k, k < 4 → (V.B (k / 2)).n (k % 2) ≤ 1000) : Fine V n (fun k => levelsOf (ordsOf V.om (ys k))) := by
  have hz : ∀ k, k < 4 → ∀ j, j < (V.B (k / 2)).n (k % 2) → 0 < (V.om ((V.B (k / 2)).h (k % 2) j)).opn ∧ (V.om ((V.B (k / 2)).h (k % 2) j)).opn ≤ 1000000 := fun k hk j hj => by
    obtain ⟨a, _, _, d⟩ := ((h.gb _ (by omega)).mem _ (by omega) _).1 ⟨j, hj, rfl⟩
    have q := h.q _ a
    have := q.sum; have := q.o0; have := q.f0; have := q.c0; have := q.e0; have := q.hi
    omega
  have hL := fun k (hk : k < 4) => levels_side (hy k hk) (s := k % 2) (by omega) (fun j hj => (h.gb _ (by omega)).side (by omega) hj) (hz k hk) (hlen k hk)
  refine ⟨fun k hk => ?_, fun k hk l hl => ?_, fun k hk => (hL k hk).1.mono, fun k hk he l hl l' hl' => ?_, fun k hk => ?_, fun k i hi => openS_bound h hM i hi⟩
  · rw [openS_book h hid hk]
    exact (hL k hk).1.sum.trans (hL k hk).2.2
  · have := (hL k hk).1.num l hl
    have e := (hL k hk).2.2
    rw [← openS_book h hid hk] at e
    have := openS_bound h hM (k := k) n (Nat.le_refl _)
    omega
  · have hk1 : k + 1 < 4 := by omega
    obtain ⟨o, ho, ep⟩ := (hL k hk).1.src l hl
    obtain ⟨o', ho', ep'⟩ := (hL (k + 1) hk1).1.src l' hl'
    obtain ⟨j, hj, rfl⟩ := (hL k hk).2.1 o ho
    obtain ⟨j', hj', rfl⟩ := (hL (k + 1) hk1).2.1 o' ho'
    rw [← ep, ← ep']
    have e0 : k % 2 = 0 := he
    have e1 : (k + 1) % 2 = 1 := by omega
    have e2 : (k + 1) / 2 = k / 2 := by omega
    rw [e1, e2] at hj' ⊢
    rw [e0] at hj ⊢
    exact (h.gb _ (by omega)).cross _ _ ⟨j, hj, rfl⟩ ⟨j', hj', rfl⟩
  · refine Nat.le_trans (levels_len _) ?_
    have := (hy k hk).1.length_eq
    rw [upto_length] at this
    have := hlen k hk
    simp only [ordsOf, List.length_map]
    omega

/-- out of what looks gives -/
theorem seen_of {V : Ven} {n base : Nat} {oa ka : Option Addr} {oc kc : Nat} {vs : List Value} {w : World} (h1 : w.ownsRow base 54 12 (.slice oa n oc) n (flatS (osOf V n))) (h2 : w.ownsRow base 63 1 (.slice ka 4 kc) 4 vs) (h3 : ∀ k v, vs[k]? = some v → BkOK V base w k v) :
    ∃ (go gk : Nat) (xg xc : Nat → Nat) (xa : Nat → Option Addr) (ys : Nat → List Nat), (0 < n → oa = some ⟨go, 0, none⟩) ∧ ka = some ⟨gk, 0, none⟩ ∧ (∀ k, k < 4 → SortYs V.om ((V.B (k / 2)).n (k % 2)) ((V.B (k / 2)).h (k % 2)) (ys k)) ∧ Seen V n go gk xg xc xa (fun k => levelsOf (ordsOf V.om (ys k))) w := by
  obtain ⟨gk, rfl, hk⟩ := own_cell h2 (by omega)
  have hv : ∀ k, k < 4 → ∃ v, vs[k]? = some v := fun k hk => by
    have : vs.length = 4 := by have := h2.1; omega
    exact ⟨vs[k], List.getElem?_eq_getElem (by omega)⟩
  have hB : ∀ k, ∃ (xg xc : Nat) (xa : Option Addr) (ys : List Nat), k < 4 → SortYs V.om ((V.B (k / 2)).n (k % 2)) ((V.B (k / 2)).h (k % 2)) ys ∧ vs[k]? = some (.slice xa (levelsOf (ordsOf V.om ys)).length xc) ∧ (∀ i l, (levelsOf (ordsOf V.om ys))[i]? = some l → xa = some ⟨xg, 0, none⟩ ∧ w.cell? ⟨xg, i * 3, none⟩ = some (.int .i64 l.price) ∧ w.cell? ⟨xg, i * 3 + 1, none⟩ = some (.int .i64 l.qty) ∧ w.cell? ⟨xg, i * 3 + 2, none⟩ = some (.int .i64 l.num)) := fun k => by
    by_cases hk4 : k < 4
    · obtain ⟨v, hv⟩ := hv k hk4
      obtain ⟨ys, hy, hl⟩ := h3 k v hv
      obtain ⟨va, vc, rfl⟩ := hl.form
      by_cases h0 : 0 < (levelsOf (ordsOf V.om ys)).length
      · obtain ⟨g, rfl, hc⟩ := own_cell hl.owns h0
        exact ⟨g, vc, _, ys, fun _ => ⟨hy, hv, fun i l hil => by
          obtain ⟨a, b, c⟩ := flatL_at _ i l hil
          exact ⟨rfl, hc _ _ a, hc _ _ b, hc _ _ c⟩⟩⟩
      · refine ⟨0, vc, va, ys, fun _ => ⟨hy, hv, fun i l hil => ?_⟩⟩
        have := (List.getElem?_eq_some_iff.1 hil).1
        omega
    · exact ⟨0, 0, none, [], fun h => absurd h hk4⟩
  obtain ⟨xg, hB⟩ := Classical.axiomOfChoice hB
  obtain ⟨xc, hB⟩ := Classical.axiomOfChoice hB
  obtain ⟨xa, hB⟩ := Classical.axiomOfChoice hB
  obtain ⟨ys, hX⟩ := Classical.axiomOfChoice hB
  have hO : ∃ go, (0 < n → oa = some ⟨go, 0, none⟩) ∧ ∀ i, i < n → ∀ j u, (statL (V.om (ob V i)))[j]? = some u → w.cell? ⟨go, i * 12 + j, none⟩ = some u := by
    by_cases hn : 0 < n
    · obtain ⟨g, rfl, hc⟩ := own_cell h1 hn
      exact ⟨g, fun _ => rfl, fun i hi j u hu => hc _ _ (flatS_at _ i (V.om (ob V i)) j u (by simp [osOf, hi]) hu)⟩
    · exact ⟨0, fun h => absurd h hn, fun i hi => absurd hi (by omega)⟩
  obtain ⟨go, ho, hoc⟩ := hO
  exact ⟨go, gk, xg, xc, xa, ys, ho, rfl, fun k hk => (hX k hk).1, ⟨hoc, fun k hk' => hk k _ (hX k hk').2.1, fun k hk' => (hX k hk').2.2⟩⟩

end Go.Proofs.YtigaphnafnpfnaaGreatDoor

