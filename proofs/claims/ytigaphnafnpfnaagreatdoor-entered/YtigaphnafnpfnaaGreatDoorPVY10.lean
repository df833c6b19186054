import Derived.Test.YtigaphnafnpfnaaGreatDoorPVY4
import Derived.Test.YtigaphnafnpfnaaGreatDoorPVE9
import Derived.Test.YtigaphnafnpfnaaGreatDoorPVX6
import Derived.Test.YtigaphnafnpfnaaGreatDoorPVX15
import Derived.Deep.CutRange
import Derived.Test.YtigaphnafnpfnaaGreatDoorPVZ1
import Derived.Test.YtigaphnafnpfnaaGreatDoorPVE16
import Derived.Test.YtigaphnafnpfnaaGreatDoorPVX16
import Derived.Test.YtigaphnafnpfnaaGreatDoorPVX21
import Derived.Test.YtigaphnafnpfnaaGreatDoorPVT2
import Derived.Test.YtigaphnafnpfnaaGreatDoorPVN2
import Derived.Test.YtigaphnafnpfnaaGreatDoorPVE14
set_option linter.unusedVariables false
set_option linter.unusedSimpArgs false
/- Why an order may not come: the program's reasons are the document's. Without memory. -/
namespace Go.Proofs.YtigaphnafnpfnaaGreatDoor
open Go.RowKit

theorem SimV.there {p : Nat → Nat} {V : Ven} {S : RS} {N : Nat} (h : SimV p V S N) (s : ByteArray) : symB S.sy s = true ↔ ∃ i, i < V.nb ∧ (V.B i).sym = s := by
  constructor
  · intro hx
    rw [symB, List.any_eq_true] at hx
    obtain ⟨x, hx, e⟩ := hx
    simp only [decide_eq_true_eq] at e
    subst e
    obtain ⟨i, hi⟩ := List.getElem?_of_mem hx
    have hl := (List.getElem?_eq_some_iff.1 hi).1
    rw [← h.nb] at hl
    have := h.sym i hl
    rw [hi] at this
    exact ⟨i, hl, (Option.some.inj this).symm⟩
  · rintro ⟨i, hi, rfl⟩
    exact symB_true (h.sym i hi)

theorem below (f : Nat → Nat) : ∀ n, ∃ b, ∀ k, k < n → f k < b
  | 0 => ⟨0, fun k hk => by omega⟩
  | n + 1 => by
    obtain ⟨b, hb⟩ := below f n
    refine ⟨b + f n + 1, fun k hk => ?_⟩
    by_cases e : k = n
    · subst e; omega
    · have := hb k (by omega); omega

theorem SimV.free {p : Nat → Nat} {V : Ven} {S : RS} {N : Nat} (h : SimV p V S N) : ∃ b, ¬ VL V b := by
  obtain ⟨b, hb⟩ := below p S.l.length
  refine ⟨b, fun hv => ?_⟩
  obtain ⟨k, hk, e⟩ := (h.vl b).1 hv
  have := hb k hk
  omega

theorem bestX_congr {l l' : List Ord} (o : Ask) : ∀ n, (∀ k, k < n → nthO l k = nthO l' k) → bestX l o n = bestX l' o n
  | 0, _ => rfl
  | n + 1, h => by
    have ih := bestX_congr o n (fun k hk => h k (by omega))
    unfold bestX
    rw [ih, h n (by omega)]
    cases hb : bestX l' o n with
    | none => rfl
    | some b =>
      have hlt := bestX_lt l' o n b hb
      simp only
      rw [h b (by omega)]

theorem SimV.cross {p : Nat → Nat} {V : Ven} {S : RS} {N : Nat} (h : SimV p V S N) {o : Ask} {ib s t : Nat} (hib : ib < V.nb) (hs : s < 2) (ht : t = 1 - s) (hsym : o.sym = (V.B ib).sym) (hside : o.side = (t : Int)) : (firstG (V.B ib) V.om o s).isSome = (bestR S.l o).isSome := by
  obtain ⟨b, hb⟩ := h.free
  have hc := h.comes hib hs ht hsym hside hb
  have hm : ∀ k, k < (V.B ib).n s → VL V ((V.B ib).h s k) := fun k hk => (((h.gw.gb ib hib).mem s hs _).1 ⟨k, hk, rfl⟩).1
  have hh : HeapOK (ltB (upd V.om b (newOrd o))) ((V.B ib).n s) ((V.B ib).h s) := ((h.gw.gb ib hib).heap s hs).cong (fun j k hj hk => by
    have h1 : (V.B ib).h s j ≠ b := fun e => hb (e ▸ hm j hj)
    have h2 : (V.B ib).h s k ≠ b := fun e => hb (e ▸ hm k hk)
    unfold ltB
    rw [upd_other _ _ h1, upd_other _ _ h2])
  have hbest := hc.best hs hh
  have l0 : (S.fresh.add o).l = S.l ++ [newR o] := rfl
  rw [l0] at hbest
  rw [nthO_snoc_eq, upd_same] at hbest
  have e1 : askOf (newR o) = o := rfl
  have e2 : askOf (newOrd o) = o := rfl
  rw [e1, e2] at hbest
  have e3 : bestR (S.l ++ [newR o]) o = bestR S.l o := by
    unfold bestR
    rw [List.length_append, List.length_singleton]
    rw [bestX]
    have hg : goodR o (nthO (S.l ++ [newR o]) S.l.length) = false := by rw [nthO_snoc_eq]; rfl
    rw [hg]
    simp only [Bool.false_eq_true, if_false]
    exact bestX_congr o _ (fun k hk => nthO_snoc_lt hk)
  rw [e3] at hbest
  have e4 : firstG (V.B ib) (upd V.om b (newOrd o)) o s = firstG (V.B ib) V.om o s := by
    unfold firstG
    by_cases e : (V.B ib).n s = 0
    · rw [if_pos e, if_pos e]
    · have hne : (V.B ib).h s 0 ≠ b := fun e2 => hb (e2 ▸ hm 0 (by omega))
      rw [if_neg e, if_neg e, upd_other _ _ hne]
  rw [e4] at hbest
  rw [← hbest]
  cases bestR S.l o <;> rfl

def sumI : List Int → Int
  | [] => 0
  | x :: l => x + sumI l
theorem sumI_append (a b : List Int) : sumI (a ++ b) = sumI a + sumI b := by
  induction a with
  | nil => simp [sumI]
  | cons x l ih => simp only [List.cons_append, sumI, ih]; omega
theorem sumI_perm {a b : List Int} (h : a.Perm b) : sumI a = sumI b := by
  induction h with
  | nil => rfl
  | cons x _ ih => simp only [sumI, ih]
  | swap x y l => simp only [sumI]; omega
  | trans _ _ h1 h2 => rw [h1, h2]

theorem perm_same {l₁ l₂ : List Nat} (h1 : l₁.Nodup) (h2 : l₂.Nodup) (h : ∀ a, a ∈ l₁ ↔ a ∈ l₂) : l₁.Perm l₂ := by
  induction l₁ generalizing l₂ with
  | nil =>
    have : l₂ = [] := by
      cases l₂ with
      | nil => rfl
      | cons x l => exact absurd ((h x).2 (by simp)) (by simp)
    rw [this]
  | cons x l ih =>
    have hx : x ∈ l₂ := (h x).1 (by simp)
    rw [List.nodup_cons] at h1
    have hp := List.perm_cons_erase hx
    refine List.Perm.trans (List.Perm.cons x (ih h1.2 (h2.erase x) (fun a => ?_))) hp.symm
    rw [h2.mem_erase_iff]
    constructor
    · intro ha
      exact ⟨fun e => h1.1 (e ▸ ha), (h a).1 (by simp [ha])⟩
    · rintro ⟨hne, ha⟩
      have := (h a).2 ha
      simp only [List.mem_cons] at this
      exact this.resolve_left hne

/-- the places of the orders of a side -/
def idx (l : List Ord) (sym : ByteArray) (s : Nat) : List Nat := (List.range l.length).filter (fun k => decide ((nthO l k).sym = sym ∧ (nthO l k).side = (s : Int) ∧ 0 < (nthO l k).opn))

theorem range_ne (n : Nat) : (List.range n).Pairwise (fun a b => a ≠ b ∧ a < n ∧ b < n) := by
  rw [List.pairwise_iff_getElem]
  intro a b ha hb hab
  simp only [List.length_range] at ha hb
  simp only [List.getElem_range]
  omega

theorem mem_idx {l : List Ord} {sym : ByteArray} {s k : Nat} : k ∈ idx l sym s ↔ (k < l.length ∧ (nthO l k).sym = sym ∧ (nthO l k).side = (s : Int) ∧ 0 < (nthO l k).opn) := by
  unfold idx
  rw [List.mem_filter, List.mem_range, decide_eq_true_eq]

theorem SimV.perm {p : Nat → Nat} {V : Ven} {S : RS} {N : Nat} (h : SimV p V S N) {i s : Nat} (hi : i < V.nb) (hs : s < 2) : (upto ((V.B i).h s) ((V.B i).n s)).Perm ((idx S.l (V.B i).sym s).map p) := by
  refine perm_same ?_ ?_ (fun x => ?_)
  · unfold upto
    refine List.Pairwise.map _ (R := fun a b => a ≠ b ∧ a < (V.B i).n s ∧ b < (V.B i).n s) (fun a b hab e => hab.1 ((h.gw.gb i hi).inj s hs a b hab.2.1 hab.2.2 e)) (range_ne _)
  · refine List.Pairwise.map _ (R := fun a b => a ≠ b ∧ a < S.l.length ∧ b < S.l.length) (fun a b hab e => hab.1 (h.inj a b hab.2.1 hab.2.2 e)) ?_
    exact List.Pairwise.filter _ (range_ne _)
  · constructor
    · intro hx
      unfold upto at hx
      rw [List.mem_map] at hx
      obtain ⟨k, hk, rfl⟩ := hx
      rw [List.mem_range] at hk
      obtain ⟨a, b, c, d⟩ := ((h.gw.gb i hi).mem s hs _).1 ⟨k, hk, rfl⟩
      obtain ⟨j, hj, e⟩ := (h.vl _).1 a
      obtain ⟨_, _, e3, e4, _, _, _, _, e9, _⟩ := noP_f (h.same j hj)
      rw [e] at e3 e4 e9
      rw [List.mem_map]
      exact ⟨j, mem_idx.2 ⟨hj, by rw [← e3]; exact b, by rw [← e4]; exact c, by rw [← e9]; exact d⟩, e⟩
    · intro hx
      rw [List.mem_map] at hx
      obtain ⟨j, hj, rfl⟩ := hx
      obtain ⟨hj, b, c, d⟩ := mem_idx.1 hj
      obtain ⟨_, _, e3, e4, _, _, _, _, e9, _⟩ := noP_f (h.same j hj)
      obtain ⟨k, hk, e⟩ := ((h.gw.gb i hi).mem s hs (p j)).2 ⟨(h.vl _).2 ⟨j, hj, rfl⟩, by rw [e3]; exact b, by rw [e4]; exact c, by rw [e9]; exact d⟩
      unfold upto
      rw [List.mem_map]
      exact ⟨k, List.mem_range.2 hk, e.symm⟩

/-- what an order offers to one that comes -/
def offO (o : Ask) (x : Ord) : Int := if x.owner ≠ o.owner ∧ goodB o.kind o.side o.price x.price = true then x.opn else 0

theorem supF_sum (om : Nat → Ord) (h : Nat → Nat) (o : Ask) : ∀ n, supF om h o n = sumI ((upto h n).map (fun x => offO o (om x)))
  | 0 => rfl
  | n + 1 => by
    rw [supF, supF_sum om h o n]
    unfold upto
    rw [List.range_succ, List.map_append, List.map_append, sumI_append]
    simp only [List.map_cons, List.map_nil, sumI, offO]
    omega

theorem offX_sum (l : List Ord) (o : Ask) (s : Nat) (hs : s < 2) (hside : o.side = 1 - (s : Int)) (sd : ∀ k, k < l.length → (nthO l k).side = 0 ∨ (nthO l k).side = 1) (op : ∀ k, k < l.length → 0 ≤ (nthO l k).opn) : ∀ n, n ≤ l.length → offX l o n = sumI (((List.range n).filter (fun k => decide ((nthO l k).sym = o.sym ∧ (nthO l k).side = (s : Int) ∧ 0 < (nthO l k).opn))).map (fun k => offO o (nthO l k)))
  | 0, _ => rfl
  | n + 1, hn => by
    rw [offX, offX_sum l o s hs hside sd op n (by omega), List.range_succ, List.filter_append, List.map_append, sumI_append]
    congr 1
    have h1 := sd n (by omega)
    have h2 := op n (by omega)
    unfold goodR
    by_cases c1 : (nthO l n).sym = o.sym ∧ (nthO l n).side = (s : Int) ∧ 0 < (nthO l n).opn
    · obtain ⟨a, b, c⟩ := c1
      have hne : ¬ (nthO l n).side = o.side := by omega
      have hop : ¬ (nthO l n).opn = 0 := by omega
      rw [List.filter_cons_of_pos (by simp [a, b, c])]
      simp only [List.filter_nil, List.map_cons, List.map_nil, sumI, offO, Int.add_zero]
      simp only [Bool.and_eq_true, Bool.not_eq_true', beq_eq_false_iff_ne, ne_eq, decide_eq_true_eq, a, hne, hop, not_false_eq_true, true_and, and_true]
      by_cases c2 : goodB o.kind o.side o.price (nthO l n).price = true <;> by_cases c3 : (nthO l n).owner = o.owner <;> simp [c2, c3]
    · rw [List.filter_cons_of_neg (by simpa using c1)]
      simp only [List.filter_nil, List.map_nil, sumI]
      rw [if_neg]
      rintro ⟨hg, _⟩
      simp only [Bool.and_eq_true, Bool.not_eq_true', beq_eq_false_iff_ne, ne_eq, decide_eq_true_eq] at hg
      obtain ⟨⟨⟨g1, g2⟩, g3⟩, _⟩ := hg
      exact c1 ⟨g2, by omega, by omega⟩

theorem SimV.whole {p : Nat → Nat} {V : Ven} {S : RS} {N : Nat} (h : SimV p V S N) {o : Ask} {ib s t : Nat} (hib : ib < V.nb) (hs : s < 2) (ht : t = 1 - s) (hsym : o.sym = (V.B ib).sym) (hside : o.side = (t : Int)) : supF V.om ((V.B ib).h s) o ((V.B ib).n s) = offX S.l o S.l.length := by
  rw [supF_sum, offX_sum S.l o s hs (by omega) (fun k hk => h.side hk) (fun k hk => (h.opn hk).1) _ (Nat.le_refl _), sumI_perm (List.Perm.map _ (h.perm hib hs)), List.map_map, hsym]
  have : ∀ k ∈ idx S.l (V.B ib).sym s, ((fun x => offO o (V.om x)) ∘ p) k = offO o (nthO S.l k) := fun k hk => by
    obtain ⟨_, e2, _, _, _, e6, _, _, e9, _⟩ := noP_f (h.same k (mem_idx.1 hk).1)
    simp only [Function.comp, offO, e2, e6, e9]
  rw [List.map_congr_left this]
  rfl

end Go.Proofs.YtigaphnafnpfnaaGreatDoor

set_option linter.unusedVariables false
set_option linter.unusedSimpArgs false
/- The levels of a side: sorted and put together, or the best price again and again. Without memory. -/
namespace Go.Proofs.YtigaphnafnpfnaaGreatDoor
open Go.RowKit

/-- a price is better than another -/
def bef (s : Int) (p q : Int) : Prop := if s = 0 then q < p else p < q
theorem bef_irr (s p : Int) : ¬ bef s p p := by unfold bef; split <;> omega
theorem bef_tot {s p q : Int} (h : ¬ bef s p q) (hne : p ≠ q) : bef s q p := by unfold bef at *; split at h <;> split <;> omega
theorem bef_trans {s p q r : Int} (h : bef s p q) (k : bef s q r) : bef s p r := by unfold bef at *; split at h <;> split at k <;> (try split) <;> omega
theorem bef_asym {s p q : Int} (h : bef s p q) : ¬ bef s q p := by unfold bef at *; split at h <;> split <;> omega
theorem bef_le {s p q r : Int} (h : bef s p q) (k : ¬ bef s r q) : bef s p r := by unfold bef at *; split at h <;> split at k <;> (try split) <;> omega

/-- price and what is open -/
def po (o : Ord) : Int × Int := (o.price, o.opn)
def qs (p : Int) (L : List (Int × Int)) : Int := sumI ((L.filter (fun x => decide (x.1 = p))).map (·.2))
def cn (p : Int) (L : List (Int × Int)) : Int := ((L.filter (fun x => decide (x.1 = p))).length : Int)

theorem qs_snoc (p : Int) (L : List (Int × Int)) (a : Int × Int) : qs p (L ++ [a]) = qs p L + (if a.1 = p then a.2 else 0) := by
  unfold qs
  rw [List.filter_append, List.map_append, sumI_append]
  congr 1
  by_cases h : a.1 = p <;> simp [h, sumI]
theorem cn_snoc (p : Int) (L : List (Int × Int)) (a : Int × Int) : cn p (L ++ [a]) = cn p L + (if a.1 = p then 1 else 0) := by
  unfold cn
  rw [List.filter_append, List.length_append]
  by_cases h : a.1 = p <;> simp [h]
theorem qs_none {p : Int} {L : List (Int × Int)} (h : ∀ a ∈ L, a.1 ≠ p) : qs p L = 0 ∧ cn p L = 0 := by
  have : L.filter (fun x => decide (x.1 = p)) = [] := by
    rw [List.filter_eq_nil_iff]
    intro a ha
    simpa using h a ha
  unfold qs cn
  rw [this]
  exact ⟨rfl, rfl⟩
theorem qs_perm (p : Int) {L L' : List (Int × Int)} (h : L.Perm L') : qs p L = qs p L' ∧ cn p L = cn p L' := by
  unfold qs cn
  have := h.filter (fun x => decide (x.1 = p))
  exact ⟨sumI_perm (this.map _), by rw [this.length_eq]⟩
theorem qs_b (p : Int) (L : List (Int × Int)) (h : ∀ a ∈ L, 0 ≤ a.2 ∧ a.2 ≤ 1000000000000000) : 0 ≤ qs p L ∧ qs p L ≤ L.length * 1000000000000000 ∧ 0 ≤ cn p L ∧ cn p L ≤ L.length := by
  induction L with
  | nil => simp [qs, cn, sumI]
  | cons a L ih =>
    have h1 := h a (by simp)
    have h2 := ih (fun x hx => h x (by simp [hx]))
    by_cases e : a.1 = p
    · have e1 : qs p (a :: L) = a.2 + qs p L := by unfold qs; rw [List.filter_cons_of_pos (by simpa using e)]; rfl
      have e2 : cn p (a :: L) = cn p L + 1 := by unfold cn; rw [List.filter_cons_of_pos (by simpa using e)]; simp
      rw [e1, e2, List.length_cons]
      push_cast
      omega
    · have e1 : qs p (a :: L) = qs p L := by unfold qs; rw [List.filter_cons_of_neg (by simpa using e)]
      have e2 : cn p (a :: L) = cn p L := by unfold cn; rw [List.filter_cons_of_neg (by simpa using e)]
      rw [e1, e2, List.length_cons]
      push_cast
      omega
theorem cn_pos {p : Int} {L : List (Int × Int)} (h : 0 < cn p L) : ∃ a ∈ L, a.1 = p := by
  by_cases h0 : ∀ a ∈ L, a.1 ≠ p
  · rw [(qs_none h0).2] at h; omega
  · simp only [ne_eq, Classical.not_forall, Classical.not_not, not_imp] at h0
    obtain ⟨a, ha, e⟩ := h0
    exact ⟨a, ha, e⟩

/-- the levels of a list -/
structure LvS (s : Int) (A : List (Int × Int)) (ls : List Lvl) : Prop where
  ord : ls.Pairwise (fun a b => bef s a.price b.price)
  val : ∀ l ∈ ls, l.qty = qs l.price A ∧ l.num = cn l.price A ∧ 0 < l.num
  all : ∀ a ∈ A, ∃ l ∈ ls, l.price = a.1

theorem lv_spec (s : Int) (os : List Ord) (hl : os.length ≤ 1000) (hb : ∀ o ∈ os, 0 ≤ o.opn ∧ o.opn ≤ 1000000000000000) (hs : os.Pairwise (fun a b => ¬ bef s b.price a.price)) :
    LvS s (os.map po) (levelsOf os) := by
  have gen : ∀ (A B : List Ord) (ls : List Lvl), A ++ B = os → LvS s (A.map po) ls → (∀ l, ls.getLast? = some l → ∃ o, A.getLast? = some o ∧ o.price = l.price) → (ls = [] → A = []) → LvS s (os.map po) (B.foldl lvStep ls) := by
    intro A B
    induction B generalizing A with
    | nil => intro ls e h _ _; rw [List.append_nil] at e; subst e; exact h
    | cons o B ih =>
      intro ls e h hlast hnil
      have e' : (A ++ [o]) ++ B = os := by rw [← e]; simp
      rw [List.foldl_cons]
      have hA : ∀ x ∈ A, ¬ bef s o.price x.price := by
        intro x hx
        rw [← e', List.append_assoc, List.pairwise_append] at hs
        exact hs.2.2 x hx o (by simp)
      have ho := hb o (by rw [← e]; simp)
      have hbA : ∀ a ∈ A.map po, 0 ≤ a.2 ∧ a.2 ≤ 1000000000000000 := by
        intro a ha
        rw [List.mem_map] at ha
        obtain ⟨x, hx, rfl⟩ := ha
        exact hb x (by rw [← e]; simp [hx])
      have hlA : (A.map po).length ≤ 1000 := by rw [List.length_map]; rw [← e, List.length_append] at hl; omega
      have hmap : (A ++ [o]).map po = A.map po ++ [(o.price, o.opn)] := by simp [po]
      have hall : ∀ l ∈ ls, ¬ bef s o.price l.price := by
        intro l hl2
        obtain ⟨_, h2, h3⟩ := h.val l hl2
        obtain ⟨a, ha, e2⟩ := cn_pos (by rw [← h2]; exact h3)
        rw [List.mem_map] at ha
        obtain ⟨x, hx, rfl⟩ := ha
        have := hA x hx
        rw [← e2]; exact this
      refine ih (A ++ [o]) (lvStep ls o) e' ?_ ?_ ?_
      · rcases List.eq_nil_or_concat ls with rfl | ⟨ini, l, e3⟩
        · have : A = [] := hnil rfl
          subst this
          refine ⟨by simp [lvStep], fun l hl2 => ?_, fun a ha => ?_⟩
          · simp only [lvStep, List.getLast?_nil, List.mem_singleton] at hl2
            subst hl2
            simp only [List.nil_append, List.map_cons, List.map_nil]
            have q1 := qs_snoc o.price [] (po o)
            have q2 := cn_snoc o.price [] (po o)
            rw [List.nil_append] at q1 q2
            rw [q1, q2]
            refine ⟨?_, ?_, by decide⟩
            · rw [wrap64_id (by omega) (by omega)]; simp [po, qs, sumI]
            · simp [po, cn]
          · simp only [List.nil_append, List.map_cons, List.map_nil, List.mem_singleton] at ha
            subst ha
            exact ⟨⟨o.price, wrap64 o.opn, 1⟩, by simp [lvStep], rfl⟩
        · rw [List.concat_eq_append] at e3
          subst e3
          have hv := h.val l (by simp)
          have hord := h.ord
          rw [List.pairwise_append] at hord
          obtain ⟨o1, _, o3⟩ := hord
          have qb := qs_b l.price (A.map po) hbA
          by_cases ep : l.price = o.price
          · rw [lvStep_same _ _ _ ep]
            have w1 : wrap64 (l.qty + o.opn) = qs l.price (A.map po) + o.opn := by rw [hv.1]; exact wrap64_id (by omega) (by omega)
            have w2 : wrap64 (l.num + 1) = cn l.price (A.map po) + 1 := by rw [hv.2.1]; exact wrap64_id (by omega) (by omega)
            refine ⟨?_, fun x hx => ?_, fun a ha => ?_⟩
            · rw [List.pairwise_append]
              exact ⟨o1, List.pairwise_singleton _ _, fun a ha b hb2 => by rw [List.mem_singleton] at hb2; subst hb2; exact o3 a ha l (by simp)⟩
            · rw [List.mem_append, List.mem_singleton] at hx
              rw [hmap]
              rcases hx with hx | hx
              · have hne : ¬ o.price = x.price := fun e4 => by
                  have := o3 x hx l (by simp)
                  rw [← e4, ← ep] at this
                  exact bef_irr _ _ this
                have := h.val x (by simp [hx])
                rw [qs_snoc, cn_snoc, if_neg hne, if_neg hne, Int.add_zero, Int.add_zero]
                exact this
              · subst hx
                simp only
                rw [qs_snoc, cn_snoc, if_pos ep.symm, if_pos ep.symm]
                exact ⟨w1, w2, by rw [w2]; omega⟩
            · rw [hmap, List.mem_append, List.mem_singleton] at ha
              rcases ha with ha | ha
              · obtain ⟨x, hx, e4⟩ := h.all a ha
                rw [List.mem_append, List.mem_singleton] at hx
                rcases hx with hx | hx
                · exact ⟨x, by simp [hx], e4⟩
                · subst hx
                  exact ⟨⟨x.price, wrap64 (x.qty + o.opn), wrap64 (x.num + 1)⟩, by simp, e4⟩
              · subst ha
                exact ⟨⟨l.price, wrap64 (l.qty + o.opn), wrap64 (l.num + 1)⟩, by simp, ep⟩
          · rw [lvStep_other _ _ _ ep]
            have hbl : bef s l.price o.price := bef_tot (hall l (by simp)) (fun x => ep x.symm)
            have hbl2 : ∀ x ∈ ini ++ [l], bef s x.price o.price := by
              intro x hx
              rw [List.mem_append, List.mem_singleton] at hx
              rcases hx with hx | hx
              · exact bef_trans (o3 x hx l (by simp)) hbl
              · rw [hx]; exact hbl
            have hno : ∀ a ∈ A.map po, a.1 ≠ o.price := by
              intro a ha e4
              obtain ⟨x, hx, e5⟩ := h.all a ha
              have := hbl2 x hx
              rw [e5, e4] at this
              exact bef_irr _ _ this
            refine ⟨?_, fun x hx => ?_, fun a ha => ?_⟩
            · rw [List.pairwise_append]
              exact ⟨h.ord, List.pairwise_singleton _ _, fun a ha b hb2 => by rw [List.mem_singleton] at hb2; subst hb2; exact hbl2 a ha⟩
            · rw [List.mem_append, List.mem_singleton] at hx
              rw [hmap]
              rcases hx with hx | hx
              · have hne : ¬ o.price = x.price := fun e4 => by
                  have := hbl2 x hx
                  rw [← e4] at this
                  exact bef_irr _ _ this
                rw [qs_snoc, cn_snoc, if_neg hne, if_neg hne, Int.add_zero, Int.add_zero]
                exact h.val x hx
              · subst hx
                simp only
                rw [qs_snoc, cn_snoc, if_pos rfl, if_pos rfl, (qs_none hno).1, (qs_none hno).2]
                refine ⟨?_, rfl, by decide⟩
                rw [wrap64_id (by omega) (by omega)]; simp
            · rw [hmap, List.mem_append, List.mem_singleton] at ha
              rcases ha with ha | ha
              · obtain ⟨x, hx, e4⟩ := h.all a ha
                exact ⟨x, by rw [List.mem_append]; exact .inl hx, e4⟩
              · subst ha
                exact ⟨⟨o.price, wrap64 o.opn, 1⟩, by simp, rfl⟩
      · intro l hl2
        refine ⟨o, by simp, ?_⟩
        rcases List.eq_nil_or_concat ls with rfl | ⟨ini, l0, e3⟩
        · simp [lvStep] at hl2; rw [← hl2]
        · rw [List.concat_eq_append] at e3
          subst e3
          by_cases ep : l0.price = o.price
          · rw [lvStep_same _ _ _ ep] at hl2; simp at hl2; rw [← hl2]; exact ep.symm
          · rw [lvStep_other _ _ _ ep] at hl2; simp at hl2; rw [← hl2]
      · intro hx
        exfalso
        rcases List.eq_nil_or_concat ls with rfl | ⟨ini, l0, e3⟩
        · simp [lvStep] at hx
        · rw [List.concat_eq_append] at e3
          subst e3
          by_cases ep : l0.price = o.price
          · rw [lvStep_same _ _ _ ep] at hx; simp at hx
          · rw [lvStep_other _ _ _ ep] at hx; simp at hx
  exact gen [] os [] rfl ⟨List.Pairwise.nil, fun l hl2 => absurd hl2 (by simp), fun a ha => absurd ha (by simp)⟩ (fun l hl2 => by simp at hl2) (fun _ => rfl)

end Go.Proofs.YtigaphnafnpfnaaGreatDoor

set_option linter.unusedVariables false
set_option linter.unusedSimpArgs false
/- The document's Book ends at the program's levels. Without memory. -/
namespace Go.Proofs.YtigaphnafnpfnaaGreatDoor
open Go.RowKit

/-- one more that is looked at -/
def bkF (s : Int) (b : Lvl) (o : Ord) : Lvl := if btrB s b o.price = true then lvAdd ⟨o.price, 0, 0⟩ o else if o.price = b.price then lvAdd b o else b

/-- those that are looked at -/
def cand (l : List Ord) (sym : ByteArray) (s : Int) (last : Option Int) (i : Nat) : List Ord := ((List.range i).filter (fun k => decide ((nthO l k).sym = sym ∧ (nthO l k).side = s ∧ (nthO l k).opn ≠ 0 ∧ wrsB s last (nthO l k).price = true))).map (nthO l)

theorem bkX_fold (l : List Ord) (sym : ByteArray) (s : Int) (last : Option Int) : ∀ i, bkX l sym s last i = (cand l sym s last i).foldl (bkF s) ⟨0, 0, 0⟩
  | 0 => rfl
  | i + 1 => by
    rw [bkX, bkX_fold l sym s last i]
    unfold cand
    rw [List.range_succ, List.filter_append, List.map_append, List.foldl_append]
    unfold bkStep
    by_cases h : (nthO l i).sym = sym ∧ (nthO l i).side = s ∧ (nthO l i).opn ≠ 0
    · obtain ⟨h1, h2, h3⟩ := h
      rw [if_neg (by simp [h1, h2, h3])]
      by_cases h4 : wrsB s last (nthO l i).price = true
      · rw [if_neg (by simp [h4]), List.filter_cons_of_pos (by simp [h1, h2, h3, h4])]
        rfl
      · rw [if_pos (by simpa using h4), List.filter_cons_of_neg (by simp [h4])]
        rfl
    · rw [if_pos (by by_cases a : (nthO l i).sym = sym <;> by_cases b : (nthO l i).side = s <;> by_cases c : (nthO l i).opn = 0 <;> simp [a, b, c] at h ⊢), List.filter_cons_of_neg (by
        simp only [decide_eq_true_eq]
        rintro ⟨a, b, c, _⟩
        exact h ⟨a, b, c⟩)]
      rfl

/-- what the best of a list is -/
def BestS (s : Int) (C : List (Int × Int)) (b : Lvl) : Prop :=
  (C = [] ∧ b = ⟨0, 0, 0⟩) ∨ (C ≠ [] ∧ (∃ a ∈ C, a.1 = b.price) ∧ (∀ a ∈ C, ¬ bef s a.1 b.price) ∧ b.qty = qs b.price C ∧ b.num = cn b.price C ∧ 0 < b.num)

theorem best_spec (s : Int) (hs : s = 0 ∨ s = 1) (os : List Ord) (hl : os.length ≤ 1000) (hb : ∀ o ∈ os, 0 ≤ o.opn ∧ o.opn ≤ 1000000000000000) : BestS s (os.map po) (os.foldl (bkF s) ⟨0, 0, 0⟩) := by
  have gen : ∀ (A B : List Ord) (b : Lvl), A ++ B = os → BestS s (A.map po) b → BestS s (os.map po) (B.foldl (bkF s) b) := by
    intro A B
    induction B generalizing A with
    | nil => intro b e h; rw [List.append_nil] at e; subst e; exact h
    | cons o B ih =>
      intro b e h
      have e' : (A ++ [o]) ++ B = os := by rw [← e]; simp
      rw [List.foldl_cons]
      have ho := hb o (by rw [← e]; simp)
      have hbA : ∀ a ∈ A.map po, 0 ≤ a.2 ∧ a.2 ≤ 1000000000000000 := by
        intro a ha
        rw [List.mem_map] at ha
        obtain ⟨x, hx, rfl⟩ := ha
        exact hb x (by rw [← e]; simp [hx])
      have hlA : (A.map po).length ≤ 1000 := by rw [List.length_map]; rw [← e, List.length_append] at hl; omega
      have hmap : (A ++ [o]).map po = A.map po ++ [(o.price, o.opn)] := by simp [po]
      have w0 : lvAdd ⟨o.price, 0, 0⟩ o = ⟨o.price, o.opn, 1⟩ := by
        rw [lvAdd0 rfl rfl, wrap64_id (by omega) (by omega)]
      refine ih (A ++ [o]) _ e' ?_
      right
      rw [hmap]
      refine ⟨by simp, ?_⟩
      rcases h with ⟨h1, h2⟩ | ⟨h1, ⟨a0, ha0, e0⟩, h3, h4, h5, h6⟩
      · subst h2
        have hb1 : btrB s ⟨0, 0, 0⟩ o.price = true := rfl
        unfold bkF
        rw [if_pos hb1, w0]
        rw [h1]
        simp only [List.nil_append]
        have q1 := qs_snoc o.price [] (o.price, o.opn)
        have q2 := cn_snoc o.price [] (o.price, o.opn)
        rw [List.nil_append] at q1 q2
        refine ⟨⟨_, List.mem_singleton.2 rfl, rfl⟩, fun a ha => ?_, ?_, ?_, by show (0 : Int) < 1; decide⟩
        · rw [List.mem_singleton] at ha; subst ha; exact bef_irr _ _
        · rw [q1]; simp [qs, sumI]
        · rw [q2]; simp [cn]
      · have hnum : b.num ≠ 0 := by omega
        have hbt : btrB s b o.price = true ↔ bef s o.price b.price := by
          unfold btrB bef
          rw [if_neg hnum]
          split <;> simp
        have qb := qs_b b.price (A.map po) hbA
        unfold bkF
        by_cases hbb : bef s o.price b.price
        · rw [if_pos (hbt.2 hbb), w0]
          have hno : ∀ a ∈ A.map po, a.1 ≠ o.price := by
            intro a ha e4
            have := h3 a ha
            rw [e4] at this
            exact this hbb
          refine ⟨⟨_, List.mem_append.2 (.inr (List.mem_singleton.2 rfl)), rfl⟩, fun a ha => ?_, ?_, ?_, by show (0 : Int) < 1; decide⟩
          · rw [List.mem_append, List.mem_singleton] at ha
            rcases ha with ha | ha
            · exact fun hx => h3 a ha (bef_trans hx hbb)
            · subst ha; exact bef_irr _ _
          · rw [qs_snoc, (qs_none hno).1]; simp
          · rw [cn_snoc, (qs_none hno).2]; simp
        · rw [if_neg (fun hx => hbb (hbt.1 hx))]
          by_cases hep : o.price = b.price
          · rw [if_pos hep]
            have w1 : lvAdd b o = ⟨b.price, qs b.price (A.map po) + o.opn, cn b.price (A.map po) + 1⟩ := by
              unfold lvAdd
              rw [h4, h5, wrap64_id (x := qs b.price (A.map po) + o.opn) (by omega) (by omega), wrap64_id (x := cn b.price (A.map po) + 1) (by omega) (by omega)]
            rw [w1]
            refine ⟨⟨a0, List.mem_append.2 (.inl ha0), e0⟩, fun a ha => ?_, ?_, ?_, by show 0 < cn b.price (A.map po) + 1; omega⟩
            · rw [List.mem_append, List.mem_singleton] at ha
              rcases ha with ha | ha
              · exact h3 a ha
              · subst ha; exact hbb
            · simp only; rw [qs_snoc, if_pos hep]
            · simp only; rw [cn_snoc, if_pos hep]
          · rw [if_neg hep]
            refine ⟨⟨a0, List.mem_append.2 (.inl ha0), e0⟩, fun a ha => ?_, ?_, ?_, h6⟩
            · rw [List.mem_append, List.mem_singleton] at ha
              rcases ha with ha | ha
              · exact h3 a ha
              · subst ha; exact hbb
            · rw [qs_snoc, if_neg hep, Int.add_zero]; exact h4
            · rw [cn_snoc, if_neg hep, Int.add_zero]; exact h5
  exact gen [] os _ rfl (.inl ⟨rfl, rfl⟩)

/-- worse than the last: a price that is behind it -/
theorem wrs_iff {s : Int} {last p : Int} : wrsB s (some last) p = true ↔ bef s last p := by
  unfold wrsB bef
  simp only
  split <;> simp

theorem cand_eq (l : List Ord) (sym : ByteArray) (s : Nat) (last : Option Int) (hop : ∀ k, k < l.length → 0 ≤ (nthO l k).opn) : (cand l sym (s : Int) last l.length).map po = (((idx l sym s).map (nthO l)).map po).filter (fun a => wrsB (s : Int) last a.1) := by
  unfold cand idx
  rw [List.map_map, List.map_map, List.filter_map, List.filter_filter]
  congr 1
  refine List.filter_congr (fun k hk => ?_)
  rw [List.mem_range] at hk
  have := hop k hk
  simp only [Function.comp, po]
  have e : ((nthO l k).opn ≠ 0) ↔ 0 < (nthO l k).opn := by omega
  cases hw : wrsB (s : Int) last (nthO l k).price <;> simp [hw, e]

theorem getLast_take {ls : List Lvl} {j : Nat} (hj : j < ls.length) : (ls.take (j + 1)).getLast? = ls[j]? := by
  rw [List.take_add_one, List.getElem?_eq_getElem hj, Option.toList_some, List.getLast?_concat]

/-- the document's next level -/
theorem next_spec (s : Nat) (hs : s < 2) (l : List Ord) (sym : ByteArray) (A : List (Int × Int)) (ls : List Lvl) (hlen : l.length ≤ 1000) (hop : ∀ k, k < l.length → 0 ≤ (nthO l k).opn ∧ (nthO l k).opn ≤ 1000000000000000) (hA : A.Perm (((idx l sym s).map (nthO l)).map po)) (h : LvS (s : Int) A ls) (j : Nat) (hj : j ≤ ls.length) :
    (j = ls.length → (bkNext l sym (s : Int) (ls.take j)).num = 0) ∧ ∀ x, ls[j]? = some x → bkNext l sym (s : Int) (ls.take j) = x ∧ x.num ≠ 0 := by
  have hs' : (s : Int) = 0 ∨ (s : Int) = 1 := by omega
  have hc0 := cand_eq l sym s (lastP (ls.take j)) (fun k hk => (hop k hk).1)
  have hlc : (cand l sym (s : Int) (lastP (ls.take j)) l.length).length ≤ 1000 := by
    unfold cand
    rw [List.length_map]
    have := List.length_filter_le (fun k => decide ((nthO l k).sym = sym ∧ (nthO l k).side = (s : Int) ∧ (nthO l k).opn ≠ 0 ∧ wrsB (s : Int) (lastP (ls.take j)) (nthO l k).price = true)) (List.range l.length)
    rw [List.length_range] at this
    omega
  have hbc : ∀ o ∈ cand l sym (s : Int) (lastP (ls.take j)) l.length, 0 ≤ o.opn ∧ o.opn ≤ 1000000000000000 := by
    intro o ho
    unfold cand at ho
    rw [List.mem_map] at ho
    obtain ⟨k, hk, rfl⟩ := ho
    rw [List.mem_filter, List.mem_range] at hk
    exact hop k hk.1
  have hsp := best_spec (s : Int) hs' _ hlc hbc
  rw [← bkX_fold] at hsp
  change BestS (s : Int) _ (bkNext l sym (s : Int) (ls.take j)) at hsp
  rw [hc0] at hsp
  generalize hX : ((idx l sym s).map (nthO l)).map po = X at *
  -- which prices are looked at
  have hlook : ∀ a ∈ A, (wrsB (s : Int) (lastP (ls.take j)) a.1 = true ↔ ∃ i x, j ≤ i ∧ ls[i]? = some x ∧ x.price = a.1) := by
    intro a ha
    obtain ⟨x, hx, e⟩ := h.all a ha
    obtain ⟨i, hi⟩ := List.getElem?_of_mem hx
    have hil := (List.getElem?_eq_some_iff.1 hi).1
    have hpw := List.pairwise_iff_getElem.1 h.ord
    have uniq : ∀ i' x', ls[i']? = some x' → x'.price = a.1 → i' = i := by
      intro i' x' hi' e'
      have hil' := (List.getElem?_eq_some_iff.1 hi').1
      have g1 := (List.getElem?_eq_some_iff.1 hi).2
      have g2 := (List.getElem?_eq_some_iff.1 hi').2
      rcases Nat.lt_trichotomy i' i with c | c | c
      · have := hpw i' i hil' hil c
        rw [g1, g2, e, e'] at this
        exact absurd this (bef_irr _ _)
      · exact c
      · have := hpw i i' hil hil' c
        rw [g1, g2, e, e'] at this
        exact absurd this (bef_irr _ _)
    cases j with
    | zero =>
      have : lastP (ls.take 0) = none := by simp [lastP]
      rw [this]
      exact ⟨fun _ => ⟨i, x, by omega, hi, e⟩, fun _ => rfl⟩
    | succ j =>
      have hjl : j < ls.length := by omega
      have hlp : lastP (ls.take (j + 1)) = some ls[j].price := by
        unfold lastP
        rw [getLast_take hjl, List.getElem?_eq_getElem hjl]
        rfl
      rw [hlp, wrs_iff]
      have g1 := (List.getElem?_eq_some_iff.1 hi).2
      constructor
      · intro hb
        refine ⟨i, x, ?_, hi, e⟩
        rcases Nat.lt_or_ge j i with c | c
        · omega
        · exfalso
          rcases Nat.lt_or_ge i j with c2 | c2
          · have := hpw i j hil hjl c2
            rw [g1, e] at this
            exact bef_asym hb this
          · obtain rfl : i = j := by omega
            rw [g1, e] at hb
            exact bef_irr _ _ hb
      · rintro ⟨i', x', h1, h2, h3⟩
        have e4 := uniq i' x' h2 h3
        subst e4
        have := hpw j i' hjl hil (by omega)
        rw [g1, e] at this
        exact this
  have hAX : ∀ a, a ∈ A ↔ a ∈ X := fun a => hA.mem_iff
  constructor
  · intro hjl
    rcases hsp with ⟨_, e⟩ | ⟨hne, ⟨a0, ha0, e0⟩, _⟩
    · rw [e]
    · exfalso
      rw [List.mem_filter] at ha0
      obtain ⟨i, x, h1, h2, _⟩ := (hlook a0 ((hAX a0).2 ha0.1)).1 ha0.2
      have := (List.getElem?_eq_some_iff.1 h2).1
      omega
  · intro x hx
    have hxl := (List.getElem?_eq_some_iff.1 hx).1
    have hxm := List.mem_of_getElem? hx
    obtain ⟨v1, v2, v3⟩ := h.val x hxm
    obtain ⟨a1, ha1, e1⟩ := cn_pos (by rw [← v2]; exact v3)
    have hin : a1 ∈ X.filter (fun a => wrsB (s : Int) (lastP (ls.take j)) a.1) := by
      rw [List.mem_filter]
      exact ⟨(hAX a1).1 ha1, (hlook a1 ha1).2 ⟨j, x, Nat.le_refl _, hx, e1.symm⟩⟩
    rcases hsp with ⟨e, _⟩ | ⟨hne, ⟨a0, ha0, e0⟩, hb3, hb4, hb5, hb6⟩
    · rw [e] at hin; simp at hin
    · generalize bkNext l sym (s : Int) (ls.take j) = b at *
      rw [List.mem_filter] at ha0
      obtain ⟨i, y, h1, h2, h3⟩ := (hlook a0 ((hAX a0).2 ha0.1)).1 ha0.2
      have hpw := List.pairwise_iff_getElem.1 h.ord
      have hil := (List.getElem?_eq_some_iff.1 h2).1
      have ei : i = j := by
        rcases Nat.lt_or_ge j i with c | c
        · exfalso
          have := hpw j i hxl hil c
          rw [(List.getElem?_eq_some_iff.1 hx).2, (List.getElem?_eq_some_iff.1 h2).2, h3, e0] at this
          have h4 := hb3 a1 hin
          rw [e1] at h4
          exact h4 this
        · omega
      subst ei
      rw [hx] at h2
      have exy := Option.some.inj h2
      subst exy
      have ep : b.price = x.price := by rw [h3, e0]
      -- all of that price are looked at
      have hf : qs b.price (X.filter (fun a => wrsB (s : Int) (lastP (ls.take i)) a.1)) = qs b.price X ∧ cn b.price (X.filter (fun a => wrsB (s : Int) (lastP (ls.take i)) a.1)) = cn b.price X := by
        unfold qs cn
        have : (X.filter (fun a => wrsB (s : Int) (lastP (ls.take i)) a.1)).filter (fun x => decide (x.1 = b.price)) = X.filter (fun x => decide (x.1 = b.price)) := by
          rw [List.filter_filter]
          refine List.filter_congr (fun a ha => ?_)
          by_cases ea : a.1 = b.price
          · rw [(hlook a ((hAX a).2 ha)).2 ⟨i, x, Nat.le_refl _, hx, by rw [ea, ep]⟩]
            simp
          · simp [ea]
        rw [this]
        exact ⟨rfl, rfl⟩
      obtain ⟨pq, pc⟩ := qs_perm b.price hA
      refine ⟨?_, by omega⟩
      obtain ⟨bp, bq, bn⟩ := b
      obtain ⟨xp, xq, xn⟩ := x
      simp only at *
      subst ep
      rw [hb4, hf.1, ← pq, ← v1, hb5, hf.2, ← pc, ← v2]

theorem book_ends (s : Nat) (hs : s < 2) (l : List Ord) (sym : ByteArray) (A : List (Int × Int)) (ls : List Lvl) (hlen : l.length ≤ 1000) (hop : ∀ k, k < l.length → 0 ≤ (nthO l k).opn ∧ (nthO l k).opn ≤ 1000000000000000) (hA : A.Perm (((idx l sym s).map (nthO l)).map po)) (h : LvS (s : Int) A ls) : BEnds l sym (s : Int) ls.length [] ls := by
  have gen : ∀ k j, j + k = ls.length → BEnds l sym (s : Int) k (ls.take j) ls := by
    intro k
    induction k with
    | zero =>
      intro j hj
      have hn := (next_spec s hs l sym A ls hlen hop hA h j (by omega)).1 (by omega)
      have e : ls.take j = ls := List.take_of_length_le (by omega)
      have := BEnds.stop (l := l) (sym := sym) (s := (s : Int)) 0 (ls.take j) hn
      rw [e] at this ⊢
      exact this
    | succ k ih =>
      intro j hj
      obtain ⟨x, hx⟩ : ∃ x, ls[j]? = some x := ⟨_, List.getElem?_eq_getElem (by omega)⟩
      obtain ⟨e1, e2⟩ := (next_spec s hs l sym A ls hlen hop hA h j (by omega)).2 x hx
      refine BEnds.go k _ _ (by rw [e1]; exact e2) ?_
      rw [e1]
      have := ih (j + 1) (by omega)
      rw [List.take_add_one, hx] at this
      exact this
  have := gen ls.length 0 (by omega)
  rw [List.take_zero] at this
  exact this

end Go.Proofs.YtigaphnafnpfnaaGreatDoor

set_option linter.unusedVariables false
set_option linter.unusedSimpArgs false
/- The document's acts: a symbol more. -/
namespace Go.Proofs.YtigaphnafnpfnaaGreatDoor
open Go.RowKit
attribute [local go_sem ↓] Go.wp_at_zero Go.wp_at_succ

set_option maxRecDepth 100000 in
set_option maxHeartbeats 8000000 in
theorem rdoes_list (base sb : Nat) (S : RS) (m : SM) (x : RAct) (w : World) (h : StV w base sb S m) (hx : x.kind = 108) (hsz : x.s.size ≤ 1000000000) (hsy : S.sy.length ≤ 1000) (he : listE S.sy x.s = 0) :
    Calls Tryz.prog 138 #[.pointer (some ⟨sb, 0, none⟩), x.val] w fun e w' => e = .returned (.tuple #[repV 0 0 0 0 0, .int .i64 0]) ∧ StN base sb (S.fresh.lists x.s) m w w' := by
  have lsb := h.blk.lt
  have v5 : w.cell? ⟨sb, 5, none⟩ = some m.ov := h.blk.cell 5
  have f5 := h.blk.frozen 5
  have sz : sb ≠ w.heap.size := by omega
  have sr : sb ≠ w.heap.size + 1 := by omega
  have sz' := sz.symm
  have sr' := sr.symm
  have lsb1 : sb < w.heap.size + 1 := by omega
  have HNM : Hid (∀ W, Calls Tryz.prog 166 #[.string x.s] W fun e w' => e = .returned (.bool (nameB x.s)) ∧ w' = W) := fun W => rname_any x.s W hsz
  have HSY : Hid (∀ W m', StV W base sb S.fresh m' → Calls Tryz.prog 142 #[.pointer (some ⟨sb, 0, none⟩), .string x.s] W fun e w' => e = .returned (.bool (symB S.sy x.s)) ∧ w' = W) := fun W m' hW => rsymbol_any base sb S.fresh m' x.s W hW hsy
  obtain ⟨ya, yc, hyv⟩ := row_slice h.yrow
  have hc := list_cases S.sy x.s
  obtain ⟨n, hn⟩ : ∃ n, S.sy.length = n := ⟨_, rfl⟩
  rw [hn] at hyv hc hsy
  have v0 : w.cell? ⟨sb, 0, none⟩ = some (.slice ya n yc) := by rw [← hyv]; exact h.blk.cell 0
  obtain ⟨E, hE⟩ : ∃ E, listE S.sy x.s = E := ⟨_, rfl⟩
  rw [hE] at he hc
  obtain ⟨B, hB⟩ : ∃ B, nameB x.s = B := ⟨_, rfl⟩
  obtain ⟨C, hC⟩ : ∃ C, symB S.sy x.s = C := ⟨_, rfl⟩
  rw [hB] at hc HNM
  rw [hC] at hc HSY
  obtain ⟨kind, s, ⟨id, owner, sym, side, okind, price, qty⟩, a, b, c, again⟩ := x
  simp only at hx
  subst hx
  simp only [RAct.val, RAct.cells, Ask.val] at HNM HSY ⊢
  have HS := hide h
  obtain ⟨p1, q1, b1, b0⟩ := h.starts #[.int .u8 108, .string s, .int .i64 id, .int .i64 owner, .string sym, .int .i64 side, .int .i64 okind, .int .i64 price, .int .i64 qty, .int .i64 a, .int .i64 b, .int .i64 c, .bool again]
  obtain ⟨W1, hW1⟩ : ∃ W1, W1 = (((w.setCell ⟨sb, 5, none⟩ (.slice none 0 0)).alloc (.cells #[.int .u8 108, .string s, .int .i64 id, .int .i64 owner, .string sym, .int .i64 side, .int .i64 okind, .int .i64 price, .int .i64 qty, .int .i64 a, .int .i64 b, .int .i64 c, .bool again] 169)).alloc (.cells zero5 87)) := ⟨_, rfl⟩
  rw [← hW1] at p1 q1 b1 b0
  have HC := hide (unhide HSY _ _ p1)
  have HQ1 := hide q1
  have HP1 := hide p1
  have HNL := hide hn
  have HB := hide b1
  have HW1 := hide hW1
  have y1 : W1.cell? ⟨w.heap.size, 1, none⟩ = some (.string s) := b0.cell 1
  have y0 : W1.cell? ⟨sb, 0, none⟩ = some (.slice ya n yc) := by rw [← hyv]; exact p1.blk.cell 0
  have l0 : w.heap.size < W1.heap.size := b0.lt
  have l1 : sb < W1.heap.size := p1.blk.lt
  have z0 : W1.cell? ⟨w.heap.size + 1, 0, none⟩ = some (.int .i64 0) := b1.cell 0
  have z1 : W1.cell? ⟨w.heap.size + 1, 1, none⟩ = some (.int .i64 0) := b1.cell 1
  have z2 : W1.cell? ⟨w.heap.size + 1, 2, none⟩ = some (.int .i64 0) := b1.cell 2
  have z3 : W1.cell? ⟨w.heap.size + 1, 3, none⟩ = some (.int .i64 0) := b1.cell 3
  have z4 : W1.cell? ⟨w.heap.size + 1, 4, none⟩ = some (.int .i64 0) := b1.cell 4
  have fz0 := b1.frozen 0
  have fz1 := b1.frozen 1
  have fz2 := b1.frozen 2
  have fz3 := b1.frozen 3
  have fz4 := b1.frozen 4
  simp only [zero5] at HW1
  have hmx : n + 1 ≤ maxLen := by unfold maxLen; omega
  have hm24 : (n + 1) * 16 ≤ 140737488355328 := by omega
  have hge := h.ge
  obtain ⟨i0, z0', hi0, hz0, hz1, hz2, hz3⟩ := info9_parts
  have HYV := hide hyv
  clear p1 q1 b1 b0 HSY hW1 h hyv hn hB hC hE
  go_enter Tryz.func138, Tryz.ntmps138
  go_wp2_with fail
  rw [← unhide HW1]
  refine (unhide HNM _).mono ?_
  rintro e w3 ⟨rfl, hw3⟩
  rw [hw3]
  clear hw3 w3
  go_wp2_with fail
  refine (unhide HC).mono ?_
  rintro e w3 ⟨rfl, hw3⟩
  rw [hw3]
  clear hw3 w3
  obtain ⟨rfl, rfl, hd, rfl⟩ : B = true ∧ C = false ∧ decide ((n : Int) ≥ 6) = false ∧ E = 0 := by
    rcases hc with ⟨h1, h2⟩ | ⟨h1, h2, h3⟩ | ⟨h1, h2, h3, h4⟩ | ⟨h1, h2, h3, h4⟩
    · omega
    · omega
    · omega
    · exact ⟨h1, h2, h3, h4⟩
  clear hc he
  obtain ⟨w4, hw4⟩ : ∃ w4, w4 = (W1.alloc (.cells #[.string s] 9)).drew := ⟨_, rfl⟩
  have k4 : Chg Non W1 w4 := by rw [hw4]; exact ((Chg.refl Non W1).alloc _).drew
  have p4 := (unhide HP1).kept0 k4
  have hs4 : w4.heap.size = W1.heap.size + 1 := by rw [hw4]; simp
  have r4 : w4.ownsRow base 9 1 (.slice ya n yc) n (S.sy.map Value.string) := by
    have r := p4.yrow
    change w4.ownsRow base 9 1 m.yv S.sy.length (S.sy.map Value.string) at r
    rw [unhide HYV, unhide HNL] at r
    exact r
  have hnews : ∀ j u, ([.string s] : List Value)[j]? = some u → w4.cell? (Addr.add ⟨W1.heap.size, 0, none⟩ j) = some u := by
    intro j u hj
    have := news1 W1 s j u hj
    rw [hw4]
    exact this
  have hone : ∀ u ∈ ([.string s] : List Value), u.oneCell' = true := by simp [Value.oneCell']
  have HW4 := hide hw4
  have H4 := hide p4
  have HR4 := hide r4
  have HNW := hide hnews
  have HON := hide hone
  have HS4 := hide hs4
  have HB4 := hide (k4.blk (unhide HB) (fun x => x))
  have HK4 := hide k4
  clear hw4 p4 r4 hnews hone hs4 k4
  go_upto_region 12 with fail
  go_cut [] from 42 (fun wc => StN base sb (S.fresh.lists s) m w wc ∧ Blk wc (w.heap.size + 1) zero5 87)
  case first JJ KK hJ hK =>
    go_region_law (first | (rw [← unhide HW4]; refine step_append_lies _ rfl (.tmp 46) (.tmp 49) 106 rfl base 9 i0 z0' 1 16 Tryz.underlying106 hi0 hz0 hz1 hz2 hz3 (by decide) (.slice ya n yc) n (S.sy.map Value.string) rfl (unhide HR4) ⟨W1.heap.size, 0, none⟩ 1 1 ([.string s]) rfl rfl (unhide HNW) (unhide HON) (by omega) hmx hm24 (by have := unhide HS4; omega) (W1.heap.size + 1) (unhide HS4) ?_; intro g5 cap5 w5 hown2 hgrow hat hlt; have HO2 := hide hown2; have HG2 := hide hgrow; have HA2 := hide hat; have b2 : Blk w5 sb _ 207 := (hgrow.block sb (unhide H4).blk.lt (fun e => by obtain ⟨cs, hc⟩ := own_blk (unhide H4).yrow (b := sb) (by show m.yv.ownBlock = _; rw [unhide HYV]; exact e.symm); exact Blk.ne hc (unhide H4).blk (by decide) rfl)).trans (unhide H4).blk; have v52 := b2.cell 0; have f52 := b2.frozen 0; simp at v52; have bb1 : Blk w5 (w.heap.size + 1) _ 87 := (hgrow.block (w.heap.size + 1) (unhide HB4).lt (fun e => by obtain ⟨cs, hc⟩ := own_blk (unhide H4).yrow (b := w.heap.size + 1) (by show m.yv.ownBlock = _; rw [unhide HYV]; exact e.symm); exact Blk.ne hc (unhide HB4) (by decide) rfl)).trans (unhide HB4); have HBB1 := hide bb1; clear hown2 hgrow hat b2 bb1))
    all_goals
      refine hK _ _ (Met.intro (hJ _ _ ?_))
      repeat apply Exists.intro
      refine ⟨?rel, rfl⟩
      case rel =>
        obtain ⟨m6, p6, q6, r6⟩ := (unhide H4).yGrown (s := s) (unhide HNL) (unhide HO2) (by show World.grownBy _ _ m.yv.ownBlock; rw [unhide HYV]; exact unhide HG2) (by show m.yv.ownBlock = _ ∨ _; rw [unhide HYV]; exact unhide HA2) (unhide HS4)
        refine ⟨⟨m6, p6, fun b hb => ?_, ((unhide HQ1).trans (unhide HK4).of_non).trans (r6.mono (unhide HS).fresh.2.2)⟩, (unhide HBB1).other (a := ⟨sb, 0, none⟩) sr' _⟩
        rcases q6 b hb with x | x
        · exact .inl ((unhide HS).fresh.2.2 b x)
        · exact .inr (Nat.le_trans (unhide HQ1).size (Nat.le_trans (unhide HK4).size x))
  case rest =>
    clear HW4 H4 HR4 HNW HON HS4 HB4 HK4 HC HNM z0 z1 z2 z3 z4 fz0 fz1 fz2 fz3 fz4 y1 y0 l0 l1
    obtain ⟨hn, b7⟩ := hcut
    have s0 : wc.cell? ⟨w.heap.size + 1, 0, none⟩ = some (.int .i64 0) := b7.cell 0
    have s1 : wc.cell? ⟨w.heap.size + 1, 1, none⟩ = some (.int .i64 0) := b7.cell 1
    have s2 : wc.cell? ⟨w.heap.size + 1, 2, none⟩ = some (.int .i64 0) := b7.cell 2
    have s3 : wc.cell? ⟨w.heap.size + 1, 3, none⟩ = some (.int .i64 0) := b7.cell 3
    have s4 : wc.cell? ⟨w.heap.size + 1, 4, none⟩ = some (.int .i64 0) := b7.cell 4
    have fs0 := b7.frozen 0
    have fs1 := b7.frozen 1
    have fs2 := b7.frozen 2
    have fs3 := b7.frozen 3
    have fs4 := b7.frozen 4
    have HB7 := hide b7
    have HN7 := hide hn
    clear b7 hn
    go_wp2
    refine bodyPost_ret (res138 _ (w.heap.size + 1) _ 0 0 0 0 0 0 rfl rfl ?_) rfl ⟨rfl, ?_⟩
    · exact set5 (unhide HB7) _ _ _ _ _
    · exact (unhide HN7).off (unhide HB7) (by omega) (chg5 _ _ _ _ _)

end Go.Proofs.YtigaphnafnpfnaaGreatDoor

set_option linter.unusedVariables false
set_option linter.unusedSimpArgs false
/- An act: the program's answer, and the document's. -/
namespace Go.Proofs.YtigaphnafnpfnaaGreatDoor
open Go.RowKit Go.Maps

theorem nxt_le (s : ByteArray) (i : Nat) : (nxt s i).2 ≤ 2 := by
  unfold nxt
  split
  · simp
  · split <;> simp
theorem nameF_size (s : ByteArray) : ∀ f i n, nameF s f i n = true → n ≤ 6 ∧ s.size ≤ i + 2 * (6 - n)
  | 0, i, n, h => by simp [nameF] at h
  | f + 1, i, n, h => by
    unfold nameF at h
    split at h
    · split at h
      · have := nameF_size s f _ _ h
        have h2 := nxt_le s i
        omega
      · simp at h
    · simp at h
      omega
theorem name_size {s : ByteArray} (h : nameB s = true) : s.size ≤ 12 := by
  have := nameF_size s _ _ _ h
  omega

def noAsk : Ask := ⟨0, 0, ⟨#[]⟩, 0, 0, 0, 0⟩
def aList (s : ByteArray) : RAct := ⟨108, s, noAsk, 0, 0, 0, false⟩
def aEnter (o : Ask) : RAct := ⟨101, ⟨#[]⟩, o, 0, 0, 0, false⟩
def aCancel (a : Int) : RAct := ⟨99, ⟨#[]⟩, noAsk, a, 0, 0, false⟩
def aReplace (a b c : Int) : RAct := ⟨114, ⟨#[]⟩, noAsk, a, b, c, false⟩

def Szs (V : Ven) : Prop := ∀ i, i < V.nb → (V.B i).sym.size ≤ 100

/-- the act's line -/
def Lined (x : RAct) : Prop := ∃ ln, (∀ W, Calls Tryz.prog 139 #[x.val] W fun e w' => e = .returned (.string ln) ∧ Chg Non W w') ∧ ln.size ≤ 300

/-- the program has answered; the document answers the same -/
def Out (bv bm bo : Nat) (V : Ven) (p : Nat → Nat) (S : RS) (N : Nat) (x : RAct) (f r n a c E : Int) (w w' : World) : Prop :=
  (E ≠ 0 ∧ Chg Non w w' ∧ ∃ S', DoesR S x S' (repV f r n a c) E) ∨
  (E = 0 ∧ Lined x ∧ Next bv bm bo V (fun V' => ∃ S' p', SimV p' V' S' (N + 1) ∧ V'.lg.tp = recs V.lg.tp S'.told ∧ DoesR S x S' (repV f r n a c) 0 ∧ S'.told.length ≤ 201 ∧ Szs V') w w')

theorem lined_list {s : ByteArray} (hs : s.size ≤ 100) : Lined (aList s) := by
  refine ⟨_, fun W => rline_list s 0 0 ⟨#[]⟩ 0 0 0 0 0 0 0 false W (by omega), ?_⟩
  rw [ByteArray.size_append]
  show 5 + s.size ≤ 300
  omega
theorem fig_of {n : Int} (h : numB n = true) : Fig n := by simp [numB] at h; exact ⟨by omega, by omega⟩
theorem lined_cancel {a : Int} (h : Fig a) : Lined (aCancel a) := by
  refine ⟨_, fun W => rline_cancel ⟨#[]⟩ 0 0 ⟨#[]⟩ 0 0 0 0 a 0 0 false W h, ?_⟩
  rw [ByteArray.size_append]
  have := (txi_size a h).2
  show 7 + (txi a).size ≤ 300
  omega

theorem out_list (bv bm bo N : Nat) (V : Ven) (p : Nat → Nat) (S : RS) (s : ByteArray) (w : World) (R : Rep w bv bm bo V) (h : SimV p V S N) (hN : N < 2900000) (hz : Szs V) (hs : s.size ≤ 1000000000) :
    Calls Tryz.prog 27 #[.pointer (some ⟨bv, 0, none⟩), .string s] w fun e w' => ∃ E, e = .returned (.int .i64 E) ∧ Out bv bm bo V p S N (aList s) 0 0 0 0 0 E w w' := by
  have hml : s.size ≤ maxLen := by unfold maxLen; omega
  have hname := isName_any s hs
  have hnb := h.nb
  have h6 := h.nb6
  have hsy : S.sy.length ≤ 1000 := by omega
  have hdoc : listE S.sy s ≠ 0 → ∃ S', DoesR S (aList s) S' (repV 0 0 0 0 0) (listE S.sy s) := fun he =>
    ⟨S.fresh, fun base sb m W hW => rdoes_list_err base sb S m (aList s) W hW rfl hs hsy he⟩
  rcases list_cases S.sy s with ⟨h1, h2⟩ | ⟨h1, h2, h3⟩ | ⟨h1, h2, h3, h4⟩ | ⟨h1, h2, h3, h4⟩
  · rw [h2] at hdoc
    rw [h1] at hname
    refine (list_name bv s w hname).mono ?_
    rintro e w' ⟨rfl, k⟩
    exact ⟨3, rfl, .inl ⟨by decide, k, hdoc (by decide)⟩⟩
  · rw [h3] at hdoc
    rw [h1] at hname
    obtain ⟨i, hi, hsi⟩ := (h.there s).1 h2
    refine (list_taken bv bm bo i V s w R hname hml hi hsi).mono ?_
    rintro e w' ⟨rfl, k⟩
    exact ⟨2, rfl, .inl ⟨by decide, k, hdoc (by decide)⟩⟩
  · rw [h4] at hdoc
    rw [h1] at hname
    have hfree : ∀ i, i < V.nb → (V.B i).sym ≠ s := fun i hi e => by rw [(h.there s).2 ⟨i, hi, e⟩] at h2; exact absurd h2 (by decide)
    simp only [ge_iff_le, decide_eq_true_eq] at h3
    refine (list_limit bv bm bo V s w R hname hml hfree (by omega)).mono ?_
    rintro e w' ⟨rfl, k⟩
    exact ⟨7, rfl, .inl ⟨by decide, k, hdoc (by decide)⟩⟩
  · rw [h1] at hname
    have hfree : ∀ i, i < V.nb → (V.B i).sym ≠ s := fun i hi e => by rw [(h.there s).2 ⟨i, hi, e⟩] at h2; exact absurd h2 (by decide)
    simp only [ge_iff_le, decide_eq_false_iff_not] at h3
    have hsz := name_size h1
    have hna := h.naN
    refine (list_ok bv bm bo V s w R hname (by omega) hfree (by omega) (by omega)).mono ?_
    rintro e w' ⟨b, lm', rfl, hb, R', k, hf⟩
    refine ⟨0, rfl, .inr ⟨rfl, lined_list (by omega), _, R', ⟨S.fresh.lists s, p, h.listed hfree (by omega), rfl, fun base sb m W hW => rdoes_list base sb S m (aList s) W hW rfl hs hsy h4, by show 0 ≤ 201; omega, ?_⟩, k.mono (fun x hx => ?_), fun x hx => ?_⟩⟩
    · intro i hi
      by_cases e : i < V.nb
      · have : (V.listed s b lm').B i = V.B i := upd_other _ _ (by omega)
        rw [this]; exact hz i e
      · have e2 : i = V.nb := by have : (V.listed s b lm').nb = V.nb + 1 := rfl; omega
        subst e2
        have : (V.listed s b lm').B V.nb = newBk s := upd_same _ _ _
        rw [this]
        show s.size ≤ 100
        omega
    · rcases hx with hx | hx | hx
      · exact .inr (.inl hx)
      · exact .inl hx
      · exact .inr (.inr (.inr (.inr (.inr hx))))
    · rcases hx with hx | hx | hx | ⟨i, hi, hx⟩ | hx | hx
      · exact .inl (.inl hx)
      · exact .inl (.inr (.inl hx))
      · exact .inl (.inr (.inr (.inl hx)))
      · by_cases e : i < V.nb
        · have e1 : (V.listed s b lm').B i = V.B i := upd_other _ _ (by omega)
          have e2 : (V.listed s b lm').bk i = V.bk i := upd_other _ _ (by omega)
          rw [e1, e2] at hx
          exact .inl (.inr (.inr (.inr (.inl ⟨i, e, hx⟩))))
        · have e2 : i = V.nb := by have : (V.listed s b lm').nb = V.nb + 1 := rfl; omega
          subst e2
          have e1 : (V.listed s b lm').B V.nb = newBk s := upd_same _ _ _
          have e2 : (V.listed s b lm').bk V.nb = b := upd_same _ _ _
          rw [e1, e2] at hx
          rcases hx with hx | ⟨t, ht, hx⟩
          · right; omega
          · exact absurd hx (newBk_sd s t x)
      · exact .inl (.inr (.inr (.inr (.inr (.inl hx)))))
      · exact (hf x hx).imp_left (fun h => .inr (.inr (.inr (.inr (.inr h)))))

end Go.Proofs.YtigaphnafnpfnaaGreatDoor

set_option linter.unusedVariables false
set_option linter.unusedSimpArgs false
/- Cancel, Replace: the program's answer, and the document's. -/
namespace Go.Proofs.YtigaphnafnpfnaaGreatDoor
open Go.RowKit Go.Maps

section
variable {p : Nat → Nat} {V : Ven} {S : RS} {N : Nat}

theorem SimV.open (h : SimV p V S N) {x : Nat} (hx : VL V x) (h0 : (V.om x).opn ≠ 0) : ∃ i s k : Nat, i < V.nb ∧ s < 2 ∧ k < (V.B i).n s ∧ (V.B i).h s k = x ∧ (V.om x).sym = (V.B i).sym ∧ (V.om x).side = (s : Int) := by
  obtain ⟨i, hi, e⟩ := h.gw.sym x hx
  obtain ⟨s, hs, e2⟩ : ∃ s : Nat, s < 2 ∧ (V.om x).side = (s : Int) := by
    rcases h.gw.side x hx with e | e
    · exact ⟨0, by omega, e⟩
    · exact ⟨1, by omega, e⟩
  have hp : 0 < (V.om x).opn := by have := (h.gw.q x hx).o0; omega
  obtain ⟨k, hk, e3⟩ := ((h.gw.gb i hi).mem s hs x).2 ⟨hx, e, e2, hp⟩
  exact ⟨i, s, k, hi, hs, hk, e3.symm, e, e2⟩

theorem SimV.apart (h : SimV p V S N) {w : World} {bv bm bo : Nat} (R : Rep w bv bm bo V) {i x : Nat} (hx : VL V x) (hs : (V.om x).sym = (V.B i).sym) (hi : i < V.nb) : Apart V i x := by
  intro j hj hne t ht hsd
  rcases hsd with e | ⟨l, hl, e⟩
  · obtain ⟨id, hid⟩ := hx
    obtain ⟨_, ix, ho⟩ := R.ords id x hid
    exact ((R.book j hj).side t ht).ne ho (by decide) e
  · have := ((h.gw.gb j hj).mem t ht _).1 ⟨l, hl, rfl⟩
    rw [← e, hs] at this
    exact hne (h.gw.sinj i j hi hj this.2.1).symm

theorem SimV.openE (h : SimV p V S N) (id : Int) : (V.oid id = none ∧ openE S.l id = 6) ∨ ∃ j, ordX S.l id = some j ∧ j < S.l.length ∧ V.oid id = some (p j) ∧ (((V.om (p j)).opn = 0 ∧ openE S.l id = 10) ∨ ((V.om (p j)).opn ≠ 0 ∧ (nthO S.l j).opn ≠ 0 ∧ openE S.l id = 0)) := by
  have hf := h.found id
  unfold Go.Proofs.YtigaphnafnpfnaaGreatDoor.openE
  cases hx : ordX S.l id with
  | none => left; rw [hx] at hf; exact ⟨hf, rfl⟩
  | some j =>
    right
    rw [hx] at hf
    have hj := (ordX_lt hx).1
    have e := (noP_f (h.same j hj)).2.2.2.2.2.2.2.2.1
    refine ⟨j, rfl, hj, hf, ?_⟩
    by_cases h0 : (nthO S.l j).opn = 0
    · left; rw [e]; simp [h0]
    · right; rw [e]; simp [h0]
end

theorem Szs.turn {V : Ven} (h : Szs V) {i : Nat} {B' : Bk} {om' : Nat → Ord} {G' : Lg} {lm' : Lm} (hs : B'.sym = (V.B i).sym) : Szs (V.turnL i B' om' G' lm') := by
  intro j hj
  show (upd V.B i B' j).sym.size ≤ 100
  by_cases e : j = i
  · rw [e, upd_same, hs]; exact h i (by rw [← e]; exact hj)
  · rw [upd_other _ _ e]; exact h j hj

theorem out_cancel (bv bm bo N : Nat) (V : Ven) (p : Nat → Nat) (S : RS) (id : Int) (w : World) (R : Rep w bv bm bo V) (hT : Tab w) (h : SimV p V S N) (hN : N < 2900000) (hz : Szs V) (hwf : (Lit.int .i64 id).wf = true) :
    Calls Tryz.prog 37 #[.pointer (some ⟨bv, 0, none⟩), .int .i64 id] w fun e w' => ∃ E, e = .returned (.int .i64 E) ∧ Out bv bm bo V p S N (aCancel id) 0 0 0 0 0 E w w' := by
  have hlen : S.l.length ≤ 1000 := by have := h.no; have := h.no200; omega
  have hdoc : openE S.l id ≠ 0 → ∃ S', DoesR S (aCancel id) S' (repV 0 0 0 0 0) (openE S.l id) := fun he =>
    ⟨S.fresh, fun base sb m W hW => rdoes_cancel_err base sb S m (aCancel id) W hW rfl hlen he⟩
  rcases h.openE id with ⟨h1, h2⟩ | ⟨j, h1, h2, h3, ⟨h4, h5⟩ | ⟨h4, h4', h5⟩⟩
  · rw [h2] at hdoc
    refine (cancel_unknown bv bm bo V id w R hwf h1).mono ?_
    rintro e w' ⟨rfl, k⟩
    exact ⟨6, rfl, .inl ⟨by decide, k, hdoc (by decide)⟩⟩
  · rw [h5] at hdoc
    refine (cancel_closed bv bm bo (p j) V id w R hwf h3 h4).mono ?_
    rintro e w' ⟨rfl, k⟩
    exact ⟨10, rfl, .inl ⟨by decide, k, hdoc (by decide)⟩⟩
  · have hVL : VL V (p j) := ⟨id, h3⟩
    obtain ⟨i, s, k, hi, hs, hk, hkb, a, c⟩ := h.open hVL h4
    have hid : (nthO S.l j).id = id := (ordX_lt h1).2
    have hfig : Fig id := fig_of (by rw [← hid]; exact h.ids j h2)
    rw [← hkb] at h3 h4 a c hVL
    refine (cancel_ok bv bm bo i s k V id w R hT hwf hi hs hk h3 h4 c a (by have := hz i hi; unfold maxLen; omega) (by have := h.naN; omega)).mono ?_
    rintro e w' ⟨rfl, hm, ⟨lm', hl, hf⟩, kc⟩
    refine ⟨0, rfl, .inr ⟨rfl, lined_cancel hfig, Next.of R hi _ hm hl hf kc (fun x hx => ?_) (fun j hj hne t ht l hl => ?_) (fun x => ?_) rfl (fun t ht x hx => ?_) ⟨S.fresh.cancel j, p, h.cancel (ds := [.left ((V.B i).h s k), .now ((V.B i).h s k) (V.om ((V.B i).h s k))]) hN hi hs hk h2 hkb.symm, rfl, fun base sb m W hW => rdoes_cancel base sb j S m (aCancel id) W hW rfl hlen h1 h4', by show 0 ≤ 201; omega, hz.turn rfl⟩⟩⟩
    · rcases hx with hx | hx | hx | hx
      · exact .inl hx
      · exact .inr (.inl hx)
      · exact .inr (.inr (.inl hx))
      · exact .inr (.inr (.inr (.inl ⟨s, hs, hx⟩)))
    · refine upd_other _ _ (fun e => h.apart R hVL a hi j hj hne t ht ?_)
      rw [← e]; exact .inr ⟨l, hl, rfl⟩
    · by_cases e : x = (V.B i).h s k
      · rw [e, upd_same]; rfl
      · rw [upd_other _ _ e]
    · left
      by_cases e : t = s
      · subst e
        refine ⟨t, ht, ?_⟩
        rcases hx with hx | ⟨l, hl, hx⟩
        · exact .inl hx
        · obtain ⟨k', hk', e', _⟩ := leave_memk (om := V.om) ((h.gw.gb i hi).inj t ht) hk l hl
          exact .inr ⟨k', hk', by rw [hx, e']⟩
      · refine ⟨t, ht, ?_⟩
        unfold SdB at hx ⊢
        simp only [Bk.leave, upd_other _ _ e] at hx
        exact hx

theorem lined_replace {a b c : Int} (h1 : Fig a) (h2 : Fig b) (h3 : Fig c) : Lined (aReplace a b c) := by
  refine ⟨_, fun W => rline_replace ⟨#[]⟩ 0 0 ⟨#[]⟩ 0 0 0 0 a b c false W h1 h2 h3, ?_⟩
  have z1 := (txi_size a h1).2
  have z2 := (txi_size b h2).2
  have z3 := (txi_size c h3).2
  (repeat rw [ByteArray.size_append])
  show 8 + (txi a).size + 1 + (txi b).size + 1 + (txi c).size ≤ 300
  omega

theorem out_replace (bv bm bo N : Nat) (V : Ven) (p : Nat → Nat) (S : RS) (id price qty : Int) (w : World) (R : Rep w bv bm bo V) (hT : Tab w) (h : SimV p V S N) (hN : N < 2900000) (hz : Szs V) (hwf : (Lit.int .i64 id).wf = true) :
    Calls Tryz.prog 38 #[.pointer (some ⟨bv, 0, none⟩), .int .i64 id, .int .i64 price, .int .i64 qty] w fun e w' => ∃ f r n a c E, e = .returned (.tuple #[repV f r n a c, .int .i64 E]) ∧ Out bv bm bo V p S N (aReplace id price qty) f r n a c E w w' := by
  have hlen : S.l.length ≤ 1000 := by have := h.no; have := h.no200; omega
  have trN := h.trN
  have tpN := h.tpN
  have naN := h.naN
  have no2 := h.no200
  rcases h.openE id with ⟨h1, h2⟩ | ⟨j, h1, h2, h3, ⟨h4, h5⟩ | ⟨h4, h4', h5⟩⟩
  · have hd : DoesR S (aReplace id price qty) S.fresh (repV 0 0 0 0 0) 6 := fun base sb m W hW => rdoes_replace base sb S S.fresh m (aReplace id price qty) 0 0 0 0 0 6 W hW rfl (fun W' m' hW' => by
      have := rreplace_err base sb S.fresh m' (aReplace id price qty) W' hW' hlen (by show openE S.l id ≠ 0; rw [h2]; decide)
      rw [show openE S.fresh.l (aReplace id price qty).a = 6 from h2] at this
      exact this.mono (fun e w' ⟨h1, k⟩ => ⟨h1, (StN.refl hW').ext k⟩))
    refine (replace_unknown bv bm bo V id price qty w R hwf h1).mono ?_
    rintro e w' ⟨rfl, k⟩
    exact ⟨0, 0, 0, 0, 0, 6, rfl, .inl ⟨by decide, k, _, hd⟩⟩
  · have hd : DoesR S (aReplace id price qty) S.fresh (repV 0 0 0 0 0) 10 := fun base sb m W hW => rdoes_replace base sb S S.fresh m (aReplace id price qty) 0 0 0 0 0 10 W hW rfl (fun W' m' hW' => by
      have := rreplace_err base sb S.fresh m' (aReplace id price qty) W' hW' hlen (by show openE S.l id ≠ 0; rw [h5]; decide)
      rw [show openE S.fresh.l (aReplace id price qty).a = 10 from h5] at this
      exact this.mono (fun e w' ⟨h1, k⟩ => ⟨h1, (StN.refl hW').ext k⟩))
    refine (replace_closed bv bm bo (p j) V id price qty w R hwf h3 h4).mono ?_
    rintro e w' ⟨rfl, k⟩
    exact ⟨0, 0, 0, 0, 0, 10, rfl, .inl ⟨by decide, k, _, hd⟩⟩
  · by_cases hnum : numB price = true ∧ numB qty = true
    · obtain ⟨hp, hq⟩ := hnum
      have hqb : 1 ≤ qty ∧ qty ≤ 1000000 := by simpa [numB] using hq
      have hVL : VL V (p j) := ⟨id, h3⟩
      obtain ⟨i, t, k, hi, ht, hk, hkb, a, c⟩ := h.open hVL h4
      have hap := h.apart R hVL a hi
      have hid : (nthO S.l j).id = id := (ordX_lt h1).2
      have hidn : numB id = true := by rw [← hid]; exact h.ids j h2
      have hln := lined_replace (fig_of hidn) (fig_of hp) (fig_of hq)
      obtain ⟨e1, e2, e3, e4, e5, e6, e7, e8, e9, e10, e11, e12⟩ := noP_f (h.same j h2)
      have h00 := (h.gw.q _ hVL).o0
      by_cases hkeep : price = (V.om (p j)).price ∧ qty ≤ (V.om (p j)).opn
      · refine (replace_keep bv bm bo (p j) i V id price qty w R hT hwf h3 h4 hp hq hi hkeep.1 hkeep.2 (by omega)).mono ?_
        rintro e w' ⟨rfl, hm, ⟨lm', hl, hf⟩, kc⟩
        have hd : DoesR S (aReplace id price qty) (S.fresh.setO j (repK (nthO S.l j) qty)) (repV 0 qty 0 0 0) 0 := fun base sb m W hW => rdoes_replace base sb S _ m (aReplace id price qty) 0 qty 0 0 0 0 W hW rfl (fun W' m' hW' =>
          rreplace_keep base sb j S.fresh m' (aReplace id price qty) W' hW' hlen h1 h4' hp hq (by show price = (nthO S.l j).price; rw [← e6]; exact hkeep.1) (by show qty ≤ (nthO S.l j).opn; rw [← e9]; exact hkeep.2))
        refine ⟨0, qty, 0, 0, 0, 0, rfl, .inr ⟨rfl, hln, Next.of R hi _ hm hl hf kc (fun x hx => ?_) (fun j' hj' hne t' ht' l hl => ?_) (fun x => ?_) rfl (fun t' ht' x hx => .inl ⟨t', ht', hx⟩) ⟨_, p, h.keeps (i := i) (ds := [.now (p j) (V.om (p j))]) hN h2 hkeep.1 hqb.1 hqb.2 (by omega), rfl, hd, by show 0 ≤ 201; omega, hz.turn rfl⟩⟩⟩
        · rcases hx with hx | hx | hx
          · exact .inl hx
          · exact .inr (.inl hx)
          · exact .inr (.inr (.inr (.inr ⟨by rw [hx]; exact hVL, by rw [hx]; exact hap⟩)))
        · refine upd_other _ _ (fun e => hap j' hj' hne t' ht' ?_)
          rw [← e]; exact .inr ⟨l, hl, rfl⟩
        · by_cases e : x = p j
          · rw [e, upd_same]; rfl
          · rw [upd_other _ _ e]
      · obtain ⟨s, hs, hts⟩ : ∃ s, s < 2 ∧ t = 1 - s := ⟨1 - t, by omega, by omega⟩
        have hcn := h.count hi ht
        have hcs := h.count hi hs
        have iv := (h.anew (g := 0) (cap' := 0) (lm' := V.lm) (price := price) hN hi hs hts hk h2 hkb hqb.1 hqb.2).1
        refine (replace_anew bv bm bo (p j) i s t k V id price qty w R hT hwf h3 h4 hp hq hi a (by have := hz i hi; unfold maxLen; omega) hs hts hk hkb c hkeep iv (by omega) (by omega) (by omega) (by omega) (by omega)).mono ?_
        rintro e w' ⟨v, w3, lm3, rfl, k3, hf3, w4, ⟨hv, g, cap', lm', hm, hl, hf, k4, hg⟩, hr4, k5⟩
        obtain ⟨_, c', f, hEn, hf201, hsim, hrep, htp, htold⟩ := h.anew (g := g) (cap' := cap') (lm' := lm') (price := price) hN hi hs hts hk h2 hkb hqb.1 hqb.2
        obtain ⟨gv, run, _, hBs, _⟩ := h.gw.anew (g := g) (cap' := cap') (lm' := lm') (mN_le (Nat.le_add_right N 1)) (by unfold mN; omega) hi hs hts hk hkb (o' := repO (V.om (p j)) price qty) rfl rfl (repO_q (M' := mN (N + 1)) (h.gw.q _ hVL) (by unfold mN; push_cast; omega) (by unfold mN; omega) hqb.1 hqb.2).1
        obtain ⟨rf, rr, rn, ra, rk, hrv⟩ := rcV_form j c'
        have hd : DoesR S (aReplace id price qty) (rcS j c') (repV rf rr rn ra rk) 0 := fun base sb m W hW => rdoes_replace base sb S _ m (aReplace id price qty) rf rr rn ra rk 0 W hW rfl (fun W' m' hW' => by
          have htl : S.fresh.t.length = V.lg.tr.length := by rw [h.tr]; rfl
          have := rreplace_anew base sb j f S.fresh m' (aReplace id price qty) c' W' hW' hlen h1 h4' hp hq (by rintro ⟨x1, x2⟩; exact hkeep ⟨by rw [e6]; exact x1, by rw [e9]; exact x2⟩) hEn (by rw [htl]; omega) (by show 0 + f < _; omega)
          rw [hrv] at this
          exact this)
        refine ⟨rf, rr, rn, ra, rk, 0, ?_, .inr ⟨rfl, hln, ?_⟩⟩
        · rw [← hrv, ← hrep, hv]
          simp only [upd_same]
          rfl
        have sz3 := k3.size
        have subL : ∀ y, y < 2 → ∀ x, SdB ((V.B i).leave V.om t k) y x → SdB (V.B i) y x := fun y hy x hx => by
          by_cases e : y = t
          · subst e
            rcases hx with hx | ⟨l, hl, hx⟩
            · exact .inl hx
            · obtain ⟨k', hk', e', _⟩ := leave_memk (om := V.om) ((h.gw.gb i hi).inj y hy) hk l hl
              exact .inr ⟨k', hk', by rw [hx, e']⟩
          · unfold SdB at hx ⊢
            simp only [Bk.leave, upd_other _ _ e] at hx
            exact hx
        obtain ⟨f1, f2, f3, f4, f5⟩ := matchF_frame (p j) s (mu (p j) s ⟨(V.B i).leave V.om t k, upd V.om (p j) (repO (V.om (p j)) price qty), V.lg.moved (p j) (V.om (p j))⟩) ⟨(V.B i).leave V.om t k, upd V.om (p j) (repO (V.om (p j)) price qty), V.lg.moved (p j) (V.om (p j))⟩
        have kk : Chg (fun x => x = bv ∨ V.lm.F x ∨ x = V.bk i ∨ x = p j ∨ SdB (V.B i) s x ∨ SdB (V.B i) t x) w w4 := by
          refine (k3.mono (fun x hx => ?_)).from (k4.mono (fun x hx => ?_))
          · rcases hx with hx | hx | hx | hx | hx
            · exact .inl hx
            · exact .inr (.inl hx)
            · exact .inr (.inr (.inl hx))
            · exact .inr (.inr (.inr (.inl hx)))
            · exact .inr (.inr (.inr (.inr (.inr hx))))
          · rcases hx with hx | hx | hx | hx | hx | hx
            · exact .inl (.inl hx)
            · exact (hf3 x hx).imp_left (fun h => .inr (.inl h))
            · exact .inl (.inr (.inr (.inl hx)))
            · exact .inl (.inr (.inr (.inr (.inl hx))))
            · exact .inl (.inr (.inr (.inr (.inr (.inl (subL s hs x hx))))))
            · exact .inl (.inr (.inr (.inr (.inr (.inr (subL t ht x hx))))))
        have stat : ∀ x, Stat (upd V.om (p j) (repO (V.om (p j)) price qty) x) ((mF (p j) s ⟨(V.B i).leave V.om t k, upd V.om (p j) (repO (V.om (p j)) price qty), V.lg.moved (p j) (V.om (p j))⟩).om x) := run.stat
        have far := run.far
        have hN' := Next.of R hi (fun V' => ∃ S' p', SimV p' V' S' (N + 1) ∧ V'.lg.tp = recs V.lg.tp S'.told ∧ DoesR S (aReplace id price qty) S' (repV rf rr rn ra rk) 0 ∧ S'.told.length ≤ 201 ∧ Szs V') hm hl (fun x hx => (hf x hx).elim (fun h => hf3 x h) (fun h => .inr (Nat.le_trans sz3 h))) kk (fun x hx => ?_) (fun j' hj' hne t' ht' l hl => ?_) (fun x => ?_) ?_ (fun t' ht' x hx => ?_) ⟨rcS j c', p, hsim, htp, hd, htold, hz.turn (by rw [comeB_sym]; exact f4)⟩
        · exact hN'.keep hr4 (Nat.le_refl _) k5
        · rcases hx with hx | hx | hx | hx | hx | hx
          · exact .inl hx
          · exact .inr (.inl hx)
          · exact .inr (.inr (.inl hx))
          · exact .inr (.inr (.inr (.inr ⟨by rw [hx]; exact hVL, by rw [hx]; exact hap⟩)))
          · exact .inr (.inr (.inr (.inl ⟨s, hs, hx⟩)))
          · exact .inr (.inr (.inr (.inl ⟨t, ht, hx⟩)))
        · have hne2 : (V.B j').h t' l ≠ p j := fun e => hap j' hj' hne t' ht' (by rw [← e]; exact .inr ⟨l, hl, rfl⟩)
          rw [comeOm_far _ _ hne2, far _ hne2 (fun hmm => ?_)]
          · exact upd_other _ _ hne2
          · obtain ⟨k2, hk2, e2⟩ := hmm
            have hsd : SdB (V.B i) s ((V.B j').h t' l) := subL s hs _ (.inr ⟨k2, hk2, e2⟩)
            exact R.seps i j' hi hj' (fun e => hne e.symm) s t' hs ht' _ hsd (.inr ⟨l, hl, rfl⟩)
        · rw [comeOm_id]
          rw [(stat x).1]
          by_cases e : x = p j
          · rw [e, upd_same]; rfl
          · rw [upd_other _ _ e]
        · rw [comeB_sym]
          exact f4
        · rcases comeB_sd hx with hx | hx | hx
          · left
            by_cases es : t' = s
            · subst es
              refine ⟨t', ht', subL t' ht' x ?_⟩
              exact (matchF_om _ _ iv).2.2.1 x hx
            · refine ⟨t', ht', subL t' ht' x ?_⟩
              unfold SdB mF at hx
              rw [f2, (f1 t' es).1, (f1 t' es).2] at hx
              exact hx
          · exact .inr (.inl ⟨by rw [hx]; exact hVL, by rw [hx]; exact hap⟩)
          · rcases hg with hg | hg
            · exact .inl ⟨t, ht, .inl (by rw [hx]; exact hg)⟩
            · right; right; omega
    · have hr : numB price = false ∨ (numB price = true ∧ numB qty = false) := by
        cases h6 : numB price
        · exact .inl rfl
        · right; refine ⟨rfl, ?_⟩
          cases h7 : numB qty
          · rfl
          · exact absurd ⟨h6, h7⟩ hnum
      have hd : DoesR S (aReplace id price qty) S.fresh (repV 0 0 0 0 0) 4 := fun base sb m W hW => rdoes_replace base sb S S.fresh m (aReplace id price qty) 0 0 0 0 0 4 W hW rfl (fun W' m' hW' => by
        have := rreplace_range base sb S.fresh m' (aReplace id price qty) W' hW' hlen h5 (hr.imp_right (fun x => x.2))
        exact this.mono (fun e w' ⟨h1, k⟩ => ⟨h1, (StN.refl hW').ext k⟩))
      refine (replace_range bv bm bo (p j) V id price qty w R hwf h3 h4 hr).mono ?_
      rintro e w' ⟨rfl, k⟩
      exact ⟨0, 0, 0, 0, 0, 4, rfl, .inl ⟨by decide, k, _, hd⟩⟩

end Go.Proofs.YtigaphnafnpfnaaGreatDoor

set_option linter.unusedVariables false
set_option linter.unusedSimpArgs false
/- Enter: the program's answer, and the document's. -/
namespace Go.Proofs.YtigaphnafnpfnaaGreatDoor
open Go.RowKit Go.Maps

theorem size8 (a b c d e f g h i j k l m n : ByteArray) : (a ++ b ++ c ++ d ++ e ++ f ++ g ++ h ++ i ++ j ++ k ++ l ++ m ++ n).size = a.size + b.size + c.size + d.size + e.size + f.size + g.size + h.size + i.size + j.size + k.size + l.size + m.size + n.size := by
  simp only [ByteArray.size_append]

theorem lined_enter {o : Ask} (h1 : Fig o.id) (h2 : Fig o.owner) (h3 : Fig o.side) (h4 : Fig o.kind) (h5 : Fig o.price) (h6 : Fig o.qty) (hs : o.sym.size ≤ 100) : Lined (aEnter o) := by
  refine ⟨_, fun W => rline_enter ⟨#[]⟩ o.id o.owner o.sym o.side o.kind o.price o.qty 0 0 0 false W h1 h2 h3 h4 h5 h6 (by omega), ?_⟩
  have z1 := (txi_size _ h1).2
  have z2 := (txi_size _ h2).2
  have z3 := (txi_size _ h3).2
  have z4 := (txi_size _ h4).2
  have z5 := (txi_size _ h5).2
  have z6 := (txi_size _ h6).2
  unfold lineE
  rw [size8]
  show 6 + (txi o.id).size + 1 + (txi o.owner).size + 1 + o.sym.size + 1 + (txi o.side).size + 1 + (txi o.kind).size + 1 + (txi o.price).size + 1 + (txi o.qty).size ≤ 300
  omega

theorem SimV.rent {p : Nat → Nat} {V : Ven} {S : RS} {N : Nat} (h : SimV p V S N) (o : Ask) : rentE S o = enterE o (V.oid o.id).isSome (symB S.sy o.sym) (decide (200 ≤ V.no)) (bestR S.l o).isSome (decide (offX S.l o S.l.length < o.qty)) := by
  unfold rentE
  rw [h.found o.id, h.no]
  congr 1
  cases ordX S.l o.id <;> rfl

/-- the reason, whatever it is -/
theorem refusal_any {p : Nat → Nat} {V : Ven} {S : RS} {N : Nat} (bv bm bo : Nat) (h : SimV p V S N) (hN : N < 2900000) (o : Ask) (hlen : o.sym.size ≤ maxLen) (hid : (Lit.int .i64 o.id).wf = true) (W : World) (R : Rep W bv bm bo V) :
    Calls Tryz.prog 111 #[.pointer (some ⟨bv, 0, none⟩), o.val] W fun e w' => e = .returned (.int .i64 (rentE S o)) ∧ Chg Non W w' := by
  have hM : mN N ≤ 1000000000000000 := by unfold mN; omega
  rw [h.rent o]
  have hth : (symB S.sy o.sym = true ∧ ∃ i, i < V.nb ∧ (V.B i).sym = o.sym) ∨ (symB S.sy o.sym = false ∧ ∀ i, i < V.nb → (V.B i).sym ≠ o.sym) := by
    cases hx : symB S.sy o.sym
    · right; refine ⟨rfl, fun i hi e => ?_⟩
      rw [(h.there _).2 ⟨i, hi, e⟩] at hx; exact absurd hx (by decide)
    · left; exact ⟨rfl, (h.there _).1 hx⟩
  have early : symB S.sy o.sym = false ∨ 200 ≤ V.no ∨ enterE o (V.oid o.id).isSome (symB S.sy o.sym) (decide (200 ≤ V.no)) (bestR S.l o).isSome (decide (offX S.l o S.l.length < o.qty)) ≠ (if o.kind = 4 ∧ (bestR S.l o).isSome = true then 8 else if o.kind = 3 ∧ decide (offX S.l o S.l.length < o.qty) = true then 9 else 0) →
      Calls Tryz.prog 111 #[.pointer (some ⟨bv, 0, none⟩), o.val] W fun e w' => e = .returned (.int .i64 (enterE o (V.oid o.id).isSome (symB S.sy o.sym) (decide (200 ≤ V.no)) (bestR S.l o).isSome (decide (offX S.l o S.l.length < o.qty)))) ∧ Chg Non W w' :=
    fun hE => refusal_early bv bm bo V o W R hlen hid _ _ _ hth hE
  have nE : ∀ (k : Int), (k = 1 ∨ k = 2 ∨ k = 4 ∨ k = 5) → k ≠ (if o.kind = 4 ∧ (bestR S.l o).isSome = true then 8 else if o.kind = 3 ∧ decide (offX S.l o S.l.length < o.qty) = true then 9 else 0) := by
    intro k hk
    split
    · omega
    · split <;> omega
  rcases early_cases o (V.oid o.id).isSome (symB S.sy o.sym) (decide (200 ≤ V.no)) (bestR S.l o).isSome (decide (offX S.l o S.l.length < o.qty)) with ⟨_, e⟩ | ⟨_, _, e⟩ | ⟨g1, g2, ⟨_, e⟩ | ⟨_, _, e⟩ | ⟨g3, g4, ⟨_, e⟩ | ⟨g5, ⟨_, e⟩ | ⟨_, _, e⟩ | ⟨g6, g7, ⟨g8, e⟩ | ⟨g8, g9, e⟩ | ⟨g8, g9, e⟩⟩⟩⟩⟩
  · exact early (.inr (.inr (by rw [e]; exact nE 1 (by omega))))
  · exact early (.inr (.inr (by rw [e]; exact nE 2 (by omega))))
  · exact early (.inr (.inr (by rw [e]; exact nE 4 (by omega))))
  · exact early (.inr (.inr (by rw [e]; exact nE 4 (by omega))))
  · exact early (.inr (.inr (by rw [e]; exact nE 5 (by omega))))
  · exact early (.inr (.inr (by rw [e]; exact nE 4 (by omega))))
  · exact early (.inr (.inr (by rw [e]; exact nE 4 (by omega))))
  · exact early (.inl g8)
  · exact early (.inr (.inl (by simpa using g9)))
  · rw [e]
    have h2 : V.oid o.id = none := by simpa using g2
    have h8 : V.no < 200 := by simp at g9; omega
    obtain ⟨i, hi, hsym⟩ := (h.there _).1 g8
    have hsd : o.side = 0 ∨ o.side = 1 := by
      unfold sideB at g4
      simp at g4
      exact g4
    obtain ⟨t, ht, hst⟩ : ∃ t : Nat, t < 2 ∧ o.side = (t : Int) := by
      rcases hsd with e | e
      · exact ⟨0, by omega, e⟩
      · exact ⟨1, by omega, e⟩
    obtain ⟨s, hs, hts⟩ : ∃ s, s < 2 ∧ t = 1 - s := ⟨1 - t, by omega, by omega⟩
    have hside : o.side = 1 - (s : Int) := by omega
    by_cases hk4 : o.kind = 4
    · have := refusal_post bv bm bo i s V o W R hi hsym hlen g1 h2 g3 g4 g5 g6 g7 h8 hk4 hs hside
      rw [h.cross hi hs hts hsym.symm hst] at this
      rw [show (if o.kind = 4 ∧ (bestR S.l o).isSome = true then (8 : Int) else if o.kind = 3 ∧ decide (offX S.l o S.l.length < o.qty) = true then 9 else 0) = if (bestR S.l o).isSome = true then 8 else 0 by
        by_cases hb : (bestR S.l o).isSome = true
        · rw [if_pos ⟨hk4, hb⟩, if_pos hb]
        · rw [if_neg (fun x => hb x.2), if_neg (fun x => by omega), if_neg hb]]
      exact this
    · by_cases hk3 : o.kind = 3
      · have := refusal_whole bv bm bo i s V o W R hi hsym hlen g1 h2 g3 g4 g5 g6 g7 h8 hk3 hs hside (fun k hk => by
          have hm := ((h.gw.gb i hi).mem s hs _).1 ⟨k, hk, rfl⟩
          have q := h.gw.q _ hm.1
          have := q.o0; have := q.f0; have := q.c0; have := q.e0; have := q.sum; have := q.hi
          omega)
        rw [h.whole hi hs hts hsym.symm hst] at this
        rw [show (if o.kind = 4 ∧ (bestR S.l o).isSome = true then (8 : Int) else if o.kind = 3 ∧ decide (offX S.l o S.l.length < o.qty) = true then 9 else 0) = if offX S.l o S.l.length < o.qty then 9 else 0 by
          rw [if_neg (fun x => hk4 x.1)]
          by_cases hb : offX S.l o S.l.length < o.qty
          · rw [if_pos ⟨hk3, by simpa using hb⟩, if_pos hb]
          · rw [if_neg (fun x => hb (by simpa using x.2)), if_neg hb]]
        exact this
      · rw [if_neg (fun x => hk4 x.1), if_neg (fun x => hk3 x.1)]
        exact refusal_ok bv bm bo i V o W R hi hsym hlen g1 h2 g3 g4 g5 g6 g7 h8 hk3 hk4

theorem out_enter (bv bm bo N : Nat) (V : Ven) (p : Nat → Nat) (S : RS) (o : Ask) (w : World) (R : Rep w bv bm bo V) (hT : Tab w) (h : SimV p V S N) (hN : N < 2900000) (hz : Szs V) (hlen : o.sym.size ≤ 1000000000) (hid : (Lit.int .i64 o.id).wf = true) (bOw : i64B o.owner) (bKd : i64B o.kind) (bPr : i64B o.price) :
    Calls Tryz.prog 64 #[.pointer (some ⟨bv, 0, none⟩), o.val] w fun e w' => ∃ f r n a c E, e = .returned (.tuple #[repV f r n a c, .int .i64 E]) ∧ Out bv bm bo V p S N (aEnter o) f r n a c E w w' := by
  have hM : mN N ≤ 1000000000000000 := by unfold mN; omega
  have hml : o.sym.size ≤ maxLen := by unfold maxLen; omega
  have hlS : S.l.length ≤ 200 := by have := h.no; have := h.no200; omega
  have hsy : S.sy.length ≤ 1000 := by have := h.nb; have := h.nb6; omega
  have hop : ∀ k, k < S.l.length → 0 ≤ (nthO S.l k).opn ∧ (nthO S.l k).opn ≤ 1000000000000000 := fun k hk => by have := h.opn hk; omega
  have trN := h.trN
  have tpN := h.tpN
  have naN := h.naN
  have hrf := refusal_any bv bm bo h hN o hml hid
  by_cases hE : rentE S o = 0
  · have hrent := h.rent o
    rw [hE] at hrent
    rcases early_cases o (V.oid o.id).isSome (symB S.sy o.sym) (decide (200 ≤ V.no)) (bestR S.l o).isSome (decide (offX S.l o S.l.length < o.qty)) with ⟨_, e⟩ | ⟨_, _, e⟩ | ⟨g1, g2, ⟨_, e⟩ | ⟨_, _, e⟩ | ⟨g3, g4, ⟨_, e⟩ | ⟨g5, ⟨_, e⟩ | ⟨_, _, e⟩ | ⟨g6, g7, ⟨g8, e⟩ | ⟨g8, g9, e⟩ | ⟨g8, g9, e⟩⟩⟩⟩⟩
    case inr.inr.inr.inr.inr.inr.inr.inr.inr =>
      have h2 : V.oid o.id = none := by simpa using g2
      have h8 : V.no < 200 := by simp at g9; omega
      obtain ⟨i, hi, hsym⟩ := (h.there _).1 g8
      have hsd : o.side = 0 ∨ o.side = 1 := by
        unfold sideB at g4
        simp at g4
        exact g4
      obtain ⟨t, ht, hst⟩ : ∃ t : Nat, t < 2 ∧ o.side = (t : Int) := by
        rcases hsd with e | e
        · exact ⟨0, by omega, e⟩
        · exact ⟨1, by omega, e⟩
      obtain ⟨s, hs, hts⟩ : ∃ s, s < 2 ∧ t = 1 - s := ⟨1 - t, by omega, by omega⟩
      have hqb : 1 ≤ o.qty ∧ o.qty ≤ 1000000 := by simpa [numB] using g6
      have hs100 : o.sym.size ≤ 100 := by rw [← hsym]; exact hz i hi
      have hinv : ∀ k, k < (V.B i).n s → (V.om ((V.B i).h s k)).side = (s : Int) ∧ 0 < (V.om ((V.B i).h s k)).opn ∧ (V.om ((V.B i).h s k)).opn ≤ 1000000000000000 := fun k hk => by
        obtain ⟨a, b, c, d⟩ := ((h.gw.gb i hi).mem s hs _).1 ⟨k, hk, rfl⟩
        have q := h.gw.q _ a
        exact ⟨c, d, by have := q.sum; have := q.f0; have := q.c0; have := q.e0; have := q.hi; omega⟩
      rw [hE] at hrf
      refine (enter_gen bv bm bo i s t V o w R hT hi hsym hs100 bOw bKd bPr g1 h2 g6 h8 hrf hs hts hst hinv (h.count hi (by omega)) (h.count hi hs) (by omega) (by omega) (by omega)).mono ?_
      rintro e w' ⟨v, rfl, b, g, cap', lm', hb, rfl, R', k, hF, _⟩
      have hbn : ¬ VL V b := fun ⟨id, hx⟩ => by
        obtain ⟨_, ix, hob⟩ := R.ords id b hx
        have := hob.lt; omega
      obtain ⟨c', f, hEn, hf201, hsim, hrep, htp, htold⟩ := h.enter (g := g) (cap' := cap') (lm' := lm') hN hi hs hts hsym.symm hst hqb.1 hqb.2 h2 hbn h8 g1
      obtain ⟨gv, run, _, hBs, _⟩ := h.gw.enter (b := b) (g := g) (cap' := cap') (lm' := lm') hM hi hs hts hsym.symm hst (by omega) (by unfold mN; omega) h2 hbn
      obtain ⟨rf, rr, rn, ra, rk, hrv⟩ := rcV_form S.l.length c'
      have hfo : Fig o.owner := by unfold ownB' at g3; simp at g3; exact ⟨by omega, by omega⟩
      have hfs : Fig o.side := ⟨by omega, by omega⟩
      have hfk : Fig o.kind := by unfold kindB at g5; simp at g5; exact ⟨by omega, by omega⟩
      have hfp : Fig o.price := by unfold priceB at g7; split at g7 <;> simp [numB] at g7 <;> exact ⟨by omega, by omega⟩
      refine ⟨rf, rr, rn, ra, rk, 0, ?_, .inr ⟨rfl, lined_enter (fig_of g1) hfo hfs hfk hfp (fig_of g6) hs100, _, R', ⟨rcS S.l.length c', _, hsim, htp, fun base sb m W hW => ?_, htold, ?_⟩, k, hF⟩⟩
      · rw [← hrv, ← hrep]
      · have htl : S.t.length = V.lg.tr.length := by rw [h.tr]
        have := rdoes_enter base sb f S m (aEnter o) c' W hW rfl (by omega) hsy hop hE hEn (by rw [htl]; omega) (by omega)
        rw [hrv] at this
        exact this
      · intro j hj
        rw [hBs j]
        exact hz j hj
    all_goals
      rw [e] at hrent
      exact absurd hrent (by decide)
  · refine (enter_err bv o (rentE S o) w hE (fun W kW => hrf W (R.kept0 kW))).mono ?_
    rintro e w' ⟨rfl, k⟩
    exact ⟨0, 0, 0, 0, 0, rentE S o, rfl, .inl ⟨hE, k, S.fresh, fun base sb m W hW => rdoes_enter_err base sb S m (aEnter o) W hW rfl (by omega) hsy hop hE⟩⟩

end Go.Proofs.YtigaphnafnpfnaaGreatDoor

