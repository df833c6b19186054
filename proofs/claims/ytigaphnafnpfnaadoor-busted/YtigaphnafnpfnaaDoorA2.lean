import Derived.Test.YtigaphnafnpfnaaDoorA1
import Derived.Deep.AppendLies
set_option linter.unusedVariables false
set_option linter.unusedSimpArgs false
namespace Go.Proofs.YtigaphnafnpfnaaDoor
open Go.RowKit
attribute [local go_sem ↓] Go.wp_at_zero Go.wp_at_succ

def lessB (a b : Ord) : Bool := decide (rankI a b < 0)

set_option maxHeartbeats 1000000 in
theorem less_any (ab n cap i j a b : Nat) (oa ob : Ord) (ia ib : Int) (w : World) (hi : i < n) (hj : j < n) (_hn : n ≤ 1000)
    (ci : w.cell? ⟨ab, i, none⟩ = some (.pointer (some ⟨a, 0, none⟩))) (cj : w.cell? ⟨ab, j, none⟩ = some (.pointer (some ⟨b, 0, none⟩))) (ha : IsOrd w a oa ia) (hb : IsOrd w b ob ib) :
    Calls Tryd.prog 102 #[.slice (some ⟨ab, 0, none⟩) n cap, .int .i64 i, .int .i64 j] w fun e w' => e = .returned (.bool (lessB oa ob)) ∧ Below w.heap.size w w' := by
  have i0 : (0 : Int) ≤ (i : Int) := by omega
  have i1 : (i : Int) < (n : Int) := by omega
  have j0 : (0 : Int) ≤ (j : Int) := by omega
  have j1 : (j : Int) < (n : Int) := by omega
  go_enter Tryd.func102, Tryd.ntmps102
  go_wp2
  go_region_held3 (fun w' => w'.cell? ⟨ab, i, none⟩ = some (.pointer (some ⟨a, 0, none⟩)) ∧ w'.cell? ⟨ab, j, none⟩ = some (.pointer (some ⟨b, 0, none⟩))) (go_keep)
      (first | (go_at_call 104; refine (byRank_any _ _ oa ob ia ib _ ?_ ?_).mono ?_; (exact ha.drew); (exact hb.drew); rintro e w1 ⟨rfl, hb1⟩; have k1 := (Chg.of_below hb1).cell (p := ⟨ab, i, none⟩) ci id; have k2 := (Chg.of_below hb1).cell (p := ⟨ab, j, none⟩) cj id))
  go_wp2
  go_ret
  exact ⟨rfl, ((Chg.refl Non w).drew.trans (Chg.of_below hb1)).below⟩

theorem len_any (v : Option Addr) (n cap : Nat) (w : World) : Calls Tryd.prog 101 #[.slice v n cap] w fun e w' => e = .returned (.int .i64 n) ∧ w' = w := by
  go_enter Tryd.func101, Tryd.ntmps101
  go_wp2
  go_ret
  exact ⟨rfl, rfl⟩

set_option maxHeartbeats 1000000 in
theorem swap_any (ab n cap i j a b : Nat) (ia ib : Value) (w : World) (hi : i < n) (hj : j < n) (hij : i ≠ j) (hab : a ≠ b) (haa : a ≠ ab) (hba : b ≠ ab)
    (ci : w.cell? ⟨ab, i, none⟩ = some (.pointer (some ⟨a, 0, none⟩))) (cj : w.cell? ⟨ab, j, none⟩ = some (.pointer (some ⟨b, 0, none⟩)))
    (fi : w.frozen? ⟨ab, i, none⟩ = false) (fj : w.frozen? ⟨ab, j, none⟩ = false) (ca : w.cell? ⟨a, 13, none⟩ = some ia) (cb : w.cell? ⟨b, 13, none⟩ = some ib) (fa : w.frozen? ⟨a, 13, none⟩ = false) (fb : w.frozen? ⟨b, 13, none⟩ = false) :
    Calls Tryd.prog 103 #[.slice (some ⟨ab, 0, none⟩) n cap, .int .i64 i, .int .i64 j] w fun e w' => e = .returned (.tuple #[]) ∧
      ∃ q, w' = ((((w.setCell ⟨ab, i, none⟩ (.pointer (some ⟨b, 0, none⟩))).setCell ⟨ab, j, none⟩ (.pointer (some ⟨a, 0, none⟩))).setCell ⟨b, 13, none⟩ (.int .i64 i)).setCell ⟨a, 13, none⟩ (.int .i64 j)).drewN q := by
  have i0 : (0 : Int) ≤ (i : Int) := by omega
  have i1 : (i : Int) < (n : Int) := by omega
  have j0 : (0 : Int) ≤ (j : Int) := by omega
  have j1 : (j : Int) < (n : Int) := by omega
  go_enter Tryd.func103, Tryd.ntmps103
  go_wp2
  go_region
  go_wp2
  go_region
  go_wp2
  go_end0
  exact ⟨rfl, 2, rfl⟩

/-- a side of a book: its array, and the orders, each with its place in the heap -/
structure Side (w : World) (ab cap n : Nat) (h : Nat → Nat) (om : Nat → Ord) : Prop where
  arr : ∃ cs, Blk w ab cs 68 ∧ cs.size = cap ∧ ∀ i, i < n → cs[i]? = some (.pointer (some ⟨h i, 0, none⟩))
  ord : ∀ i, i < n → IsOrd w (h i) (om (h i)) i
  le : n ≤ cap
  small : n ≤ 1000
  capm : cap ≤ maxLen

/-- the blocks that a turn of the heap may write -/
def Sd (ab n : Nat) (h : Nat → Nat) : Nat → Prop := fun b => b = ab ∨ ∃ k, k < n ∧ b = h k

def sw (h : Nat → Nat) (i j : Nat) : Nat → Nat := fun k => if k = i then h j else if k = j then h i else h k

theorem Sd_sw {ab n : Nat} {h : Nat → Nat} {i j : Nat} (hi : i < n) (hj : j < n) : Sd ab n (sw h i j) = Sd ab n h := by
  funext b
  apply propext
  unfold Sd sw
  constructor
  · rintro (rfl | ⟨k, hk, rfl⟩)
    · exact .inl rfl
    · right
      split
      · exact ⟨j, hj, rfl⟩
      · split
        · exact ⟨i, hi, rfl⟩
        · exact ⟨k, hk, rfl⟩
  · rintro (rfl | ⟨k, hk, rfl⟩)
    · exact .inl rfl
    · right
      by_cases h1 : k = i
      · refine ⟨j, hj, ?_⟩
        split
        · subst h1; rename_i e; rw [e]
        · rw [if_pos rfl, h1]
      · by_cases h2 : k = j
        · exact ⟨i, hi, by rw [if_pos rfl, h2]⟩
        · exact ⟨k, hk, by rw [if_neg h1, if_neg h2]⟩

theorem Ord.cells_inj {o o' : Ord} {i j : Int} (h : o.cells i = o'.cells j) : i = j ∧ o = o' := by
  cases o; cases o'
  simp [Ord.cells] at h
  simp_all

theorem Side.inj {w : World} {ab cap n : Nat} {h : Nat → Nat} {om : Nat → Ord} (s : Side w ab cap n h om) {i j : Nat} (hi : i < n) (hj : j < n) (e : h i = h j) : i = j := by
  have h1 := s.ord i hi
  have h2 := s.ord j hj
  rw [e] at h1
  have := (Ord.cells_inj (Blk.uniq h1 h2)).1
  omega

theorem Side.kept {w w' : World} {ab cap n : Nat} {h : Nat → Nat} {om : Nat → Ord} (s : Side w ab cap n h om) {S : Nat → Prop} (k : Chg S w w') (hS : ∀ b, Sd ab n h b → ¬ S b) : Side w' ab cap n h om := by
  obtain ⟨cs, hb, hc, hp⟩ := s.arr
  exact ⟨⟨cs, k.blk hb (hS _ (.inl rfl)), hc, hp⟩, fun i hi => k.blk (s.ord i hi) (hS _ (.inr ⟨i, hi, rfl⟩)), s.le, s.small, s.capm⟩

theorem Alike.chg {w w' : World} (h : ∃ q, w' = w.drewN q) : Chg Non w w' := by
  obtain ⟨q, rfl⟩ := h
  exact (Chg.refl _ w).drewN q

theorem Alike.blk {w w' : World} (h : ∃ q, w' = w.drewN q) {b : Nat} {c : Array Value} {t : TypeId} (k : Blk w b c t) : Blk w' b c t := (Alike.chg h).blk k id

theorem Side.swap {w w' : World} {ab cap n : Nat} {h : Nat → Nat} {om : Nat → Ord} (s : Side w ab cap n h om) {i j : Nat} (hi : i < n) (hj : j < n) (hij : i ≠ j)
    (hw : ∃ q, w' = ((((w.setCell ⟨ab, i, none⟩ (.pointer (some ⟨h j, 0, none⟩))).setCell ⟨ab, j, none⟩ (.pointer (some ⟨h i, 0, none⟩))).setCell ⟨h j, 13, none⟩ (.int .i64 i)).setCell ⟨h i, 13, none⟩ (.int .i64 j)).drewN q) :
    Side w' ab cap n (sw h i j) om ∧ Chg (Sd ab n h) w w' := by
  obtain ⟨cs, hb, hc, hp⟩ := s.arr
  have hne : ∀ k, k < n → h k ≠ ab := fun k hk => Blk.ne (s.ord k hk) hb (by decide)
  have hab : h i ≠ h j := fun e => hij (s.inj hi hj e)
  have hle := s.le
  refine ⟨⟨⟨(cs.setIfInBounds i (.pointer (some ⟨h j, 0, none⟩))).setIfInBounds j (.pointer (some ⟨h i, 0, none⟩)), ?_, by simpa using hc, ?_⟩, ?_, s.le, s.small, s.capm⟩, ?_⟩
  · exact Alike.blk hw ((((hb.set i _).set j _).other (fun e => hne j hj e.symm) _).other (fun e => hne i hi e.symm) _)
  · intro k hk
    have := hp k hk
    unfold sw
    by_cases h1 : k = i
    · subst h1
      rw [if_pos rfl, Array.getElem?_setIfInBounds_ne (fun e => hij e.symm), Array.getElem?_setIfInBounds_self_of_lt (by omega)]
    · rw [if_neg h1]
      by_cases h2 : k = j
      · subst h2
        rw [if_pos rfl, Array.getElem?_setIfInBounds_self_of_lt (by simp; omega)]
      · rw [if_neg h2, Array.getElem?_setIfInBounds_ne (fun e => h2 e.symm), Array.getElem?_setIfInBounds_ne (fun e => h1 e.symm), this]
  · intro k hk
    unfold sw
    have base : ∀ {b : Nat} {c : Array Value} {t : TypeId}, Blk w b c t → b ≠ ab → Blk ((w.setCell ⟨ab, i, none⟩ (.pointer (some ⟨h j, 0, none⟩))).setCell ⟨ab, j, none⟩ (.pointer (some ⟨h i, 0, none⟩))) b c t := fun hb hn => (hb.other hn _).other hn _
    by_cases h1 : k = i
    · subst h1
      rw [if_pos rfl]
      have := (base (s.ord j hj) (hne j hj)).set 13 (.int .i64 (k : Int))
      exact Alike.blk hw (this.other (fun e => hab e.symm) _)
    · rw [if_neg h1]
      by_cases h2 : k = j
      · subst h2
        rw [if_pos rfl]
        exact Alike.blk hw (((base (s.ord i hi) (hne i hi)).other hab _).set 13 _)
      · rw [if_neg h2]
        exact Alike.blk hw (((base (s.ord k hk) (hne k hk)).other (fun e => h2 (s.inj hk hj e)) _).other (fun e => h1 (s.inj hk hi e)) _)
  · refine Chg.trans ?_ (Alike.chg hw).of_non
    exact ((((Chg.refl _ w).setCell (.inl (.inl rfl)) _).setCell (.inl (.inl rfl)) _).setCell (.inl (.inr ⟨j, hj, rfl⟩)) _).setCell (.inl (.inr ⟨i, hi, rfl⟩)) _

def ltB (om : Nat → Ord) (x y : Nat) : Bool := lessB (om x) (om y)

def upF (lt : Nat → Nat → Bool) (h : Nat → Nat) (j : Nat) : Nat → Nat :=
  if hj : j = 0 then h else
    if lt (h j) (h ((j - 1) / 2)) then upF lt (sw h ((j - 1) / 2) j) ((j - 1) / 2) else h


/-- the contract of Less, of two places of a side -/
theorem less_side (ab cap n i j : Nat) (h : Nat → Nat) (om : Nat → Ord) (w : World) (hs : Side w ab cap n h om) (hi : i < n) (hj : j < n) :
    Calls Tryd.prog 102 #[.slice (some ⟨ab, 0, none⟩) n cap, .int .i64 i, .int .i64 j] w fun e w' => e = .returned (.bool (ltB om (h i) (h j))) ∧ Chg Non w w' := by
  obtain ⟨cs, hb, hc, hp⟩ := hs.arr
  have := hs.le
  have := hs.small
  refine (less_any ab n cap i j (h i) (h j) (om (h i)) (om (h j)) i j w hi hj (by omega) ((hb.cell i).trans (hp i hi)) ((hb.cell j).trans (hp j hj)) (hs.ord i hi) (hs.ord j hj)).mono ?_
  rintro e w' ⟨rfl, hb⟩
  exact ⟨rfl, Chg.of_below hb⟩

theorem swap_side (ab cap n i j : Nat) (h : Nat → Nat) (om : Nat → Ord) (w : World) (hs : Side w ab cap n h om) (hi : i < n) (hj : j < n) (hij : i ≠ j) :
    Calls Tryd.prog 103 #[.slice (some ⟨ab, 0, none⟩) n cap, .int .i64 i, .int .i64 j] w fun e w' => e = .returned (.tuple #[]) ∧ Side w' ab cap n (sw h i j) om ∧ Chg (Sd ab n h) w w' := by
  obtain ⟨cs, hb, hc, hp⟩ := hs.arr
  have hne : ∀ k, k < n → h k ≠ ab := fun k hk => Blk.ne (hs.ord k hk) hb (by decide)
  have oi := hs.ord i hi
  have oj := hs.ord j hj
  refine (swap_any ab n cap i j (h i) (h j) (.int .i64 i) (.int .i64 j) w hi hj hij (fun e => hij (hs.inj hi hj e)) (hne i hi) (hne j hj) ((hb.cell i).trans (hp i hi)) ((hb.cell j).trans (hp j hj)) (hb.frozen i) (hb.frozen j)
    (oi.cell 13) (oj.cell 13) (oi.frozen 13) (oj.frozen 13)).mono ?_
  rintro e w' ⟨rfl, hw⟩
  exact ⟨rfl, hs.swap hi hj hij hw⟩
theorem load76 (a : Addr) (w : World) (s : Option Addr) (n c : Nat) (h : w.cell? a = some (.slice s n c)) : (loadVar 64 a).run Tryd.prog w = .ok (.slice s n c) w := by
  go_simp
theorem methLess (a : Addr) (w : World) (s : Option Addr) (n c : Nat) (h : w.cell? a = some (.slice s n c)) : Sem.run Tryd.prog (method 255 112 (.pointer (some a)) "Less") w = .ok (102, .slice s n c) w := by
  have e : Sem.run Tryd.prog (method 255 112 (.pointer (some a)) "Less") w = Sem.run Tryd.prog (do let v ← loadVar 64 a; pure (102, v)) w := by kernel_rfl
  rw [e]; have := load76 a w s n c h; go_simp
theorem methSwap (a : Addr) (w : World) (s : Option Addr) (n c : Nat) (h : w.cell? a = some (.slice s n c)) : Sem.run Tryd.prog (method 255 112 (.pointer (some a)) "Swap") w = .ok (103, .slice s n c) w := by
  have e : Sem.run Tryd.prog (method 255 112 (.pointer (some a)) "Swap") w = Sem.run Tryd.prog (do let v ← loadVar 64 a; pure (103, v)) w := by kernel_rfl
  rw [e]; have := load76 a w s n c h; go_simp
theorem methLen (a : Addr) (w : World) (s : Option Addr) (n c : Nat) (h : w.cell? a = some (.slice s n c)) : Sem.run Tryd.prog (method 255 112 (.pointer (some a)) "Len") w = .ok (101, .slice s n c) w := by
  have e : Sem.run Tryd.prog (method 255 112 (.pointer (some a)) "Len") w = Sem.run Tryd.prog (do let v ← loadVar 64 a; pure (101, v)) w := by kernel_rfl
  rw [e]; have := load76 a w s n c h; go_simp
theorem methPush (a : Addr) (w : World) : Sem.run Tryd.prog (method 255 112 (.pointer (some a)) "Push") w = .ok (110, .pointer (some a)) w := by kernel_rfl
theorem methPop (a : Addr) (w : World) : Sem.run Tryd.prog (method 255 112 (.pointer (some a)) "Pop") w = .ok (109, .pointer (some a)) w := by kernel_rfl
end Go.Proofs.YtigaphnafnpfnaaDoor
