import Derived.Test.YtigaphnafnpfnaaGreatDoorHW
import Derived.Deep.AppendLies
set_option linter.unusedVariables false
set_option linter.unusedSimpArgs false
namespace Go.Proofs.YtigaphnafnpfnaaGreatDoor
open Go.RowKit
attribute [local go_sem ↓] Go.wp_at_zero Go.wp_at_succ

def lessB (a b : Ord) : Bool := decide (rankI a b < 0)

set_option maxHeartbeats 1000000 in
theorem less_any (ab n cap i j a b : Nat) (oa ob : Ord) (ia ib : Int) (w : World) (hi : i < n) (hj : j < n) (_hn : n ≤ 1000)
    (ci : w.cell? ⟨ab, i, none⟩ = some (.pointer (some ⟨a, 0, none⟩))) (cj : w.cell? ⟨ab, j, none⟩ = some (.pointer (some ⟨b, 0, none⟩))) (ha : IsOrd w a oa ia) (hb : IsOrd w b ob ib) :
    Calls Tryz.prog 257 #[.slice (some ⟨ab, 0, none⟩) n cap, .int .i64 i, .int .i64 j] w fun e w' => e = .returned (.bool (lessB oa ob)) ∧ Below w.heap.size w w' := by
  have i0 : (0 : Int) ≤ (i : Int) := by omega
  have i1 : (i : Int) < (n : Int) := by omega
  have j0 : (0 : Int) ≤ (j : Int) := by omega
  have j1 : (j : Int) < (n : Int) := by omega
  go_enter Tryz.func257, Tryz.ntmps257
  go_wp2
  go_region_held3 (fun w' => w'.cell? ⟨ab, i, none⟩ = some (.pointer (some ⟨a, 0, none⟩)) ∧ w'.cell? ⟨ab, j, none⟩ = some (.pointer (some ⟨b, 0, none⟩))) (go_keep)
      (first | (go_at_call 83; refine (byRank_any _ _ oa ob ia ib _ ?_ ?_).mono ?_; (exact ha.drew); (exact hb.drew); rintro e w1 ⟨rfl, hb1⟩; have k1 := (Chg.of_below hb1).cell (p := ⟨ab, i, none⟩) ci id; have k2 := (Chg.of_below hb1).cell (p := ⟨ab, j, none⟩) cj id))
  go_wp2
  go_ret
  exact ⟨rfl, ((Chg.refl Non w).drew.trans (Chg.of_below hb1)).below⟩

theorem len_any (v : Option Addr) (n cap : Nat) (w : World) : Calls Tryz.prog 256 #[.slice v n cap] w fun e w' => e = .returned (.int .i64 n) ∧ w' = w := by
  go_enter Tryz.func256, Tryz.ntmps256
  go_wp2
  go_ret
  exact ⟨rfl, rfl⟩

set_option maxHeartbeats 1000000 in
theorem swap_any (ab n cap i j a b : Nat) (ia ib : Value) (w : World) (hi : i < n) (hj : j < n) (hij : i ≠ j) (hab : a ≠ b) (haa : a ≠ ab) (hba : b ≠ ab)
    (ci : w.cell? ⟨ab, i, none⟩ = some (.pointer (some ⟨a, 0, none⟩))) (cj : w.cell? ⟨ab, j, none⟩ = some (.pointer (some ⟨b, 0, none⟩)))
    (fi : w.frozen? ⟨ab, i, none⟩ = false) (fj : w.frozen? ⟨ab, j, none⟩ = false) (ca : w.cell? ⟨a, 13, none⟩ = some ia) (cb : w.cell? ⟨b, 13, none⟩ = some ib) (fa : w.frozen? ⟨a, 13, none⟩ = false) (fb : w.frozen? ⟨b, 13, none⟩ = false) :
    Calls Tryz.prog 258 #[.slice (some ⟨ab, 0, none⟩) n cap, .int .i64 i, .int .i64 j] w fun e w' => e = .returned (.tuple #[]) ∧
      ∃ q, w' = ((((w.setCell ⟨ab, i, none⟩ (.pointer (some ⟨b, 0, none⟩))).setCell ⟨ab, j, none⟩ (.pointer (some ⟨a, 0, none⟩))).setCell ⟨b, 13, none⟩ (.int .i64 i)).setCell ⟨a, 13, none⟩ (.int .i64 j)).drewN q := by
  have i0 : (0 : Int) ≤ (i : Int) := by omega
  have i1 : (i : Int) < (n : Int) := by omega
  have j0 : (0 : Int) ≤ (j : Int) := by omega
  have j1 : (j : Int) < (n : Int) := by omega
  go_enter Tryz.func258, Tryz.ntmps258
  go_wp2
  go_region
  go_wp2
  go_region
  go_wp2
  go_end0
  exact ⟨rfl, 2, rfl⟩

/-- a side of a book: its array, and the orders, each with its place in the heap -/
structure Side (w : World) (ab cap n : Nat) (h : Nat → Nat) (om : Nat → Ord) : Prop where
  arr : ∃ cs, Blk w ab cs 114 ∧ cs.size = cap ∧ ∀ i, i < n → cs[i]? = some (.pointer (some ⟨h i, 0, none⟩))
  ord : ∀ i, i < n → IsOrd w (h i) (om (h i)) i
  le : n ≤ cap
  small : n ≤ 1000
  capm : cap ≤ maxLen

/-- the blocks that a turn of the heap may write -/
def Sd (ab n : Nat) (h : Nat → Nat) : Nat → Prop := fun b => b = ab ∨ ∃ k, k < n ∧ b = h k

def sw (h : Nat → Nat) (i j : Nat) : Nat → Nat := fun k => if k = i then h j else if k = j then h i else h k

theorem Sd_sw {ab n : Nat} {h : Nat → Nat} {i j : Nat} (hi : i < n) (hj : j < n) : Sd ab n (sw h i j) = Sd ab n h := by
  funext b
  apply propext
  unfold Sd sw
  constructor
  · rintro (rfl | ⟨k, hk, rfl⟩)
    · exact .inl rfl
    · right
      split
      · exact ⟨j, hj, rfl⟩
      · split
        · exact ⟨i, hi, rfl⟩
        · exact ⟨k, hk, rfl⟩
  · rintro (rfl | ⟨k, hk, rfl⟩)
    · exact .inl rfl
    · right
      by_cases h1 : k = i
      · refine ⟨j, hj, ?_⟩
        split
        · subst h1; rename_i e; rw [e]
        · rw [if_pos rfl, h1]
      · by_cases h2 : k = j
        · exact ⟨i, hi, by rw [if_pos rfl, h2]⟩
        · exact ⟨k, hk, by rw [if_neg h1, if_neg h2]⟩

theorem Ord.cells_inj {o o' : Ord} {i j : Int} (h : o.cells i = o'.cells j) : i = j ∧ o = o' := by
  cases o; cases o'
  simp [Ord.cells] at h
  simp_all

theorem Side.inj {w : World} {ab cap n : Nat} {h : Nat → Nat} {om : Nat → Ord} (s : Side w ab cap n h om) {i j : Nat} (hi : i < n) (hj : j < n) (e : h i = h j) : i = j := by
  have h1 := s.ord i hi
  have h2 := s.ord j hj
  rw [e] at h1
  have := (Ord.cells_inj (Blk.uniq h1 h2)).1
  omega

theorem Side.kept {w w' : World} {ab cap n : Nat} {h : Nat → Nat} {om : Nat → Ord} (s : Side w ab cap n h om) {S : Nat → Prop} (k : Chg S w w') (hS : ∀ b, Sd ab n h b → ¬ S b) : Side w' ab cap n h om := by
  obtain ⟨cs, hb, hc, hp⟩ := s.arr
  exact ⟨⟨cs, k.blk hb (hS _ (.inl rfl)), hc, hp⟩, fun i hi => k.blk (s.ord i hi) (hS _ (.inr ⟨i, hi, rfl⟩)), s.le, s.small, s.capm⟩

theorem Alike.chg {w w' : World} (h : ∃ q, w' = w.drewN q) : Chg Non w w' := by
  obtain ⟨q, rfl⟩ := h
  exact (Chg.refl _ w).drewN q

theorem Alike.blk {w w' : World} (h : ∃ q, w' = w.drewN q) {b : Nat} {c : Array Value} {t : TypeId} (k : Blk w b c t) : Blk w' b c t := (Alike.chg h).blk k id

theorem Side.swap {w w' : World} {ab cap n : Nat} {h : Nat → Nat} {om : Nat → Ord} (s : Side w ab cap n h om) {i j : Nat} (hi : i < n) (hj : j < n) (hij : i ≠ j)
    (hw : ∃ q, w' = ((((w.setCell ⟨ab, i, none⟩ (.pointer (some ⟨h j, 0, none⟩))).setCell ⟨ab, j, none⟩ (.pointer (some ⟨h i, 0, none⟩))).setCell ⟨h j, 13, none⟩ (.int .i64 i)).setCell ⟨h i, 13, none⟩ (.int .i64 j)).drewN q) :
    Side w' ab cap n (sw h i j) om ∧ Chg (Sd ab n h) w w' := by
  obtain ⟨cs, hb, hc, hp⟩ := s.arr
  have hne : ∀ k, k < n → h k ≠ ab := fun k hk => Blk.ne (s.ord k hk) hb (by decide)
  have hab : h i ≠ h j := fun e => hij (s.inj hi hj e)
  have hle := s.le
  refine ⟨⟨⟨(cs.setIfInBounds i (.pointer (some ⟨h j, 0, none⟩))).setIfInBounds j (.pointer (some ⟨h i, 0, none⟩)), ?_, by simpa using hc, ?_⟩, ?_, s.le, s.small, s.capm⟩, ?_⟩
  · exact Alike.blk hw ((((hb.set i _).set j _).other (fun e => hne j hj e.symm) _).other (fun e => hne i hi e.symm) _)
  · intro k hk
    have := hp k hk
    unfold sw
    by_cases h1 : k = i
    · subst h1
      rw [if_pos rfl, Array.getElem?_setIfInBounds_ne (fun e => hij e.symm), Array.getElem?_setIfInBounds_self_of_lt (by omega)]
    · rw [if_neg h1]
      by_cases h2 : k = j
      · subst h2
        rw [if_pos rfl, Array.getElem?_setIfInBounds_self_of_lt (by simp; omega)]
      · rw [if_neg h2, Array.getElem?_setIfInBounds_ne (fun e => h2 e.symm), Array.getElem?_setIfInBounds_ne (fun e => h1 e.symm), this]
  · intro k hk
    unfold sw
    have base : ∀ {b : Nat} {c : Array Value} {t : TypeId}, Blk w b c t → b ≠ ab → Blk ((w.setCell ⟨ab, i, none⟩ (.pointer (some ⟨h j, 0, none⟩))).setCell ⟨ab, j, none⟩ (.pointer (some ⟨h i, 0, none⟩))) b c t := fun hb hn => (hb.other hn _).other hn _
    by_cases h1 : k = i
    · subst h1
      rw [if_pos rfl]
      have := (base (s.ord j hj) (hne j hj)).set 13 (.int .i64 (k : Int))
      exact Alike.blk hw (this.other (fun e => hab e.symm) _)
    · rw [if_neg h1]
      by_cases h2 : k = j
      · subst h2
        rw [if_pos rfl]
        exact Alike.blk hw (((base (s.ord i hi) (hne i hi)).other hab _).set 13 _)
      · rw [if_neg h2]
        exact Alike.blk hw (((base (s.ord k hk) (hne k hk)).other (fun e => h2 (s.inj hk hj e)) _).other (fun e => h1 (s.inj hk hi e)) _)
  · refine Chg.trans ?_ (Alike.chg hw).of_non
    exact ((((Chg.refl _ w).setCell (.inl (.inl rfl)) _).setCell (.inl (.inl rfl)) _).setCell (.inl (.inr ⟨j, hj, rfl⟩)) _).setCell (.inl (.inr ⟨i, hi, rfl⟩)) _

def ltB (om : Nat → Ord) (x y : Nat) : Bool := lessB (om x) (om y)

def upF (lt : Nat → Nat → Bool) (h : Nat → Nat) (j : Nat) : Nat → Nat :=
  if hj : j = 0 then h else
    if lt (h j) (h ((j - 1) / 2)) then upF lt (sw h ((j - 1) / 2) j) ((j - 1) / 2) else h


/-- the contract of Less, of two places of a side -/
theorem less_side (ab cap n i j : Nat) (h : Nat → Nat) (om : Nat → Ord) (w : World) (hs : Side w ab cap n h om) (hi : i < n) (hj : j < n) :
    Calls Tryz.prog 257 #[.slice (some ⟨ab, 0, none⟩) n cap, .int .i64 i, .int .i64 j] w fun e w' => e = .returned (.bool (ltB om (h i) (h j))) ∧ Chg Non w w' := by
  obtain ⟨cs, hb, hc, hp⟩ := hs.arr
  have := hs.le
  have := hs.small
  refine (less_any ab n cap i j (h i) (h j) (om (h i)) (om (h j)) i j w hi hj (by omega) ((hb.cell i).trans (hp i hi)) ((hb.cell j).trans (hp j hj)) (hs.ord i hi) (hs.ord j hj)).mono ?_
  rintro e w' ⟨rfl, hb⟩
  exact ⟨rfl, Chg.of_below hb⟩

theorem swap_side (ab cap n i j : Nat) (h : Nat → Nat) (om : Nat → Ord) (w : World) (hs : Side w ab cap n h om) (hi : i < n) (hj : j < n) (hij : i ≠ j) :
    Calls Tryz.prog 258 #[.slice (some ⟨ab, 0, none⟩) n cap, .int .i64 i, .int .i64 j] w fun e w' => e = .returned (.tuple #[]) ∧ Side w' ab cap n (sw h i j) om ∧ Chg (Sd ab n h) w w' := by
  obtain ⟨cs, hb, hc, hp⟩ := hs.arr
  have hne : ∀ k, k < n → h k ≠ ab := fun k hk => Blk.ne (hs.ord k hk) hb (by decide)
  have oi := hs.ord i hi
  have oj := hs.ord j hj
  refine (swap_any ab n cap i j (h i) (h j) (.int .i64 i) (.int .i64 j) w hi hj hij (fun e => hij (hs.inj hi hj e)) (hne i hi) (hne j hj) ((hb.cell i).trans (hp i hi)) ((hb.cell j).trans (hp j hj)) (hb.frozen i) (hb.frozen j)
    (oi.cell 13) (oj.cell 13) (oi.frozen 13) (oj.frozen 13)).mono ?_
  rintro e w' ⟨rfl, hw⟩
  exact ⟨rfl, hs.swap hi hj hij hw⟩
theorem load76 (a : Addr) (w : World) (s : Option Addr) (n c : Nat) (h : w.cell? a = some (.slice s n c)) : (loadVar 155 a).run Tryz.prog w = .ok (.slice s n c) w := by
  go_simp
theorem methLess (a : Addr) (w : World) (s : Option Addr) (n c : Nat) (h : w.cell? a = some (.slice s n c)) : Sem.run Tryz.prog (method 416 216 (.pointer (some a)) "Less") w = .ok (257, .slice s n c) w := by
  have e : Sem.run Tryz.prog (method 416 216 (.pointer (some a)) "Less") w = Sem.run Tryz.prog (do let v ← loadVar 155 a; pure (257, v)) w := by kernel_rfl
  rw [e]; have := load76 a w s n c h; go_simp
theorem methSwap (a : Addr) (w : World) (s : Option Addr) (n c : Nat) (h : w.cell? a = some (.slice s n c)) : Sem.run Tryz.prog (method 416 216 (.pointer (some a)) "Swap") w = .ok (258, .slice s n c) w := by
  have e : Sem.run Tryz.prog (method 416 216 (.pointer (some a)) "Swap") w = Sem.run Tryz.prog (do let v ← loadVar 155 a; pure (258, v)) w := by kernel_rfl
  rw [e]; have := load76 a w s n c h; go_simp
theorem methLen (a : Addr) (w : World) (s : Option Addr) (n c : Nat) (h : w.cell? a = some (.slice s n c)) : Sem.run Tryz.prog (method 416 216 (.pointer (some a)) "Len") w = .ok (256, .slice s n c) w := by
  have e : Sem.run Tryz.prog (method 416 216 (.pointer (some a)) "Len") w = Sem.run Tryz.prog (do let v ← loadVar 155 a; pure (256, v)) w := by kernel_rfl
  rw [e]; have := load76 a w s n c h; go_simp
theorem methPush (a : Addr) (w : World) : Sem.run Tryz.prog (method 416 216 (.pointer (some a)) "Push") w = .ok (260, .pointer (some a)) w := by kernel_rfl
theorem methPop (a : Addr) (w : World) : Sem.run Tryz.prog (method 416 216 (.pointer (some a)) "Pop") w = .ok (259, .pointer (some a)) w := by kernel_rfl
end Go.Proofs.YtigaphnafnpfnaaGreatDoor

set_option linter.unusedVariables false
set_option linter.unusedSimpArgs false
namespace Go.Proofs.YtigaphnafnpfnaaGreatDoor
open Go.RowKit
attribute [local go_sem ↓] Go.wp_at_zero Go.wp_at_succ

theorem upF_stop {lt : Nat → Nat → Bool} {h : Nat → Nat} {j : Nat} (hh : j = 0 ∨ lt (h j) (h ((j - 1) / 2)) = false) : upF lt h j = h := by
  rw [upF]
  rcases hh with hh | hh
  · rw [dif_pos hh]
  · split
    · rfl
    · rw [hh]; rfl
theorem upF_go {lt : Nat → Nat → Bool} {h : Nat → Nat} {j : Nat} (h0 : j ≠ 0) (hh : lt (h j) (h ((j - 1) / 2)) = true) : upF lt h j = upF lt (sw h ((j - 1) / 2) j) ((j - 1) / 2) := by
  rw [upF, dif_neg h0, hh, if_pos rfl]

set_option maxHeartbeats 1000000 in
set_option maxRecDepth 100000 in
theorem up_any (bb so ab cap n j : Nat) (bc : Array Value) (h : Nat → Nat) (om : Nat → Ord) (w : World) (hbk : Blk w bb bc 158) (hso : bc[so]? = some (.slice (some ⟨ab, 0, none⟩) n cap)) (hs : Side w ab cap n h om) (hj : j < n) :
    Calls Tryz.prog 176 #[.iface 216 (.pointer (some ⟨bb, so, none⟩)), .int .i64 j] w fun e w' => e = .returned (.tuple #[]) ∧ Side w' ab cap n (upF (ltB om) h j) om ∧ Chg (Sd ab n h) w w' := by
  go_enter Tryz.func176, Tryz.ntmps176
  go_wp2
  go_loopg [1, 4] j (fun k jv _ wr => ∃ hh : Nat → Nat, jv = .int .i64 (k : Int) ∧ k < n ∧ Side wr ab cap n hh om ∧ Chg (Sd ab n h) w wr ∧ Sd ab n hh = Sd ab n h ∧ upF (ltB om) hh k = upF (ltB om) h j)
  case atStart => exact ⟨h, rfl, hj, hs, Chg.refl _ _, rfl, rfl⟩
  case round =>
    obtain ⟨hh, rfl, hk, hs1, hc1, hS1, hu⟩ := hrel
    have AU : Hid (Sd ab n hh = Sd ab n h ∧ upF (ltB om) hh gk = upF (ltB om) h j) := ⟨hS1, hu⟩
    clear hS1 hu
    by_cases h0 : gk = 0
    · subst h0
      go_wp2
      go_end0
      refine ⟨rfl, ?_, hc1⟩
      rw [← AU.out.2, upF_stop (.inl rfl)]
      exact hs1
    · obtain ⟨m, rfl⟩ : ∃ m, gk = m + 1 := ⟨gk - 1, by omega⟩
      have hcl := hs1.small
      have hcap2 : m + 1 < 1000 := by omega
      have e1 : ((m : Int) / 2 == (m : Int) + 1) = false := by simp; omega
      have hbk1 := hc1.blk hbk (fun x => by
        rcases x with rfl | ⟨k, hk, rfl⟩
        · obtain ⟨cs, hb, _⟩ := hs.arr
          exact Blk.ne hbk hb (by decide) rfl
        · exact Blk.ne hbk (hs.ord k hk) (by decide) rfl)
      have cb1 := (hbk1.cell so).trans hso
      have hml := methLess _ _ _ _ _ cb1
      clear h0 hj hcl
      push_cast
      go_wp2_with fail
      rw [show (m : Int) / 2 = ((m / 2 : Nat) : Int) from by omega, show (m : Int) + 1 = ((m + 1 : Nat) : Int) from by omega]
      refine (less_side ab cap n (m + 1) (m / 2) hh om wr hs1 hk (by omega)).mono ?_
      rintro e w2 ⟨rfl, hc2⟩
      cases hl : ltB om (hh (m + 1)) (hh (m / 2))
      · have HL := hl
        clear hl
        go_wp2
        go_end0
        refine ⟨rfl, ?_, hc1.trans hc2.of_non⟩
        rw [← AU.out.2, upF_stop (.inr HL)]
        exact hs1.kept hc2 (fun _ _ x => x)
      · have hs2 := hs1.kept hc2 (fun _ _ x => x)
        have hbk2 := hc2.blk hbk1 (fun x => x)
        have cb2 := (hbk2.cell so).trans hso
        have hms := methSwap _ _ _ _ _ cb2
        clear hml
        go_wp2_with fail
        refine (swap_side ab cap n (m / 2) (m + 1) hh om w2 hs2 (by omega) hk (by omega)).mono ?_
        rintro e w3 ⟨rfl, hs3, hc3⟩
        clear hms
        go_wp2
        go_roundg (m / 2)
        case measure => omega
        case rel =>
          obtain ⟨a1, a2⟩ := AU.out
          refine ⟨sw hh (m / 2) (m + 1), by simp, by omega, hs3, ?_, ?_, ?_⟩
          · exact (hc1.trans hc2.of_non).trans (hc3.mono (fun b hb => by rw [← a1]; exact hb))
          · rw [Sd_sw (by omega) hk, a1]
          · rw [← a2, upF_go (j := m + 1) (by omega) hl]
            rfl

end Go.Proofs.YtigaphnafnpfnaaGreatDoor

set_option linter.unusedVariables false
set_option linter.unusedSimpArgs false
namespace Go.Proofs.YtigaphnafnpfnaaGreatDoor
open Go.RowKit

/-- which child is looked at -/
def kid (lt : Nat → Nat → Bool) (n : Nat) (h : Nat → Nat) (i : Nat) : Nat := if 2 * i + 2 < n ∧ lt (h (2 * i + 2)) (h (2 * i + 1)) = true then 2 * i + 2 else 2 * i + 1

theorem kid_b (lt : Nat → Nat → Bool) (n : Nat) (h : Nat → Nat) (i : Nat) (h1 : 2 * i + 1 < n) : i < kid lt n h i ∧ kid lt n h i < n := by
  unfold kid; split <;> omega

def downF (lt : Nat → Nat → Bool) (n : Nat) (h : Nat → Nat) (i : Nat) : (Nat → Nat) × Nat :=
  if hn : 2 * i + 1 < n then
    have _ := kid_b lt n h i hn
    if lt (h (kid lt n h i)) (h i) then downF lt n (sw h i (kid lt n h i)) (kid lt n h i) else (h, i)
  else (h, i)

theorem downF_end {lt : Nat → Nat → Bool} {n : Nat} {h : Nat → Nat} {i : Nat} (hh : ¬ 2 * i + 1 < n) : downF lt n h i = (h, i) := by
  rw [downF, dif_neg hh]
theorem downF_stop {lt : Nat → Nat → Bool} {n : Nat} {h : Nat → Nat} {i : Nat} (hh : 2 * i + 1 < n) (hl : lt (h (kid lt n h i)) (h i) = false) : downF lt n h i = (h, i) := by
  rw [downF, dif_pos hh, hl]; rfl
theorem downF_go {lt : Nat → Nat → Bool} {n : Nat} {h : Nat → Nat} {i : Nat} (hh : 2 * i + 1 < n) (hl : lt (h (kid lt n h i)) (h i) = true) : downF lt n h i = downF lt n (sw h i (kid lt n h i)) (kid lt n h i) := by
  rw [downF, dif_pos hh, hl, if_pos rfl]

theorem less_sideI (ab cap n i j : Nat) (h : Nat → Nat) (om : Nat → Ord) (w : World) (x y : Int) (hs : Side w ab cap n h om) (hi : i < n) (hj : j < n) (hx : x = (i : Int)) (hy : y = (j : Int)) :
    Calls Tryz.prog 257 #[.slice (some ⟨ab, 0, none⟩) n cap, .int .i64 x, .int .i64 y] w fun e w' => e = .returned (.bool (ltB om (h i) (h j))) ∧ Chg Non w w' := by
  subst hx; subst hy; exact less_side ab cap n i j h om w hs hi hj

theorem swap_sideI (ab cap n i j : Nat) (h : Nat → Nat) (om : Nat → Ord) (w : World) (x y : Int) (hs : Side w ab cap n h om) (hi : i < n) (hj : j < n) (hij : i ≠ j) (hx : x = (i : Int)) (hy : y = (j : Int)) :
    Calls Tryz.prog 258 #[.slice (some ⟨ab, 0, none⟩) n cap, .int .i64 x, .int .i64 y] w fun e w' => e = .returned (.tuple #[]) ∧ Side w' ab cap n (sw h i j) om ∧ Chg (Sd ab n h) w w' := by
  subst hx; subst hy; exact swap_side ab cap n i j h om w hs hi hj hij

set_option maxHeartbeats 4000000 in
set_option maxRecDepth 100000 in
theorem down_any (bb so ab cap N n i0 : Nat) (bc : Array Value) (h : Nat → Nat) (om : Nat → Ord) (w : World) (hbk : Blk w bb bc 158) (hso : bc[so]? = some (.slice (some ⟨ab, 0, none⟩) N cap)) (hs : Side w ab cap N h om) (hn : n ≤ N) (hi : i0 ≤ n) :
    Calls Tryz.prog 175 #[.iface 216 (.pointer (some ⟨bb, so, none⟩)), .int .i64 i0, .int .i64 n] w fun e w' => e = .returned (.bool (decide (i0 < (downF (ltB om) n h i0).2))) ∧ Side w' ab cap N (downF (ltB om) n h i0).1 om ∧ Chg (Sd ab N h) w w' := by
  have hN := hs.small
  have hout : ¬ Sd ab N h bb := by
    rintro (rfl | ⟨k, hk, rfl⟩)
    · obtain ⟨cs, hb, _⟩ := hs.arr
      exact Blk.ne hbk hb (by decide) rfl
    · exact Blk.ne hbk (hs.ord k hk) (by decide) rfl
  go_enter Tryz.func175, Tryz.ntmps175
  go_wp2
  go_loopg [7, 8, 9, 10] (n - i0) (fun k iv _ _ _ wr => ∃ (hh : Nat → Nat) (i : Nat), iv = .int .i64 (i : Int) ∧ i ≤ n ∧ k = n - i ∧ Side wr ab cap N hh om ∧ Chg (Sd ab N h) w wr ∧ Sd ab N hh = Sd ab N h ∧ downF (ltB om) n hh i = downF (ltB om) n h i0)
  case atStart => exact ⟨h, i0, rfl, hi, rfl, hs, Chg.refl _ _, rfl, rfl⟩
  case round =>
    obtain ⟨hh, i, rfl, hk, hgk, hs1, hc1, hS1, hu⟩ := hrel
    have AU : Hid (gk = n - i ∧ Sd ab N hh = Sd ab N h ∧ downF (ltB om) n hh i = downF (ltB om) n h i0) := ⟨hgk, hS1, hu⟩
    clear hS1 hu hgk
    have hbk1 := hc1.blk hbk hout
    have cb1 := (hbk1.cell so).trans hso
    have hml := methLess _ _ _ _ _ cb1
    by_cases hlast : 2 * i + 1 < n
    · by_cases h2 : 2 * i + 2 < n
      · go_wp2_with fail
        refine (less_sideI ab cap N (2 * i + 2) (2 * i + 1) hh om wr _ _ hs1 (by omega) (by omega) (by push_cast; omega) (by push_cast; omega)).mono ?_
        rintro e w2 ⟨rfl, hc2⟩
        have hs2 := hs1.kept hc2 (fun _ _ x => x)
        have hbkN := hc2.blk hbk1 (fun x => x)
        have hcN := hc1.trans hc2.of_non
        have cb2 := (hbkN.cell so).trans hso
        have hm2 := methLess _ _ _ _ _ cb2
        cases hb : ltB om (hh (2 * i + 2)) (hh (2 * i + 1))
        · have hkid : kid (ltB om) n hh i = 2 * i + 1 := by unfold kid; rw [if_neg (by rw [hb]; simp)]
          have HK := hide hkid
          clear hkid hb hml
          go_wp2_with fail
          refine (less_sideI ab cap N (2 * i + 1) i hh om w2 _ _ hs2 (by omega) (by omega) (by push_cast; omega) rfl).mono ?_
          rintro e w3 ⟨rfl, hc3⟩
          have hs3 := hs2.kept hc3 (fun _ _ x => x)
          cases hl : ltB om (hh (2 * i + 1)) (hh i)
          · have HL := hide hl
            clear hl hm2
            go_wp2
            go_ret
            have hst : downF (ltB om) n hh i = (hh, i) := downF_stop hlast (by rw [unhide HK]; exact unhide HL)
            refine ⟨?_, ?_, hcN.trans hc3.of_non⟩
            · rw [← AU.out.2.2, hst]
              simp
            · rw [← AU.out.2.2, hst]
              exact hs3
          · have hbk3 := hc3.blk hbkN (fun x => x)
            have cb3 := (hbk3.cell so).trans hso
            have hms := methSwap _ _ _ _ _ cb3
            clear hm2
            go_wp2_with fail
            refine (swap_sideI ab cap N i (2 * i + 1) hh om w3 _ _ hs3 (by omega) (by omega) (by omega) rfl (by push_cast; omega)).mono ?_
            rintro e w4 ⟨rfl, hs4, hc4⟩
            clear hms
            go_wp2
            go_roundg (n - (2 * i + 1))
            case measure => have := AU.out.1; omega
            case rel =>
              obtain ⟨_, a1, a2⟩ := AU.out
              refine ⟨sw hh i (2 * i + 1), 2 * i + 1, by push_cast; rfl, by omega, rfl, hs4, ?_, ?_, ?_⟩
              · exact (hcN.trans hc3.of_non).trans (hc4.mono (fun b hb => by rw [← a1]; exact hb))
              · rw [Sd_sw (by omega) (by omega), a1]
              · rw [← a2, downF_go hlast (by rw [unhide HK]; exact hl), unhide HK]
        · have hkid : kid (ltB om) n hh i = 2 * i + 2 := by unfold kid; rw [if_pos ⟨h2, hb⟩]
          have HK := hide hkid
          clear hkid hb hml
          go_wp2_with fail
          refine (less_sideI ab cap N (2 * i + 2) i hh om w2 _ _ hs2 (by omega) (by omega) (by push_cast; omega) rfl).mono ?_
          rintro e w3 ⟨rfl, hc3⟩
          have hs3 := hs2.kept hc3 (fun _ _ x => x)
          cases hl : ltB om (hh (2 * i + 2)) (hh i)
          · have HL := hide hl
            clear hl hm2
            go_wp2
            go_ret
            have hst : downF (ltB om) n hh i = (hh, i) := downF_stop hlast (by rw [unhide HK]; exact unhide HL)
            refine ⟨?_, ?_, hcN.trans hc3.of_non⟩
            · rw [← AU.out.2.2, hst]
              simp
            · rw [← AU.out.2.2, hst]
              exact hs3
          · have hbk3 := hc3.blk hbkN (fun x => x)
            have cb3 := (hbk3.cell so).trans hso
            have hms := methSwap _ _ _ _ _ cb3
            clear hm2
            go_wp2_with fail
            refine (swap_sideI ab cap N i (2 * i + 2) hh om w3 _ _ hs3 (by omega) (by omega) (by omega) rfl (by push_cast; omega)).mono ?_
            rintro e w4 ⟨rfl, hs4, hc4⟩
            clear hms
            go_wp2
            go_roundg (n - (2 * i + 2))
            case measure => have := AU.out.1; omega
            case rel =>
              obtain ⟨_, a1, a2⟩ := AU.out
              refine ⟨sw hh i (2 * i + 2), 2 * i + 2, by push_cast; rfl, by omega, rfl, hs4, ?_, ?_, ?_⟩
              · exact (hcN.trans hc3.of_non).trans (hc4.mono (fun b hb => by rw [← a1]; exact hb))
              · rw [Sd_sw (by omega) (by omega), a1]
              · rw [← a2, downF_go hlast (by rw [unhide HK]; exact hl), unhide HK]
      · have hkid : kid (ltB om) n hh i = 2 * i + 1 := by unfold kid; rw [if_neg (by omega)]
        have HK := hide hkid
        have hbkN := hbk1
        have hcN := hc1
        clear hkid
        go_wp2_with fail
        refine (less_sideI ab cap N (2 * i + 1) i hh om wr _ _ hs1 (by omega) (by omega) (by push_cast; omega) rfl).mono ?_
        rintro e w3 ⟨rfl, hc3⟩
        have hs3 := hs1.kept hc3 (fun _ _ x => x)
        cases hl : ltB om (hh (2 * i + 1)) (hh i)
        · have HL := hide hl
          clear hl hml
          go_wp2
          go_ret
          have hst : downF (ltB om) n hh i = (hh, i) := downF_stop hlast (by rw [unhide HK]; exact unhide HL)
          refine ⟨?_, ?_, hcN.trans hc3.of_non⟩
          · rw [← AU.out.2.2, hst]
            simp
          · rw [← AU.out.2.2, hst]
            exact hs3
        · have hbk3 := hc3.blk hbkN (fun x => x)
          have cb3 := (hbk3.cell so).trans hso
          have hms := methSwap _ _ _ _ _ cb3
          clear hml
          go_wp2_with fail
          refine (swap_sideI ab cap N i (2 * i + 1) hh om w3 _ _ hs3 (by omega) (by omega) (by omega) rfl (by push_cast; omega)).mono ?_
          rintro e w4 ⟨rfl, hs4, hc4⟩
          clear hms
          go_wp2
          go_roundg (n - (2 * i + 1))
          case measure => have := AU.out.1; omega
          case rel =>
            obtain ⟨_, a1, a2⟩ := AU.out
            refine ⟨sw hh i (2 * i + 1), 2 * i + 1, by push_cast; rfl, by omega, rfl, hs4, ?_, ?_, ?_⟩
            · exact (hcN.trans hc3.of_non).trans (hc4.mono (fun b hb => by rw [← a1]; exact hb))
            · rw [Sd_sw (by omega) (by omega), a1]
            · rw [← a2, downF_go hlast (by rw [unhide HK]; exact hl), unhide HK]
    · clear hml
      have e1 : decide ((n : Int) ≤ 2 * (i : Int) + 1) = true := by simp; omega
      go_wp2
      go_ret
      refine ⟨?_, ?_, hc1⟩
      · rw [← AU.out.2.2, downF_end hlast]
        simp
      · rw [← AU.out.2.2, downF_end hlast]
        exact hs1

end Go.Proofs.YtigaphnafnpfnaaGreatDoor

set_option linter.unusedVariables false
set_option linter.unusedSimpArgs false
namespace Go.Proofs.YtigaphnafnpfnaaGreatDoor
open Go.RowKit

/-- a side as it stands in the book: nil, or an array -/
def SideV (w : World) (s : Option Addr) (n cap : Nat) (h : Nat → Nat) (om : Nat → Ord) : Prop :=
  (s = none ∧ n = 0 ∧ cap = 0) ∨ ∃ ab, s = some ⟨ab, 0, none⟩ ∧ Side w ab cap n h om

def ptrs (n : Nat) (h : Nat → Nat) : List Value := (List.range n).map fun k => .pointer (some ⟨h k, 0, none⟩)

theorem SideV.owns {w : World} {s : Option Addr} {n cap : Nat} {h : Nat → Nat} {om : Nat → Ord} (hs : SideV w s n cap h om) : w.ownsRow 0 114 1 (.slice s n cap) n (ptrs n h) := by
  refine ⟨by simp [ptrs], ?_⟩
  rcases hs with ⟨rfl, rfl, rfl⟩ | ⟨ab, rfl, hs⟩
  · exact .inl ⟨rfl, rfl⟩
  · right
    obtain ⟨cs, hb, hc, hp⟩ := hs.arr
    have hle := hs.le
    refine ⟨ab, cap, cs, rfl, Nat.zero_le _, hb, hs.le, hs.capm, by omega, ?_⟩
    apply List.ext_getElem?
    intro i
    by_cases hi : i < n
    · rw [List.getElem?_take_of_lt (by omega), Array.getElem?_toList, hp i hi]
      simp [ptrs, hi]
    · rw [List.getElem?_eq_none (by simp; omega), List.getElem?_eq_none (by simp [ptrs]; omega)]

theorem owns_cells {w : World} {g n cap : Nat} {h : Nat → Nat} (ho : w.ownsRow 0 114 1 (.slice (some ⟨g, 0, none⟩) n cap) n (ptrs n h)) :
    n ≤ cap ∧ cap ≤ maxLen ∧ ∃ cs, Blk w g cs 114 ∧ cs.size = cap ∧ ∀ i, i < n → cs[i]? = some (.pointer (some ⟨h i, 0, none⟩)) := by
  rcases ho.2 with ⟨h1, _⟩ | ⟨g', cap', cur, h1, _, hg, hn, hc, hs, ht⟩
  · simp at h1
  · simp at h1
    obtain ⟨rfl, rfl⟩ := h1
    refine ⟨hn, hc, cur, hg, by omega, fun i hi => ?_⟩
    have : (cur.toList.take (n * 1))[i]? = (ptrs n h)[i]? := by rw [ht]
    rw [List.getElem?_take_of_lt (by omega), Array.getElem?_toList] at this
    rw [this]
    simp [ptrs, hi]

theorem ptrs_snoc (n : Nat) (h : Nat → Nat) (ob : Nat) : ptrs n h ++ [.pointer (some ⟨ob, 0, none⟩)] = ptrs (n + 1) (fun k => if k = n then ob else h k) := by
  simp only [ptrs, List.range_succ, List.map_append, List.map_cons, List.map_nil, if_true]
  congr 1
  apply List.map_congr_left
  intro k hk
  simp at hk
  rw [if_neg (by omega)]

def adB : Option Addr → Option Nat
  | some a => some a.block
  | none => none

theorem info80 : ∃ i, Tryz.prog.info? 114 = some i ∧ i.zero = some (.pointer none) ∧ i.size = 1 ∧ i.bytes = 8 := by
  have h : (Tryz.prog.info? 114).map (fun i => (i.zero, i.size, i.bytes)) = some (some (.pointer none), 1, 8) := by kernel_rfl
  exact info_parts h

theorem SideV.kept {w w' : World} {s : Option Addr} {n cap : Nat} {h : Nat → Nat} {om : Nat → Ord} (hs : SideV w s n cap h om) {S : Nat → Prop} (k : Chg S w w') (hS : ∀ b, (adB s = some b ∨ ∃ k, k < n ∧ b = h k) → ¬ S b) : SideV w' s n cap h om := by
  rcases hs with hs | ⟨ab, rfl, hs⟩
  · exact .inl hs
  · refine .inr ⟨ab, rfl, hs.kept k (fun b hb => hS b ?_)⟩
    rcases hb with rfl | hb
    · exact .inl rfl
    · exact .inr hb

theorem pop_take {w : World} {ab cap n : Nat} {h : Nat → Nat} {om : Nat → Ord} (hs : Side w ab cap (n + 1) h om) : Side w ab cap n h om := by
  obtain ⟨cs, hb, hc, hp⟩ := hs.arr
  have := hs.le
  have := hs.small
  exact ⟨⟨cs, hb, hc, fun i hi => hp i (by omega)⟩, fun i hi => hs.ord i (by omega), by omega, by omega, hs.capm⟩

/-- the array of a side is no block of another type -/
theorem SideV.ne {w : World} {s : Option Addr} {n cap : Nat} {h : Nat → Nat} {om : Nat → Ord} (hs : SideV w s n cap h om) {b : Nat} {c : Array Value} {t : TypeId} (hb : Blk w b c t) (ht : t ≠ 114) : adB s ≠ some b := by
  rcases hs with ⟨rfl, _⟩ | ⟨ab, rfl, hs⟩
  · simp [adB]
  · obtain ⟨cs, hc, _⟩ := hs.arr
    intro e
    simp [adB] at e
    exact Blk.ne hb hc ht e.symm

theorem SideV.lt {w : World} {s : Option Addr} {n cap : Nat} {h : Nat → Nat} {om : Nat → Ord} (hs : SideV w s n cap h om) {b : Nat} (e : adB s = some b) : b < w.heap.size := by
  rcases hs with ⟨rfl, _⟩ | ⟨ab, rfl, hs⟩
  · simp [adB] at e
  · obtain ⟨cs, hc, _⟩ := hs.arr
    simp [adB] at e
    exact e ▸ hc.lt

theorem SideV.ords {w : World} {s : Option Addr} {n cap : Nat} {h : Nat → Nat} {om : Nat → Ord} (hs : SideV w s n cap h om) {i : Nat} (hi : i < n) : IsOrd w (h i) (om (h i)) i := by
  rcases hs with ⟨rfl, rfl, _⟩ | ⟨ab, rfl, hs⟩
  · omega
  · exact hs.ord i hi

theorem ownB (s : Option Addr) (n cap : Nat) : (Value.slice s n cap).ownBlock = adB s := by cases s <;> rfl

theorem assert80 (v : Value) (w : World) : Sem.run Tryz.prog (Instr.typeAssert (.iface 114 v) 20 114 false) w = .ok v w := by kernel_rfl

set_option maxHeartbeats 1000000 in
set_option maxRecDepth 100000 in
theorem push_any (bb so ob n cap : Nat) (s : Option Addr) (bc : Array Value) (h : Nat → Nat) (om : Nat → Ord) (ix : Int) (w : World) (hbk : Blk w bb bc 158) (hso : bc[so]? = some (.slice s n cap)) (hsd : SideV w s n cap h om)
    (ho : IsOrd w ob (om ob) ix) (hnew : ∀ k, k < n → h k ≠ ob) (hn : n < 1000) :
    Calls Tryz.prog 260 #[.pointer (some ⟨bb, so, none⟩), .iface 114 (.pointer (some ⟨ob, 0, none⟩))] w fun e w' => e = .returned (.tuple #[]) ∧
      ∃ g cap', Blk w' bb (bc.setIfInBounds so (.slice (some ⟨g, 0, none⟩) (n + 1) cap')) 158 ∧ Side w' g cap' (n + 1) (fun k => if k = n then ob else h k) om ∧ Chg (fun b => b = bb ∨ b = ob ∨ adB s = some b) w w' ∧ (adB s = some g ∨ w.heap.size ≤ g) := by
  have cb := (hbk.cell so).trans hso
  have fb := hbk.frozen so
  have co := ho.cell 13
  simp only [Ord.cells] at co
  simp at co
  have fo := ho.frozen 13
  have hne : ob ≠ bb := Blk.ne ho hbk (by decide)
  have hown := hsd.owns
  obtain ⟨i0, hi, hz0, hz1, hz2⟩ := info80
  have cb1 : (w.setCell ⟨ob, 13, none⟩ (.int .i64 n)).cell? ⟨bb, so, none⟩ = some (.slice s n cap) := ((hbk.other (a := ⟨ob, 13, none⟩) (fun e => hne e.symm) _).cell so).trans hso
  have hta := assert80 (.pointer (some ⟨ob, 0, none⟩)) w
  have HO : Hid (w.ownsRow 0 114 1 (.slice s n cap) n (ptrs n h)) := hown
  clear hown
  have hc1 : Chg (fun b => b = ob) w ((w.setCell ⟨ob, 13, none⟩ (.int .i64 n)).alloc (.cells #[.pointer (some ⟨ob, 0, none⟩)] 114)) := ((Chg.refl (fun b => b = ob) w).setCell (p := ⟨ob, 13, none⟩) (.inl rfl) _).alloc _
  have hsd1 := hsd.kept hc1 (fun b hb e => by
    subst e
    rcases hb with hb | ⟨k, hk, hb⟩
    · exact hsd.ne ho (by decide) hb
    · exact hnew k hk hb.symm)
  have ho1 := (ho.set 13 (.int .i64 n)).alloc (.cells #[.pointer (some ⟨ob, 0, none⟩)] 114)
  have hb1 := hc1.blk hbk (fun e => hne e.symm)
  go_enter Tryz.func260, Tryz.ntmps260
  go_wp2_with (at_builtin; refine wpList_append_lies _ rfl _ _ _ rfl 0 114 i0 (.pointer none) 1 8 Tryz.underlying155 hi hz0 hz1 hz2 rfl (by omega) (.slice s n cap) n (ptrs n h) rfl ?hown ⟨w.heap.size, 0, none⟩ 1 1 [.pointer (some ⟨ob, 0, none⟩)] rfl rfl ?hnews ?hone (by omega) ?h63 ?hbytes (by omega) (w.heap.size + 1) ?hH ?hrest)
  case hown => exact hsd1.owns
  case hnews =>
    have e := cell_one_new (w.setCell ⟨ob, 13, none⟩ (.int .i64 n)) (.pointer (some ⟨ob, 0, none⟩)) 114
    have e2 : (w.setCell ⟨ob, 13, none⟩ (.int .i64 n)).heap.size = w.heap.size := by simp [World.setCell]
    rw [e2] at e
    exact e
  case hone => intro u hu; simp at hu; subst hu; rfl
  case h63 => unfold maxLen; omega
  case hbytes => omega
  case hH => simp
  case hrest =>
    intro g cap1 w2 hown2 hgrow hat hlt
    rw [ownB] at hgrow hat
    have hnb : some bb ≠ adB s := fun e => hsd.ne hbk (by decide) e.symm
    have hno : some ob ≠ adB s := fun e => hsd.ne ho (by decide) e.symm
    have hc2 := Chg.grown (S := fun b => b = bb ∨ b = ob ∨ adB s = some b) (hc1.mono (fun b hb => .inr (.inl hb))) hgrow (fun k e => .inl (.inr (.inr e)))
    have hb2 : Blk w2 bb bc 158 := (hgrow.block bb hb1.lt hnb).trans hb1
    have ho2 : Blk w2 ob _ 116 := (hgrow.block ob ho1.lt hno).trans ho1
    have hor : ∀ k, k < n → IsOrd w2 (h k) (om (h k)) k := fun k hk => (hgrow.block (h k) (hsd1.ords hk).lt (fun e => hsd1.ne (hsd1.ords hk) (by decide) e.symm)).trans (hsd1.ords hk)
    have cb2 := (hb2.cell so).trans hso
    have fb2 := hb2.frozen so
    have HW := hide hown2
    clear cb1 cb fb hta hown2
    go_wp2
    go_end0
    refine ⟨rfl, g, cap1, hb2.set so _, ?_, hc2.setCell (.inl (.inl rfl)) _, ?_⟩
    · obtain ⟨h1, h2, cs, h3, h4, h5⟩ := owns_cells (h := fun k => if k = n then ob else h k) (by rw [← ptrs_snoc]; exact unhide HW)
      refine ⟨⟨cs, h3.other ?_ _, h4, h5⟩, ?_, h1, by omega, h2⟩
      · exact Ne.symm (Blk.ne hb2 h3 (by decide))
      · intro i hi
        by_cases e : i = n
        · subst e
          rw [if_pos rfl]
          exact ho2.other hne _
        · rw [if_neg e]
          exact (hor i (by omega)).other (Blk.ne (hor i (by omega)) hb2 (by decide)) _
    · rcases hat with hat | hat
      · exact .inl hat
      · right; omega


set_option maxHeartbeats 1000000 in
set_option maxRecDepth 100000 in
theorem pop_any (bb so ab n cap : Nat) (bc : Array Value) (h : Nat → Nat) (om : Nat → Ord) (w : World) (hbk : Blk w bb bc 158) (hso : bc[so]? = some (.slice (some ⟨ab, 0, none⟩) (n + 1) cap)) (hsd : Side w ab cap (n + 1) h om) :
    Calls Tryz.prog 259 #[.pointer (some ⟨bb, so, none⟩)] w fun e w' => e = .returned (.iface 114 (.pointer (some ⟨h n, 0, none⟩))) ∧
      Blk w' bb (bc.setIfInBounds so (.slice (some ⟨ab, 0, none⟩) n cap)) 158 ∧ Side w' ab cap n h om ∧ IsOrd w' (h n) (om (h n)) n ∧ Chg (fun b => b = bb ∨ b = ab) w w' := by
  have cb := (hbk.cell so).trans hso
  have fb := hbk.frozen so
  obtain ⟨cs, hb, hc, hp⟩ := hsd.arr
  have ca := (hb.cell n).trans (hp n (by omega))
  have fa := hb.frozen n
  have hne : ab ≠ bb := Blk.ne hb hbk (by decide)
  have hsm := hsd.small
  have hle := hsd.le
  have n0 : (0 : Int) ≤ (n : Int) := by omega
  have n1 : (n : Int) < (n : Int) + 1 := by omega
  have n2 : (n : Int) ≤ (cap : Int) := by omega
  have cb1 : (w.setCell ⟨ab, n, none⟩ (.pointer none)).cell? ⟨bb, so, none⟩ = some (.slice (some ⟨ab, 0, none⟩) (n + 1) cap) := ((hbk.other (a := ⟨ab, n, none⟩) (fun e => hne e.symm) _).cell so).trans hso
  have fb1 : (w.setCell ⟨ab, n, none⟩ (.pointer none)).frozen? ⟨bb, so, none⟩ = false := (hbk.other (a := ⟨ab, n, none⟩) (fun e => hne e.symm) _).frozen so
  have HC : Hid (cs.size = cap ∧ ∀ i, i < n + 1 → cs[i]? = some (.pointer (some ⟨h i, 0, none⟩))) := ⟨hc, hp⟩
  clear hp hc
  go_enter Tryz.func259, Tryz.ntmps259
  go_wp2
  go_ret
  refine ⟨rfl, (hbk.other (fun e => hne e.symm) _).set so _, ?_, ?_, ?_⟩
  · refine ⟨⟨_, (hb.set n _).other hne _, by simpa using HC.out.1, fun i hi => ?_⟩, fun i hi => ?_, by omega, by omega, hsd.capm⟩
    · rw [Array.getElem?_setIfInBounds_ne (by omega)]
      exact HC.out.2 i (by omega)
    · exact ((hsd.ord i (by omega)).other (Blk.ne (hsd.ord i (by omega)) hb (by decide)) _).other (Blk.ne (hsd.ord i (by omega)) hbk (by decide)) _
  · exact ((hsd.ord n (by omega)).other (Blk.ne (hsd.ord n (by omega)) hb (by decide)) _).other (Blk.ne (hsd.ord n (by omega)) hbk (by decide)) _
  · exact ((Chg.refl (fun b => b = bb ∨ b = ab) w).setCell (p := ⟨ab, n, none⟩) (.inl (.inr rfl)) _).setCell (p := ⟨bb, so, none⟩) (.inl (.inl rfl)) _

end Go.Proofs.YtigaphnafnpfnaaGreatDoor

set_option linter.unusedVariables false
set_option linter.unusedSimpArgs false
namespace Go.Proofs.YtigaphnafnpfnaaGreatDoor
open Go.RowKit

theorem adB_some {s : Option Addr} {ab : Nat} (h : s = some ⟨ab, 0, none⟩) : adB s = some ab := by subst h; rfl

set_option maxHeartbeats 1000000 in
set_option maxRecDepth 100000 in
theorem hpush_any (bb so ob n cap : Nat) (s : Option Addr) (bc : Array Value) (h : Nat → Nat) (om : Nat → Ord) (ix : Int) (w : World) (hbk : Blk w bb bc 158) (hso : bc[so]? = some (.slice s n cap)) (hsd : SideV w s n cap h om)
    (ho : IsOrd w ob (om ob) ix) (hnew : ∀ k, k < n → h k ≠ ob) (hn : n < 1000) :
    Calls Tryz.prog 150 #[.iface 216 (.pointer (some ⟨bb, so, none⟩)), .iface 114 (.pointer (some ⟨ob, 0, none⟩))] w fun e w' => e = .returned (.tuple #[]) ∧
      ∃ g cap', Blk w' bb (bc.setIfInBounds so (.slice (some ⟨g, 0, none⟩) (n + 1) cap')) 158 ∧ Side w' g cap' (n + 1) (upF (ltB om) (fun k => if k = n then ob else h k) n) om ∧
        Chg (fun b => b = bb ∨ b = ob ∨ adB s = some b ∨ ∃ k, k < n ∧ b = h k) w w' ∧ (adB s = some g ∨ w.heap.size ≤ g) := by
  have hm := methPush ⟨bb, so, none⟩ w
  have hlt : so < bc.size := (Array.getElem?_eq_some_iff.1 hso).1
  go_enter Tryz.func150, Tryz.ntmps150
  go_wp2_with fail
  refine (push_any bb so ob n cap s bc h om ix w hbk hso hsd ho hnew hn).mono ?_
  rintro e w1 ⟨rfl, g, cap1, hb1, hs1, hc1, hg1⟩
  have hso1 : (bc.setIfInBounds so (.slice (some ⟨g, 0, none⟩) (n + 1) cap1))[so]? = some (.slice (some ⟨g, 0, none⟩) (n + 1) cap1) := Array.getElem?_setIfInBounds_self_of_lt hlt
  have hm1 := methLen ⟨bb, so, none⟩ w1 (some ⟨g, 0, none⟩) (n + 1) cap1 ((hb1.cell so).trans hso1)
  clear hm
  go_wp2_with fail
  refine (len_any (some ⟨g, 0, none⟩) (n + 1) cap1 w1).mono ?_
  rintro e w2 ⟨rfl, rfl⟩
  clear hm1
  have e1 : (((n + 1 : Nat) : Int) - 1) = (n : Int) := by omega
  go_wp2_with fail
  refine (up_any bb so g cap1 (n + 1) n _ _ om _ hb1 hso1 hs1 (by omega)).mono ?_
  rintro e w3 ⟨rfl, hs3, hc3⟩
  go_wp2
  go_end0
  have hnb : ¬ Sd g (n + 1) (fun k => if k = n then ob else h k) bb := by
    rintro (rfl | ⟨k, hk, rfl⟩)
    · obtain ⟨cs, hb, _⟩ := hs1.arr
      exact Blk.ne hb1 hb (by decide) rfl
    · exact Blk.ne hb1 (hs1.ord k hk) (by decide) rfl
  refine ⟨rfl, g, cap1, hc3.blk hb1 hnb, hs3, ?_, hg1⟩
  refine Chg.from (hc1.mono (fun b hb => by rcases hb with h | h | h; exact .inl h; exact .inr (.inl h); exact .inr (.inr (.inl h)))) (hc3.mono ?_)
  rintro b (rfl | ⟨k, hk, rfl⟩)
  · rcases hg1 with h | h
    · exact .inl (.inr (.inr (.inl h)))
    · exact .inr h
  · left
    by_cases e : k = n
    · exact .inr (.inl (by simp [e]))
    · exact .inr (.inr (.inr ⟨k, by omega, by simp [e]⟩))

def removeF (lt : Nat → Nat → Bool) (h : Nat → Nat) (n i : Nat) : Nat → Nat :=
  if i = n then h else if i < (downF lt n (sw h i n) i).2 then (downF lt n (sw h i n) i).1 else upF lt (downF lt n (sw h i n) i).1 i

theorem sw_far {h : Nat → Nat} {i j k : Nat} (h1 : k ≠ i) (h2 : k ≠ j) : sw h i j k = h k := by unfold sw; rw [if_neg h1, if_neg h2]

theorem downF_far {lt : Nat → Nat → Bool} {n : Nat} {k : Nat} (hk : n ≤ k) (h : Nat → Nat) (i : Nat) : (downF lt n h i).1 k = h k := by
  fun_induction downF lt n h i with
  | case1 h i hn _ hl ih =>
    rw [ih]
    have := kid_b lt n h i hn
    exact sw_far (by omega) (by omega)
  | case2 => rfl
  | case3 => rfl

theorem upF_far {lt : Nat → Nat → Bool} {k : Nat} (h : Nat → Nat) (j : Nat) (hk : j < k) : (upF lt h j) k = h k := by
  fun_induction upF lt h j with
  | case1 => rfl
  | case2 h j hj hl ih =>
    rw [ih (by omega)]
    exact sw_far (by omega) (by omega)
  | case3 => rfl

theorem removeF_last {lt : Nat → Nat → Bool} {h : Nat → Nat} {n i : Nat} (hi : i ≤ n) : removeF lt h n i n = h i := by
  unfold removeF
  split
  · rename_i e; rw [e]
  · have h1 : (downF lt n (sw h i n) i).1 n = h i := by
      rw [downF_far (Nat.le_refl _)]
      unfold sw
      rw [if_neg (by omega), if_pos rfl]
    split
    · exact h1
    · rw [upF_far _ _ (by omega)]; exact h1

theorem Sd_down {lt : Nat → Nat → Bool} {ab N n : Nat} {h : Nat → Nat} {i : Nat} (hi : i ≤ n) (hn : n ≤ N) : Sd ab N (downF lt n h i).1 = Sd ab N h := by
  fun_induction downF lt n h i with
  | case1 h i hn' _ hl ih =>
    have := kid_b lt n h i hn'
    rw [ih (by omega), Sd_sw (by omega) (by omega)]
  | case2 => rfl
  | case3 => rfl

set_option maxHeartbeats 1000000 in
set_option maxRecDepth 100000 in
theorem remove_any (bb so ab n cap i : Nat) (bc : Array Value) (h : Nat → Nat) (om : Nat → Ord) (w : World) (hbk : Blk w bb bc 158) (hso : bc[so]? = some (.slice (some ⟨ab, 0, none⟩) (n + 1) cap)) (hsd : Side w ab cap (n + 1) h om) (hi : i ≤ n) :
    Calls Tryz.prog 149 #[.iface 216 (.pointer (some ⟨bb, so, none⟩)), .int .i64 i] w fun e w' => e = .returned (.iface 114 (.pointer (some ⟨h i, 0, none⟩))) ∧
      Blk w' bb (bc.setIfInBounds so (.slice (some ⟨ab, 0, none⟩) n cap)) 158 ∧ Side w' ab cap n (removeF (ltB om) h n i) om ∧ IsOrd w' (h i) (om (h i)) n ∧ Chg (fun b => b = bb ∨ Sd ab (n + 1) h b) w w' := by
  have hm := methLen ⟨bb, so, none⟩ w (some ⟨ab, 0, none⟩) (n + 1) cap ((hbk.cell so).trans hso)
  have hsm := hsd.small
  have hout : ¬ Sd ab (n + 1) h bb := by
    rintro (rfl | ⟨k, hk, rfl⟩)
    · obtain ⟨cs, hb, _⟩ := hsd.arr
      exact Blk.ne hbk hb (by decide) rfl
    · exact Blk.ne hbk (hsd.ord k hk) (by decide) rfl
  by_cases hin : i = n
  · subst hin
    go_enter Tryz.func149, Tryz.ntmps149
    go_wp2_with fail
    refine (len_any (some ⟨ab, 0, none⟩) (i + 1) cap w).mono ?_
    rintro e w2 ⟨rfl, rfl⟩
    have hp := methPop ⟨bb, so, none⟩ w2
    clear hm
    go_wp2_with fail
    refine (pop_any bb so ab i cap bc h om _ hbk hso hsd).mono ?_
    rintro e w3 ⟨rfl, hb3, hs3, ho3, hc3⟩
    clear hp
    go_wp2
    go_ret
    refine ⟨rfl, hb3, ?_, ho3, hc3.mono ?_⟩
    · unfold removeF
      rw [if_pos rfl]
      exact hs3
    · rintro b (rfl | rfl)
      · exact .inl rfl
      · exact .inr (.inl rfl)
  · have e1 : ((n : Int) != (i : Int)) = true := by simp; omega
    go_enter Tryz.func149, Tryz.ntmps149
    go_wp2_with fail
    refine (len_any (some ⟨ab, 0, none⟩) (n + 1) cap w).mono ?_
    rintro e w2 ⟨rfl, rfl⟩
    have hms := methSwap ⟨bb, so, none⟩ w2 (some ⟨ab, 0, none⟩) (n + 1) cap ((hbk.cell so).trans hso)
    clear hm
    go_wp2_with fail
    refine (swap_side ab cap (n + 1) i n h om _ hsd (by omega) (by omega) hin).mono ?_
    rintro e w3 ⟨rfl, hs3, hc3⟩
    have hb3 := hc3.blk hbk hout
    clear hms
    go_wp2_with fail
    refine (down_any bb so ab cap (n + 1) n i bc _ om _ hb3 hso hs3 (by omega) hi).mono ?_
    rintro e w4 ⟨rfl, hs4, hc4⟩
    rw [Sd_sw (by omega) (by omega)] at hc4
    have hb4 := hc4.blk hb3 hout
    by_cases hd : i < (downF (ltB om) n (sw h i n) i).2
    · have hdt : decide (i < (downF (ltB om) n (sw h i n) i).2) = true := by simp [hd]
      rw [hdt]
      have hp := methPop ⟨bb, so, none⟩ w4
      have hN : (downF (ltB om) n (sw h i n) i).1 = removeF (ltB om) h n i := by unfold removeF; rw [if_neg hin, if_pos hd]
      rw [hN] at hs4
      have hl := removeF_last (lt := ltB om) (h := h) hi
      have HL := hide hl
      clear hN hd hdt hl
      go_wp2_with fail
      refine (pop_any bb so ab n cap bc _ om _ hb4 hso hs4).mono ?_
      rintro e w5 ⟨rfl, hb5, hs5, ho5, hc5⟩
      clear hp
      rw [unhide HL]
      rw [unhide HL] at ho5
      go_wp2
      go_ret
      refine ⟨rfl, hb5, hs5, ho5, ((hc3.trans hc4).mono (fun b hb => .inr hb)).trans (hc5.mono ?_)⟩
      rintro b (rfl | rfl)
      · exact .inl rfl
      · exact .inr (.inl rfl)
    · have hdt : decide (i < (downF (ltB om) n (sw h i n) i).2) = false := by simp [hd]
      rw [hdt]
      have hN : upF (ltB om) (downF (ltB om) n (sw h i n) i).1 i = removeF (ltB om) h n i := by unfold removeF; rw [if_neg hin, if_neg hd]
      have HS : Hid (Sd ab (n + 1) (downF (ltB om) n (sw h i n) i).1 = Sd ab (n + 1) h) := by
        show _ = _
        rw [Sd_down hi (by omega), Sd_sw (by omega) (by omega)]
      have HN := hide hN
      clear hN hd hdt
      go_wp2_with fail
      refine (up_any bb so ab cap (n + 1) i bc _ om _ hb4 hso hs4 (by omega)).mono ?_
      rintro e w5 ⟨rfl, hs5, hc5⟩
      rw [unhide HS] at hc5
      have hb5 := hc5.blk hb4 hout
      have hp := methPop ⟨bb, so, none⟩ w5
      rw [unhide HN] at hs5
      have HL := hide (removeF_last (lt := ltB om) (h := h) hi)
      go_wp2_with fail
      refine (pop_any bb so ab n cap bc _ om _ hb5 hso hs5).mono ?_
      rintro e w6 ⟨rfl, hb6, hs6, ho6, hc6⟩
      clear hp
      rw [unhide HL]
      rw [unhide HL] at ho6
      go_wp2
      go_ret
      refine ⟨rfl, hb6, hs6, ho6, (((hc3.trans hc4).trans hc5).mono (fun b hb => .inr hb)).trans (hc6.mono ?_)⟩
      rintro b (rfl | rfl)
      · exact .inl rfl
      · exact .inr (.inl rfl)

end Go.Proofs.YtigaphnafnpfnaaGreatDoor

set_option linter.unusedVariables false
set_option linter.unusedSimpArgs false
/- The heap, without the program: what up, down and Remove make of it. -/
namespace Go.Proofs.YtigaphnafnpfnaaGreatDoor

/-- on the things of P lt is a strict order whose 'not less' goes on -/
structure Pre (lt : Nat → Nat → Bool) (P : Nat → Prop) : Prop where
  asym : ∀ x y, P x → P y → lt x y = true → lt y x = false
  trans : ∀ x y z, P x → P y → P z → lt y x = false → lt z y = false → lt z x = false
  irr : ∀ x, P x → lt x x = false

def par (k : Nat) : Nat := (k - 1) / 2

def HeapOK (lt : Nat → Nat → Bool) (n : Nat) (h : Nat → Nat) : Prop := ∀ k, 0 < k → k < n → lt (h k) (h (par k)) = false

theorem root_min {lt : Nat → Nat → Bool} {P : Nat → Prop} (pre : Pre lt P) {n : Nat} {h : Nat → Nat} (ok : HeapOK lt n h) (hP : ∀ k, k < n → P (h k)) : ∀ k, k < n → lt (h k) (h 0) = false := by
  intro k
  induction k using Nat.strongRecOn with
  | _ k ih =>
    intro hk
    by_cases h0 : k = 0
    · subst h0; exact pre.irr _ (hP 0 hk)
    · have hp : par k < k := by unfold par; omega
      exact pre.trans (h 0) (h (par k)) (h k) (hP 0 (by omega)) (hP _ (by omega)) (hP k hk) (ih (par k) hp (by omega)) (ok k (by omega) hk)

def ExcU (lt : Nat → Nat → Bool) (n : Nat) (h : Nat → Nat) (j : Nat) : Prop :=
  (∀ k, 0 < k → k < n → k ≠ j → lt (h k) (h (par k)) = false) ∧ (∀ c, 0 < c → c < n → par c = j → 0 < j → lt (h c) (h (par j)) = false)

theorem sw_l (h : Nat → Nat) (i j : Nat) : sw h i j i = h j := by unfold sw; rw [if_pos rfl]
theorem sw_r (h : Nat → Nat) (i j : Nat) : sw h i j j = h i := by
  unfold sw
  split
  · rename_i e; rw [e]
  · rw [if_pos rfl]

theorem swP {P : Nat → Prop} {n : Nat} {h : Nat → Nat} (hP : ∀ k, k < n → P (h k)) {i j : Nat} (hi : i < n) (hj : j < n) : ∀ k, k < n → P (sw h i j k) := by
  intro k hk
  unfold sw
  split
  · exact hP j hj
  · split
    · exact hP i hi
    · exact hP k hk

theorem up_ok {lt : Nat → Nat → Bool} {P : Nat → Prop} (pre : Pre lt P) {n : Nat} (h : Nat → Nat) (j : Nat) (hP : ∀ k, k < n → P (h k)) (hj : j < n) (ex : ExcU lt n h j) : HeapOK lt n (upF lt h j) := by
  fun_induction upF lt h j with
  | case1 h => exact fun k h0 hk => ex.1 k h0 hk (by omega)
  | case3 h j hj0 hl =>
    intro k h0 hk
    by_cases e : k = j
    · subst e; simpa [par] using hl
    · exact ex.1 k h0 hk e
  | case2 h j hj0 hl ih =>
    have hp : (j - 1) / 2 < j := by omega
    have hpj : par j = (j - 1) / 2 := rfl
    have hlt := pre.asym _ _ (hP j hj) (hP _ (by omega)) hl
    refine ih (swP hP (by omega) hj) (by omega) ⟨?_, ?_⟩
    · intro k h0 hk hne
      by_cases e1 : k = j
      · subst e1
        rw [hpj, sw_r, sw_l]
        exact hlt
      · rw [sw_far hne e1]
        by_cases e2 : par k = (j - 1) / 2
        · rw [e2, sw_l]
          have := ex.1 k h0 hk e1
          rw [e2] at this
          exact pre.trans _ _ _ (hP j hj) (hP _ (by omega)) (hP k hk) hlt this
        · by_cases e3 : par k = j
          · rw [e3, sw_r]
            exact ex.2 k h0 hk e3 (by omega)
          · rw [sw_far e2 e3]
            exact ex.1 k h0 hk e1
    · intro c h0 hc hpc hp0
      have hpp : par ((j - 1) / 2) < (j - 1) / 2 := by unfold par; omega
      rw [sw_far (k := par ((j - 1) / 2)) (by omega) (by omega)]
      have h1 : lt (h ((j - 1) / 2)) (h (par ((j - 1) / 2))) = false := ex.1 _ hp0 (by omega) (by omega)
      by_cases e1 : c = j
      · subst e1
        rw [sw_r]
        exact h1
      · have e2 : c ≠ (j - 1) / 2 := by unfold par at hpc; omega
        rw [sw_far e2 e1]
        have h2 := ex.1 c h0 hc e1
        rw [hpc] at h2
        exact pre.trans _ _ _ (hP _ (by omega)) (hP _ (by omega)) (hP c hc) h1 h2

def ExcD (lt : Nat → Nat → Bool) (n : Nat) (h : Nat → Nat) (i : Nat) : Prop :=
  (∀ k, 0 < k → k < n → k ≠ i → par k ≠ i → lt (h k) (h (par k)) = false) ∧ (∀ c, 0 < c → c < n → par c = i → 0 < i → lt (h c) (h (par i)) = false)

theorem kid_min {lt : Nat → Nat → Bool} {P : Nat → Prop} (pre : Pre lt P) {n : Nat} {h : Nat → Nat} (hP : ∀ k, k < n → P (h k)) {i : Nat} (hn : 2 * i + 1 < n) {c : Nat} (h0 : 0 < c) (hc : c < n) (hpc : par c = i) : lt (h c) (h (kid lt n h i)) = false := by
  have : c = 2 * i + 1 ∨ c = 2 * i + 2 := by unfold par at hpc; omega
  unfold kid
  split
  · rename_i hh
    rcases this with rfl | rfl
    · exact pre.asym _ _ (hP _ hh.1) (hP _ hc) hh.2
    · exact pre.irr _ (hP _ hc)
  · rename_i hh
    rcases this with rfl | rfl
    · exact pre.irr _ (hP _ hc)
    · by_cases e : lt (h (2 * i + 2)) (h (2 * i + 1)) = true
      · exact absurd ⟨hc, e⟩ hh
      · simpa using e

theorem kid_par (lt : Nat → Nat → Bool) (n : Nat) (h : Nat → Nat) (i : Nat) : par (kid lt n h i) = i := by
  unfold par kid; split <;> omega

theorem down_step {lt : Nat → Nat → Bool} {P : Nat → Prop} (pre : Pre lt P) {n : Nat} {h : Nat → Nat} {i : Nat} (hP : ∀ k, k < n → P (h k)) (hn : 2 * i + 1 < n) (ex : ExcD lt n h i) (hl : lt (h (kid lt n h i)) (h i) = true) :
    (∀ k, 0 < k → k < n → par k ≠ kid lt n h i → lt (sw h i (kid lt n h i) k) (sw h i (kid lt n h i) (par k)) = false) ∧ ExcD lt n (sw h i (kid lt n h i)) (kid lt n h i) := by
  have hb := kid_b lt n h i hn
  have hkp := kid_par lt n h i
  have hmin := fun {c : Nat} => kid_min pre (h := h) hP hn (c := c)
  generalize kid lt n h i = d at *
  have hlt := pre.asym _ _ (hP d hb.2) (hP i (by omega)) hl
  have key : ∀ k, 0 < k → k < n → par k ≠ d → lt (sw h i d k) (sw h i d (par k)) = false := by
    intro k h0 hk hne
    have hpk : par k < k := by unfold par; omega
    by_cases e1 : k = i
    · subst e1
      rw [sw_l, sw_far (by omega) hne]
      exact ex.2 d (by omega) hb.2 hkp h0
    · by_cases e2 : k = d
      · subst e2
        rw [sw_r, hkp, sw_l]
        exact hlt
      · rw [sw_far e1 e2]
        by_cases e3 : par k = i
        · rw [e3, sw_l]
          exact hmin h0 hk e3
        · rw [sw_far e3 hne]
          exact ex.1 k h0 hk e1 e3
  refine ⟨key, fun k h0 hk _ hne => key k h0 hk hne, ?_⟩
  intro c h0 hc hpc _
  rw [hkp, sw_l]
  have hpk : par c < c := by unfold par; omega
  rw [sw_far (by omega) (by omega)]
  have := ex.1 c h0 hc (by omega) (by omega)
  rw [hpc] at this
  exact this

theorem down_ok {lt : Nat → Nat → Bool} {P : Nat → Prop} (pre : Pre lt P) {n : Nat} (h : Nat → Nat) (i : Nat) (hP : ∀ k, k < n → P (h k)) (ex : ExcD lt n h i) (all : ∀ k, 0 < k → k < n → par k ≠ i → lt (h k) (h (par k)) = false) : HeapOK lt n (downF lt n h i).1 := by
  fun_induction downF lt n h i with
  | case1 h i hn _ hl ih =>
    have hb := kid_b lt n h i hn
    obtain ⟨h1, h2⟩ := down_step pre hP hn ex hl
    exact ih (swP hP (by omega) hb.2) h2 h1
  | case2 h i hn _ hl =>
    intro k h0 hk
    by_cases e : par k = i
    · have := kid_min pre hP hn h0 hk e
      have hb := kid_b lt n h i hn
      rw [e]
      exact pre.trans _ _ _ (hP i (by omega)) (hP _ hb.2) (hP k hk) (by simpa using hl) this
    · exact all k h0 hk e
  | case3 h i hn =>
    intro k h0 hk
    exact all k h0 hk (by unfold par; omega)

/-- down from a place that may be wrong both ways: it moved, and all is well; or it did not, and up will do -/
theorem down_any_ok {lt : Nat → Nat → Bool} {P : Nat → Prop} (pre : Pre lt P) {n : Nat} (h : Nat → Nat) (i : Nat) (hP : ∀ k, k < n → P (h k)) (ex : ExcD lt n h i) :
    HeapOK lt n (downF lt n h i).1 ∨ (downF lt n h i = (h, i) ∧ ExcU lt n h i) := by
  by_cases hn : 2 * i + 1 < n
  · cases hl : lt (h (kid lt n h i)) (h i)
    · right
      refine ⟨downF_stop hn hl, ?_, ex.2⟩
      intro k h0 hk hne
      by_cases e : par k = i
      · have := kid_min pre hP hn h0 hk e
        have hb := kid_b lt n h i hn
        rw [e]
        exact pre.trans _ _ _ (hP i (by omega)) (hP _ hb.2) (hP k hk) hl this
      · exact ex.1 k h0 hk hne e
    · left
      have hb := kid_b lt n h i hn
      obtain ⟨h1, h2⟩ := down_step pre hP hn ex hl
      rw [downF_go hn hl]
      exact down_ok pre _ _ (swP hP (by omega) hb.2) h2 h1
  · right
    refine ⟨downF_end hn, ?_, ex.2⟩
    intro k h0 hk hne
    exact ex.1 k h0 hk hne (by unfold par; omega)

theorem downF_le {lt : Nat → Nat → Bool} {n : Nat} (h : Nat → Nat) (i : Nat) : i ≤ (downF lt n h i).2 := by
  fun_induction downF lt n h i with
  | case1 h i hn _ hl ih => have := kid_b lt n h i hn; omega
  | case2 => exact Nat.le_refl _
  | case3 => exact Nat.le_refl _

theorem downF_id {lt : Nat → Nat → Bool} {n : Nat} (h : Nat → Nat) (i : Nat) (he : ¬ i < (downF lt n h i).2) : downF lt n h i = (h, i) := by
  by_cases hn : 2 * i + 1 < n
  · cases hl : lt (h (kid lt n h i)) (h i)
    · exact downF_stop hn hl
    · exfalso
      rw [downF_go hn hl] at he
      have := downF_le (lt := lt) (n := n) (sw h i (kid lt n h i)) (kid lt n h i)
      have := kid_b lt n h i hn
      omega
  · exact downF_end hn

theorem up_okP {lt : Nat → Nat → Bool} {P : Nat → Prop} {n : Nat} (h : Nat → Nat) (j : Nat) (hP : ∀ k, k < n → P (h k)) (hj : j < n) : ∀ k, k < n → P (upF lt h j k) := by
  fun_induction upF lt h j with
  | case1 => exact hP
  | case3 => exact hP
  | case2 h j hj0 hl ih => exact ih (swP hP (by omega) hj) (by omega)

theorem down_okP {lt : Nat → Nat → Bool} {P : Nat → Prop} {n N : Nat} (hN : n ≤ N) (h : Nat → Nat) (i : Nat) (hP : ∀ k, k < N → P (h k)) : ∀ k, k < N → P ((downF lt n h i).1 k) := by
  fun_induction downF lt n h i with
  | case1 h i hn _ hl ih =>
    have := kid_b lt n h i hn
    exact ih (swP hP (by omega) (by omega))
  | case2 => exact hP
  | case3 => exact hP

/-- Remove keeps the heap. -/
theorem remove_ok {lt : Nat → Nat → Bool} {P : Nat → Prop} (pre : Pre lt P) {n : Nat} (h : Nat → Nat) (i : Nat) (hi : i ≤ n) (hP : ∀ k, k < n + 1 → P (h k)) (ok : HeapOK lt (n + 1) h) : HeapOK lt n (removeF lt h n i) := by
  unfold removeF
  split
  · exact fun k h0 hk => ok k h0 (by omega)
  · rename_i hne
    have hPs := swP hP (show i < n + 1 by omega) (show n < n + 1 by omega)
    have hPn : ∀ k, k < n → P (sw h i n k) := fun k hk => hPs k (by omega)
    have ex : ExcD lt n (sw h i n) i := by
      refine ⟨?_, ?_⟩
      · intro k h0 hk h1 h2
        have : par k < k := by unfold par; omega
        rw [sw_far h1 (by omega), sw_far h2 (by omega)]
        exact ok k h0 (by omega)
      · intro c h0 hc hpc hi0
        have h1 : par c < c := by unfold par; omega
        have h2 : par i < i := by unfold par; omega
        rw [sw_far (by omega) (by omega), sw_far (by omega) (by omega)]
        have a1 := ok c h0 (by omega)
        rw [hpc] at a1
        exact pre.trans _ _ _ (hP _ (by omega)) (hP i (by omega)) (hP c (by omega)) (ok i hi0 (by omega)) a1
    split
    · rename_i hm
      rcases down_any_ok pre _ _ hPn ex with h1 | ⟨h1, _⟩
      · exact h1
      · rw [h1] at hm
        exact absurd hm (by simp)
    · rename_i hm
      have e := downF_id _ _ hm
      rw [e]
      rcases down_any_ok pre _ _ hPn ex with h1 | ⟨_, h1⟩
      · rw [e] at h1
        refine up_ok pre _ _ hPn (by omega) ⟨fun k h0 hk _ => h1 k h0 hk, ?_⟩
        intro c h0 hc hpc hi0
        have a1 := h1 c h0 hc
        rw [hpc] at a1
        exact pre.trans _ _ _ (hPn _ (by unfold par; omega)) (hPn i (by omega)) (hPn c hc) (h1 i hi0 (by omega)) a1
      · exact up_ok pre _ _ hPn (by omega) h1

/-- Push keeps the heap. -/
theorem push_ok {lt : Nat → Nat → Bool} {P : Nat → Prop} (pre : Pre lt P) {n : Nat} (h : Nat → Nat) (x : Nat) (hx : P x) (hP : ∀ k, k < n → P (h k)) (ok : HeapOK lt n h) : HeapOK lt (n + 1) (upF lt (fun k => if k = n then x else h k) n) := by
  refine up_ok pre _ _ (fun k hk => ?_) (by omega) ⟨?_, ?_⟩
  · by_cases e : k = n
    · simp only [e, if_true]; exact hx
    · simp only [e, if_false]; exact hP k (by omega)
  · intro k h0 hk hne
    have : par k < k := by unfold par; omega
    simp only [hne, if_false, show par k ≠ n by omega]
    exact ok k h0 (by omega)
  · intro c h0 hc hpc _
    have : par c < c := by unfold par; omega
    omega

def Mem (n : Nat) (h : Nat → Nat) (x : Nat) : Prop := ∃ k, k < n ∧ x = h k

theorem Mem_of (n : Nat) (h : Nat → Nat) : ∀ k, k < n → Mem n h (h k) := fun k hk => ⟨k, hk, rfl⟩

theorem mem_sw {n : Nat} {h : Nat → Nat} {i j : Nat} (hi : i < n) (hj : j < n) (x : Nat) : Mem n (sw h i j) x ↔ Mem n h x := by
  have key : ∀ h : Nat → Nat, ∀ x, Mem n (sw h i j) x → Mem n h x := by
    rintro h x ⟨k, hk, rfl⟩
    exact swP (Mem_of n h) hi hj k hk
  constructor
  · exact key h x
  · intro hx
    have e : sw (sw h i j) i j = h := by
      funext k
      by_cases e1 : k = i
      · subst e1; rw [sw_l, sw_r]
      · by_cases e2 : k = j
        · subst e2; rw [sw_r, sw_l]
        · rw [sw_far e1 e2, sw_far e1 e2]
    rw [← e] at hx
    exact key _ x hx

theorem mem_up {lt : Nat → Nat → Bool} {n : Nat} (h : Nat → Nat) (j : Nat) (hj : j < n) (x : Nat) : Mem n (upF lt h j) x ↔ Mem n h x := by
  fun_induction upF lt h j with
  | case1 => rfl
  | case3 => rfl
  | case2 h j hj0 hl ih => rw [ih (by omega), mem_sw (by omega) hj]

theorem mem_down {lt : Nat → Nat → Bool} {n N : Nat} (hN : n ≤ N) (h : Nat → Nat) (i : Nat) (x : Nat) : Mem N (downF lt n h i).1 x ↔ Mem N h x := by
  fun_induction downF lt n h i with
  | case1 h i hn _ hl ih =>
    have := kid_b lt n h i hn
    rw [ih, mem_sw (by omega) (by omega)]
  | case2 => rfl
  | case3 => rfl

theorem mem_push {lt : Nat → Nat → Bool} {n : Nat} (h : Nat → Nat) (x y : Nat) : Mem (n + 1) (upF lt (fun k => if k = n then x else h k) n) y ↔ Mem n h y ∨ y = x := by
  rw [mem_up _ _ (by omega)]
  constructor
  · rintro ⟨k, hk, rfl⟩
    by_cases e : k = n
    · right; simp [e]
    · left; exact ⟨k, by omega, by simp [e]⟩
  · rintro (⟨k, hk, rfl⟩ | rfl)
    · exact ⟨k, by omega, by simp [show k ≠ n by omega]⟩
    · exact ⟨n, by omega, by simp⟩

theorem mem_removeN {lt : Nat → Nat → Bool} {n : Nat} (h : Nat → Nat) (i : Nat) (hi : i ≤ n) (y : Nat) : Mem (n + 1) (removeF lt h n i) y ↔ Mem (n + 1) h y := by
  unfold removeF
  split
  · rfl
  · split
    · rw [mem_down (by omega), mem_sw (by omega) (by omega)]
    · rw [mem_up _ _ (by omega), mem_down (by omega), mem_sw (by omega) (by omega)]

/-- what is left: all but the one that was removed -/
theorem mem_remove {lt : Nat → Nat → Bool} {n : Nat} (h : Nat → Nat) (i : Nat) (hi : i ≤ n) (inj : ∀ a b, a < n + 1 → b < n + 1 → removeF lt h n i a = removeF lt h n i b → a = b) (y : Nat) :
    Mem n (removeF lt h n i) y ↔ Mem (n + 1) h y ∧ y ≠ h i := by
  rw [← mem_removeN (lt := lt) h i hi y]
  have hl := removeF_last (lt := lt) (h := h) hi
  constructor
  · rintro ⟨k, hk, rfl⟩
    refine ⟨⟨k, by omega, rfl⟩, fun e => ?_⟩
    rw [← hl] at e
    have := inj k n (by omega) (by omega) e
    omega
  · rintro ⟨⟨k, hk, rfl⟩, hne⟩
    refine ⟨k, ?_, rfl⟩
    by_cases e : k = n
    · subst e; exact absurd hl hne
    · omega

#print axioms mem_remove
#print axioms remove_ok
end Go.Proofs.YtigaphnafnpfnaaGreatDoor

set_option linter.unusedVariables false
set_option linter.unusedSimpArgs false
namespace Go.Proofs.YtigaphnafnpfnaaGreatDoor
open Go.RowKit
attribute [local go_sem ↓] Go.wp_at_zero Go.wp_at_succ

theorem other_any (s : Int) (w : World) (h0 : 0 ≤ s) (h1 : s ≤ 1) : Calls Tryz.prog 154 #[.int .i64 s] w fun e w' => e = .returned (.int .i64 (1 - s)) ∧ w' = w := by
  go_enter Tryz.func154, Tryz.ntmps154
  go_wp2
  go_ret
  exact ⟨rfl, rfl⟩

/-- what is asked for -/
structure Ask where
  id : Int
  owner : Int
  sym : ByteArray
  side : Int
  kind : Int
  price : Int
  qty : Int

def Ask.val (o : Ask) : Value := .agg #[.int .i64 o.id, .int .i64 o.owner, .string o.sym, .int .i64 o.side, .int .i64 o.kind, .int .i64 o.price, .int .i64 o.qty]

def goodB (kind side price p : Int) : Bool := if kind = 5 then true else if side = 0 then decide (p ≤ price) else decide (price ≤ p)

set_option maxHeartbeats 400000 in
theorem good_any (o : Ask) (p : Int) (w : World) : Calls Tryz.prog 155 #[o.val, .int .i64 p] w fun e w' => e = .returned (.bool (goodB o.kind o.side o.price p)) ∧ Chg Non w w' := by
  obtain ⟨id, owner, sym, side, kind, price, qty⟩ := o
  simp only [Ask.val]
  by_cases h1 : kind = 5
  · have e1 : (kind == 5) = true := by simp [h1]
    have HG : Hid (goodB kind side price p = true) := by show _ = _; unfold goodB; rw [if_pos h1]
    clear h1
    go_enter Tryz.func155, Tryz.ntmps155
    go_wp2
    go_ret
    exact ⟨by rw [HG.out]; rfl, (Chg.refl _ _).alloc _⟩
  · have e1 : (kind == 5) = false := by simp [h1]
    by_cases h2 : side = 0
    · have e2 : (side == 0) = true := by simp [h2]
      have HG : Hid (goodB kind side price p = decide (p ≤ price)) := by show _ = _; unfold goodB; rw [if_neg h1, if_pos h2]
      clear h1 h2
      go_enter Tryz.func155, Tryz.ntmps155
      go_wp2
      go_ret
      exact ⟨by rw [HG.out]; rfl, (Chg.refl _ _).alloc _⟩
    · have e2 : (side == 0) = false := by simp [h2]
      have HG : Hid (goodB kind side price p = decide (price ≤ p)) := by show _ = _; unfold goodB; rw [if_neg h1, if_neg h2]
      clear h1 h2
      go_enter Tryz.func155, Tryz.ntmps155
      go_wp2
      go_ret
      exact ⟨by rw [HG.out]; rfl, (Chg.refl _ _).alloc _⟩

/-- a book: by side: its slice, how many, the heap -/
structure Bk where
  sym : ByteArray
  sl : Nat → Option Addr
  n : Nat → Nat
  cap : Nat → Nat
  h : Nat → Nat → Nat
  places : Int

def Bk.cells (B : Bk) : Array Value := #[.string B.sym, .slice (B.sl 0) (B.n 0) (B.cap 0), .slice (B.sl 1) (B.n 1) (B.cap 1), .int .i64 B.places]

structure IsBook (w : World) (bb : Nat) (B : Bk) (om : Nat → Ord) : Prop where
  blk : Blk w bb B.cells 158
  side : ∀ s, s < 2 → SideV w (B.sl s) (B.n s) (B.cap s) (B.h s) om
  apart : ∀ a, adB (B.sl 0) = some a → adB (B.sl 1) ≠ some a
  disj : ∀ k j, k < B.n 0 → j < B.n 1 → B.h 0 k ≠ B.h 1 j

theorem IsBook.kept {w w' : World} {bb : Nat} {B : Bk} {om : Nat → Ord} (hb : IsBook w bb B om) {S : Nat → Prop} (k : Chg S w w') (hS : ∀ b, (b = bb ∨ ∃ s, s < 2 ∧ (adB (B.sl s) = some b ∨ ∃ k, k < B.n s ∧ b = B.h s k)) → ¬ S b) : IsBook w' bb B om :=
  ⟨k.blk hb.blk (hS _ (.inl rfl)), fun s hs => (hb.side s hs).kept k (fun b h => hS b (.inr ⟨s, hs, h⟩)), hb.apart, hb.disj⟩

theorem Bk.cells_side (B : Bk) {s : Nat} (hs : s < 2) : B.cells[1 + s]? = some (.slice (B.sl s) (B.n s) (B.cap s)) := by
  have : s = 0 ∨ s = 1 := by omega
  rcases this with rfl | rfl <;> rfl

theorem IsBook.cellSide {w : World} {bb : Nat} {B : Bk} {om : Nat → Ord} (hb : IsBook w bb B om) {s : Nat} (hs : s < 2) : w.cell? ⟨bb, 1 + s, none⟩ = some (.slice (B.sl s) (B.n s) (B.cap s)) := (hb.blk.cell _).trans (B.cells_side hs)

/-- what FirstGood answers: nothing, or the block of the first -/
def firstG (B : Bk) (om : Nat → Ord) (o : Ask) (s : Nat) : Option Nat := if B.n s = 0 then none else if goodB o.kind o.side o.price (om (B.h s 0)).price = true then some (B.h s 0) else none

def ptrO : Option Nat → Value
  | none => .pointer none
  | some b => .pointer (some ⟨b, 0, none⟩)

set_option maxHeartbeats 1000000 in
theorem firstGood_any (bb : Nat) (B : Bk) (om : Nat → Ord) (o : Ask) (s : Nat) (w : World) (hb : IsBook w bb B om) (hs : s < 2) (ho : o.side = 1 - (s : Int)) :
    Calls Tryz.prog 123 #[.pointer (some ⟨bb, 0, none⟩), o.val] w fun e w' => e = .returned (ptrO (firstG B om o s)) ∧ Chg Non w w' := by
  have hlt := hb.blk.lt
  have hsd := hb.side s hs
  by_cases hn : B.n s = 0
  · have e1 : ((B.n s : Int) == 0) = true := by simp [hn]
    have HF : Hid (firstG B om o s = none) := by show _ = _; unfold firstG; rw [if_pos hn]
    obtain ⟨id, owner, sym, side, kind, price, qty⟩ := o
    simp only at ho
    subst ho
    simp only [Ask.val]
    clear hn
    have : s = 0 ∨ s = 1 := by omega
    rcases this with rfl | rfl
    · have hcs : w.cell? ⟨bb, 1, none⟩ = some (.slice (B.sl 0) (B.n 0) (B.cap 0)) := hb.blk.cell 1
      go_enter Tryz.func123, Tryz.ntmps123
      go_wp2
      go_quiet ((go_at_call 154; exact Calls.quiet_of_same (other_any _ _ (by omega) (by omega))))
      go_wp2
      go_quiet (fail)
      go_wp2
      go_ret
      exact ⟨by rw [HF.out]; rfl, (by repeat (first | exact Chg.refl _ _ | refine Chg.drewN ?_ _ | refine Chg.drew ?_ | refine Chg.alloc ?_ _))⟩
    · have hcs : w.cell? ⟨bb, 2, none⟩ = some (.slice (B.sl 1) (B.n 1) (B.cap 1)) := hb.blk.cell 2
      go_enter Tryz.func123, Tryz.ntmps123
      go_wp2
      go_quiet ((go_at_call 154; exact Calls.quiet_of_same (other_any _ _ (by omega) (by omega))))
      go_wp2
      go_quiet (fail)
      go_wp2
      go_ret
      exact ⟨by rw [HF.out]; rfl, (by repeat (first | exact Chg.refl _ _ | refine Chg.drewN ?_ _ | refine Chg.drew ?_ | refine Chg.alloc ?_ _))⟩
  · have e1 : ((B.n s : Int) == 0) = false := by simp; omega
    rcases hsd with ⟨_, h0, _⟩ | ⟨ab, hab, hsd⟩
    · exact absurd h0 hn
    obtain ⟨cs, ha, hc, hp⟩ := hsd.arr
    have ca := (ha.cell 0).trans (hp 0 (by omega))
    have cp := (hsd.ord 0 (by omega)).cell 5
    simp only [Ord.cells] at cp
    simp at cp
    have n0 : 0 < B.n s := by omega
    have la := ha.lt
    have ho0 := hsd.ord 0 (by omega)
    have lo := ho0.lt
    have HP := hp 0 (by omega)
    clear hp hc hsd
    obtain ⟨id, owner, sym, side, kind, price, qty⟩ := o
    simp only at ho
    subst ho
    simp only [Ask.val]
    cases hg : goodB kind (1 - (s : Int)) price (om (B.h s 0)).price
    · have HF : Hid (firstG B om ⟨id, owner, sym, 1 - (s : Int), kind, price, qty⟩ s = none) := by show _ = _; unfold firstG; rw [if_neg hn, if_neg (by simp [hg])]
      clear hn
      have : s = 0 ∨ s = 1 := by omega
      rcases this with rfl | rfl
      · have GG : goodB kind 1 price (om (B.h 0 0)).price = false := hg
        clear hg
        have hcs : w.cell? ⟨bb, 1, none⟩ = some (.slice (some ⟨ab, 0, none⟩) (B.n 0) (B.cap 0)) := (hb.blk.cell 1).trans (by rw [← hab]; rfl)
        go_enter Tryz.func123, Tryz.ntmps123
        go_wp2
        go_quiet ((go_at_call 154; exact Calls.quiet_of_same (other_any _ _ (by omega) (by omega))))
        go_wp2
        go_region_held3 (fun w' => w'.cell? ⟨w.heap.size, 0, none⟩ = some (.int .i64 id) ∧ w'.cell? ⟨w.heap.size, 1, none⟩ = some (.int .i64 owner) ∧ w'.cell? ⟨w.heap.size, 2, none⟩ = some (.string sym) ∧ w'.cell? ⟨w.heap.size, 3, none⟩ = some (.int .i64 1) ∧ w'.cell? ⟨w.heap.size, 4, none⟩ = some (.int .i64 kind) ∧ w'.cell? ⟨w.heap.size, 5, none⟩ = some (.int .i64 price) ∧ w'.cell? ⟨w.heap.size, 6, none⟩ = some (.int .i64 qty) ∧ w'.cell? ⟨ab, 0, none⟩ = some (.pointer (some ⟨B.h 0 0, 0, none⟩)) ∧ w'.cell? ⟨B.h 0 0, 5, none⟩ = some (.int .i64 (om (B.h 0 0)).price)) (go_keep)
          (first | (go_at_call 155; refine (good_any ⟨id, owner, sym, 1, kind, price, qty⟩ _ _).mono ?_; rintro e w2 ⟨rfl, hc2⟩; rw [GG]; have k0 := hc2.cell (p := ⟨w.heap.size, 0, none⟩) ((Blk.new w _ _).cell 0) (fun x => x); have k1 := hc2.cell (p := ⟨w.heap.size, 1, none⟩) ((Blk.new w _ _).cell 1) (fun x => x); have k2 := hc2.cell (p := ⟨w.heap.size, 2, none⟩) ((Blk.new w _ _).cell 2) (fun x => x); have k3 := hc2.cell (p := ⟨w.heap.size, 3, none⟩) ((Blk.new w _ _).cell 3) (fun x => x); have k4 := hc2.cell (p := ⟨w.heap.size, 4, none⟩) ((Blk.new w _ _).cell 4) (fun x => x); have k5 := hc2.cell (p := ⟨w.heap.size, 5, none⟩) ((Blk.new w _ _).cell 5) (fun x => x); have k6 := hc2.cell (p := ⟨w.heap.size, 6, none⟩) ((Blk.new w _ _).cell 6) (fun x => x); have k7 := hc2.cell (p := ⟨ab, 0, none⟩) (((ha.alloc _).cell 0).trans HP) (fun x => x); have k8 : w2.cell? ⟨B.h 0 0, 5, none⟩ = some (.int .i64 (om (B.h 0 0)).price) := hc2.cell (p := ⟨B.h 0 0, 5, none⟩) ((ho0.alloc _).cell 5) (fun x => x)))
        go_wp2
        go_ret
        exact ⟨by rw [HF.out]; rfl, Chg.trans (by repeat (first | exact Chg.refl _ _ | refine Chg.drewN ?_ _ | refine Chg.drew ?_ | refine Chg.alloc ?_ _)) hc2⟩
      · have GG : goodB kind 0 price (om (B.h 1 0)).price = false := hg
        clear hg
        have hcs : w.cell? ⟨bb, 2, none⟩ = some (.slice (some ⟨ab, 0, none⟩) (B.n 1) (B.cap 1)) := (hb.blk.cell 2).trans (by rw [← hab]; rfl)
        go_enter Tryz.func123, Tryz.ntmps123
        go_wp2
        go_quiet ((go_at_call 154; exact Calls.quiet_of_same (other_any _ _ (by omega) (by omega))))
        go_wp2
        go_region_held3 (fun w' => w'.cell? ⟨w.heap.size, 0, none⟩ = some (.int .i64 id) ∧ w'.cell? ⟨w.heap.size, 1, none⟩ = some (.int .i64 owner) ∧ w'.cell? ⟨w.heap.size, 2, none⟩ = some (.string sym) ∧ w'.cell? ⟨w.heap.size, 3, none⟩ = some (.int .i64 0) ∧ w'.cell? ⟨w.heap.size, 4, none⟩ = some (.int .i64 kind) ∧ w'.cell? ⟨w.heap.size, 5, none⟩ = some (.int .i64 price) ∧ w'.cell? ⟨w.heap.size, 6, none⟩ = some (.int .i64 qty) ∧ w'.cell? ⟨ab, 0, none⟩ = some (.pointer (some ⟨B.h 1 0, 0, none⟩)) ∧ w'.cell? ⟨B.h 1 0, 5, none⟩ = some (.int .i64 (om (B.h 1 0)).price)) (go_keep)
          (first | (go_at_call 155; refine (good_any ⟨id, owner, sym, 0, kind, price, qty⟩ _ _).mono ?_; rintro e w2 ⟨rfl, hc2⟩; rw [GG]; have k0 := hc2.cell (p := ⟨w.heap.size, 0, none⟩) ((Blk.new w _ _).cell 0) (fun x => x); have k1 := hc2.cell (p := ⟨w.heap.size, 1, none⟩) ((Blk.new w _ _).cell 1) (fun x => x); have k2 := hc2.cell (p := ⟨w.heap.size, 2, none⟩) ((Blk.new w _ _).cell 2) (fun x => x); have k3 := hc2.cell (p := ⟨w.heap.size, 3, none⟩) ((Blk.new w _ _).cell 3) (fun x => x); have k4 := hc2.cell (p := ⟨w.heap.size, 4, none⟩) ((Blk.new w _ _).cell 4) (fun x => x); have k5 := hc2.cell (p := ⟨w.heap.size, 5, none⟩) ((Blk.new w _ _).cell 5) (fun x => x); have k6 := hc2.cell (p := ⟨w.heap.size, 6, none⟩) ((Blk.new w _ _).cell 6) (fun x => x); have k7 := hc2.cell (p := ⟨ab, 0, none⟩) (((ha.alloc _).cell 0).trans HP) (fun x => x); have k8 : w2.cell? ⟨B.h 1 0, 5, none⟩ = some (.int .i64 (om (B.h 1 0)).price) := hc2.cell (p := ⟨B.h 1 0, 5, none⟩) ((ho0.alloc _).cell 5) (fun x => x)))
        go_wp2
        go_ret
        exact ⟨by rw [HF.out]; rfl, Chg.trans (by repeat (first | exact Chg.refl _ _ | refine Chg.drewN ?_ _ | refine Chg.drew ?_ | refine Chg.alloc ?_ _)) hc2⟩
    · have HF : Hid (firstG B om ⟨id, owner, sym, 1 - (s : Int), kind, price, qty⟩ s = some (B.h s 0)) := by show _ = _; unfold firstG; rw [if_neg hn, if_pos hg]
      clear hn
      have : s = 0 ∨ s = 1 := by omega
      rcases this with rfl | rfl
      · have GG : goodB kind 1 price (om (B.h 0 0)).price = true := hg
        clear hg
        have hcs : w.cell? ⟨bb, 1, none⟩ = some (.slice (some ⟨ab, 0, none⟩) (B.n 0) (B.cap 0)) := (hb.blk.cell 1).trans (by rw [← hab]; rfl)
        go_enter Tryz.func123, Tryz.ntmps123
        go_wp2
        go_quiet ((go_at_call 154; exact Calls.quiet_of_same (other_any _ _ (by omega) (by omega))))
        go_wp2
        go_region_held3 (fun w' => w'.cell? ⟨w.heap.size, 0, none⟩ = some (.int .i64 id) ∧ w'.cell? ⟨w.heap.size, 1, none⟩ = some (.int .i64 owner) ∧ w'.cell? ⟨w.heap.size, 2, none⟩ = some (.string sym) ∧ w'.cell? ⟨w.heap.size, 3, none⟩ = some (.int .i64 1) ∧ w'.cell? ⟨w.heap.size, 4, none⟩ = some (.int .i64 kind) ∧ w'.cell? ⟨w.heap.size, 5, none⟩ = some (.int .i64 price) ∧ w'.cell? ⟨w.heap.size, 6, none⟩ = some (.int .i64 qty) ∧ w'.cell? ⟨ab, 0, none⟩ = some (.pointer (some ⟨B.h 0 0, 0, none⟩)) ∧ w'.cell? ⟨B.h 0 0, 5, none⟩ = some (.int .i64 (om (B.h 0 0)).price)) (go_keep)
          (first | (go_at_call 155; refine (good_any ⟨id, owner, sym, 1, kind, price, qty⟩ _ _).mono ?_; rintro e w2 ⟨rfl, hc2⟩; rw [GG]; have k0 := hc2.cell (p := ⟨w.heap.size, 0, none⟩) ((Blk.new w _ _).cell 0) (fun x => x); have k1 := hc2.cell (p := ⟨w.heap.size, 1, none⟩) ((Blk.new w _ _).cell 1) (fun x => x); have k2 := hc2.cell (p := ⟨w.heap.size, 2, none⟩) ((Blk.new w _ _).cell 2) (fun x => x); have k3 := hc2.cell (p := ⟨w.heap.size, 3, none⟩) ((Blk.new w _ _).cell 3) (fun x => x); have k4 := hc2.cell (p := ⟨w.heap.size, 4, none⟩) ((Blk.new w _ _).cell 4) (fun x => x); have k5 := hc2.cell (p := ⟨w.heap.size, 5, none⟩) ((Blk.new w _ _).cell 5) (fun x => x); have k6 := hc2.cell (p := ⟨w.heap.size, 6, none⟩) ((Blk.new w _ _).cell 6) (fun x => x); have k7 := hc2.cell (p := ⟨ab, 0, none⟩) (((ha.alloc _).cell 0).trans HP) (fun x => x); have k8 : w2.cell? ⟨B.h 0 0, 5, none⟩ = some (.int .i64 (om (B.h 0 0)).price) := hc2.cell (p := ⟨B.h 0 0, 5, none⟩) ((ho0.alloc _).cell 5) (fun x => x)))
        go_wp2
        go_ret
        exact ⟨by rw [HF.out]; rfl, Chg.trans (by repeat (first | exact Chg.refl _ _ | refine Chg.drewN ?_ _ | refine Chg.drew ?_ | refine Chg.alloc ?_ _)) hc2⟩
      · have GG : goodB kind 0 price (om (B.h 1 0)).price = true := hg
        clear hg
        have hcs : w.cell? ⟨bb, 2, none⟩ = some (.slice (some ⟨ab, 0, none⟩) (B.n 1) (B.cap 1)) := (hb.blk.cell 2).trans (by rw [← hab]; rfl)
        go_enter Tryz.func123, Tryz.ntmps123
        go_wp2
        go_quiet ((go_at_call 154; exact Calls.quiet_of_same (other_any _ _ (by omega) (by omega))))
        go_wp2
        go_region_held3 (fun w' => w'.cell? ⟨w.heap.size, 0, none⟩ = some (.int .i64 id) ∧ w'.cell? ⟨w.heap.size, 1, none⟩ = some (.int .i64 owner) ∧ w'.cell? ⟨w.heap.size, 2, none⟩ = some (.string sym) ∧ w'.cell? ⟨w.heap.size, 3, none⟩ = some (.int .i64 0) ∧ w'.cell? ⟨w.heap.size, 4, none⟩ = some (.int .i64 kind) ∧ w'.cell? ⟨w.heap.size, 5, none⟩ = some (.int .i64 price) ∧ w'.cell? ⟨w.heap.size, 6, none⟩ = some (.int .i64 qty) ∧ w'.cell? ⟨ab, 0, none⟩ = some (.pointer (some ⟨B.h 1 0, 0, none⟩)) ∧ w'.cell? ⟨B.h 1 0, 5, none⟩ = some (.int .i64 (om (B.h 1 0)).price)) (go_keep)
          (first | (go_at_call 155; refine (good_any ⟨id, owner, sym, 0, kind, price, qty⟩ _ _).mono ?_; rintro e w2 ⟨rfl, hc2⟩; rw [GG]; have k0 := hc2.cell (p := ⟨w.heap.size, 0, none⟩) ((Blk.new w _ _).cell 0) (fun x => x); have k1 := hc2.cell (p := ⟨w.heap.size, 1, none⟩) ((Blk.new w _ _).cell 1) (fun x => x); have k2 := hc2.cell (p := ⟨w.heap.size, 2, none⟩) ((Blk.new w _ _).cell 2) (fun x => x); have k3 := hc2.cell (p := ⟨w.heap.size, 3, none⟩) ((Blk.new w _ _).cell 3) (fun x => x); have k4 := hc2.cell (p := ⟨w.heap.size, 4, none⟩) ((Blk.new w _ _).cell 4) (fun x => x); have k5 := hc2.cell (p := ⟨w.heap.size, 5, none⟩) ((Blk.new w _ _).cell 5) (fun x => x); have k6 := hc2.cell (p := ⟨w.heap.size, 6, none⟩) ((Blk.new w _ _).cell 6) (fun x => x); have k7 := hc2.cell (p := ⟨ab, 0, none⟩) (((ha.alloc _).cell 0).trans HP) (fun x => x); have k8 : w2.cell? ⟨B.h 1 0, 5, none⟩ = some (.int .i64 (om (B.h 1 0)).price) := hc2.cell (p := ⟨B.h 1 0, 5, none⟩) ((ho0.alloc _).cell 5) (fun x => x)))
        go_wp2
        go_ret
        exact ⟨by rw [HF.out]; rfl, Chg.trans (by repeat (first | exact Chg.refl _ _ | refine Chg.drewN ?_ _ | refine Chg.drew ?_ | refine Chg.alloc ?_ _)) hc2⟩

end Go.Proofs.YtigaphnafnpfnaaGreatDoor

set_option linter.unusedVariables false
set_option linter.unusedSimpArgs false
namespace Go.Proofs.YtigaphnafnpfnaaGreatDoor
open Go.RowKit
attribute [local go_sem ↓] Go.wp_at_zero Go.wp_at_succ

def upd {α : Type} (f : Nat → α) (s : Nat) (v : α) : Nat → α := fun t => if t = s then v else f t
theorem upd_same {α : Type} (f : Nat → α) (s : Nat) (v : α) : upd f s v s = v := by simp [upd]
theorem upd_other {α : Type} (f : Nat → α) {s t : Nat} (v : α) (h : t ≠ s) : upd f s v t = f t := by simp [upd, h]

theorem Ord.c0 (o : Ord) (ix : Int) : (o.cells ix).setIfInBounds 13 (.int .i64 ix) = o.cells ix := rfl

def ptrT (b : Nat) : Value := .pointer (some ⟨b, 0, none⟩)
def statC (o : Ord) : Array Value := #[.int .i64 o.id, .int .i64 o.owner, .string o.sym, .int .i64 o.side, .int .i64 o.kind, .int .i64 o.price, .int .i64 o.qty,
    .int .i64 o.entered, .int .i64 o.opn, .int .i64 o.filled, .int .i64 o.canc, .int .i64 o.exp]

theorem Blk.new1 (w : World) (o : Obj) (c : Array Value) (t : TypeId) : Blk ((w.alloc o).alloc (.cells c t)) (w.heap.size + 1) c t := by
  have h := Blk.new (w.alloc o) c t
  have e : (w.alloc o).heap.size = w.heap.size + 1 := by simp
  rw [e] at h
  exact h

/-- what a function that lets an order be as it was holds: the order, what it was -/
structure NowB (w : World) (H b : Nat) (o : Ord) : Prop where
  box : Blk w H #[.pointer (some ⟨b, 0, none⟩)] 114
  now : Blk w (H + 1) (statC o) 54

theorem NowB.kept {w w' : World} {H b : Nat} {o : Ord} (h : NowB w H b o) {S : Nat → Prop} (k : Chg S w w') (h1 : ¬ S H) (h2 : ¬ S (H + 1)) : NowB w' H b o := ⟨k.blk h.box h1, k.blk h.now h2⟩

set_option maxHeartbeats 400000 in
theorem asNow_any (b : Nat) (o : Ord) (ix : Int) (w : World) (ho : IsOrd w b o ix) :
    Calls Tryz.prog 119 #[.pointer (some ⟨b, 0, none⟩)] w fun e w' => e = .returned (.func (.func 151) #[] #[.pointer (some ⟨w.heap.size + 1, 0, none⟩), .pointer (some ⟨w.heap.size, 0, none⟩)]) ∧ NowB w' w.heap.size b o ∧ Chg Non w w' := by
  have c0 : w.cell? ⟨b, 0, none⟩ = some (.int .i64 o.id) := ho.cell 0
  have c1 : w.cell? ⟨b, 1, none⟩ = some (.int .i64 o.owner) := ho.cell 1
  have c2 : w.cell? ⟨b, 2, none⟩ = some (.string o.sym) := ho.cell 2
  have c3 : w.cell? ⟨b, 3, none⟩ = some (.int .i64 o.side) := ho.cell 3
  have c4 : w.cell? ⟨b, 4, none⟩ = some (.int .i64 o.kind) := ho.cell 4
  have c5 : w.cell? ⟨b, 5, none⟩ = some (.int .i64 o.price) := ho.cell 5
  have c6 : w.cell? ⟨b, 6, none⟩ = some (.int .i64 o.qty) := ho.cell 6
  have c7 : w.cell? ⟨b, 7, none⟩ = some (.int .i64 o.entered) := ho.cell 7
  have c8 : w.cell? ⟨b, 8, none⟩ = some (.int .i64 o.opn) := ho.cell 8
  have c9 : w.cell? ⟨b, 9, none⟩ = some (.int .i64 o.filled) := ho.cell 9
  have c10 : w.cell? ⟨b, 10, none⟩ = some (.int .i64 o.canc) := ho.cell 10
  have c11 : w.cell? ⟨b, 11, none⟩ = some (.int .i64 o.exp) := ho.cell 11
  have lo := ho.lt
  have hne : b ≠ w.heap.size := by omega
  go_enter Tryz.func119, Tryz.ntmps119
  go_wp2
  go_ret
  refine ⟨rfl, ⟨(Blk.new w _ _).alloc _, Blk.new1 w _ _ _⟩, ((Chg.refl Non w).alloc _).alloc _⟩

set_option maxHeartbeats 400000 in
theorem fill_any (b : Nat) (o : Ord) (ix q : Int) (w : World) (ho : IsOrd w b o ix) :
    Calls Tryz.prog 177 #[.pointer (some ⟨b, 0, none⟩), .int .i64 q] w fun e w' => e = .returned (.func (.func 151) #[] #[.pointer (some ⟨w.heap.size + 1, 0, none⟩), .pointer (some ⟨w.heap.size, 0, none⟩)]) ∧ NowB w' w.heap.size b o ∧ IsOrd w' b { o with opn := wrap64 (o.opn - q), filled := wrap64 (o.filled + q) } ix ∧ Chg (fun x => x = b) w w' := by
  have HA := hide (asNow_any b o ix w ho)
  have lo := ho.lt
  go_enter Tryz.func177, Tryz.ntmps177
  go_wp2_with fail
  refine (unhide HA).mono ?_
  rintro e w1 ⟨rfl, n1, k1⟩
  have ho1 := k1.blk ho (fun x => x)
  have h8 : w1.cell? ⟨b, 8, none⟩ = some (.int .i64 o.opn) := Blk.cell ho1 8
  have h9 : w1.cell? ⟨b, 9, none⟩ = some (.int .i64 o.filled) := Blk.cell ho1 9
  have f8 := Blk.frozen ho1 8
  have f9 := Blk.frozen ho1 9
  go_wp2
  go_ret
  have k2 := ((Chg.refl (fun x => x = b) w1).setCell (p := ⟨b, 8, none⟩) (.inl rfl) (.int .i64 (wrap64 (o.opn - q)))).setCell (p := ⟨b, 9, none⟩) (.inl rfl) (.int .i64 (wrap64 (o.filled + q)))
  exact ⟨rfl, n1.kept k2 (by omega) (by omega), (ho1.set 8 _).set 9 _, k1.of_non.trans k2⟩

set_option maxHeartbeats 400000 in
theorem cancelOpen_any (b : Nat) (o : Ord) (ix : Int) (w : World) (ho : IsOrd w b o ix) :
    Calls Tryz.prog 67 #[.pointer (some ⟨b, 0, none⟩)] w fun e w' => e = .returned (.func (.func 151) #[] #[.pointer (some ⟨w.heap.size + 1, 0, none⟩), .pointer (some ⟨w.heap.size, 0, none⟩)]) ∧ NowB w' w.heap.size b o ∧ IsOrd w' b { o with opn := 0, canc := wrap64 (o.canc + o.opn) } ix ∧ Chg (fun x => x = b) w w' := by
  have HA := hide (asNow_any b o ix w ho)
  have lo := ho.lt
  go_enter Tryz.func67, Tryz.ntmps67
  go_wp2_with fail
  refine (unhide HA).mono ?_
  rintro e w1 ⟨rfl, n1, k1⟩
  have ho1 := k1.blk ho (fun x => x)
  have h8 : w1.cell? ⟨b, 8, none⟩ = some (.int .i64 o.opn) := Blk.cell ho1 8
  have h10 : w1.cell? ⟨b, 10, none⟩ = some (.int .i64 o.canc) := Blk.cell ho1 10
  have f8 := Blk.frozen ho1 8
  have f10 := Blk.frozen ho1 10
  go_wp2
  go_region
  go_wp2
  go_ret
  have k2 := (((Chg.refl (fun x => x = b) w1).setCell (p := ⟨b, 10, none⟩) (.inl rfl) (.int .i64 (wrap64 (o.canc + o.opn)))).setCell (p := ⟨b, 8, none⟩) (.inl rfl) (.int .i64 0)).drew
  refine ⟨rfl, n1.kept k2 (by omega) (by omega), ?_, k1.of_non.trans k2⟩
  have := (ho1.set 10 (.int .i64 (wrap64 (o.canc + o.opn)))).set 8 (.int .i64 0)
  exact this

def restsB (kind : Int) : Bool := kind == 0 || kind == 1 || kind == 4

set_option maxHeartbeats 400000 in
theorem rests_any (b : Nat) (o : Ord) (ix : Int) (w : World) (ho : IsOrd w b o ix) :
    Calls Tryz.prog 121 #[.pointer (some ⟨b, 0, none⟩)] w fun e w' => e = .returned (.bool (restsB o.kind)) ∧ w' = w := by
  have h4 : w.cell? ⟨b, 4, none⟩ = some (.int .i64 o.kind) := ho.cell 4
  by_cases h0 : o.kind = 0
  · have e0 : (o.kind == 0) = true := by simp [h0]
    have HR : Hid (restsB o.kind = true) := by show _ = _; simp [restsB, h0]
    clear h0
    go_enter Tryz.func121, Tryz.ntmps121
    go_wp2
    go_ret
    exact ⟨by rw [HR.out]; rfl, rfl⟩
  · have e0 : (o.kind == 0) = false := by simp [h0]
    by_cases h1 : o.kind = 1
    · have e1 : (o.kind == 1) = true := by simp [h1]
      have HR : Hid (restsB o.kind = true) := by show _ = _; simp [restsB, h1]
      clear h0 h1
      go_enter Tryz.func121, Tryz.ntmps121
      go_wp2
      go_ret
      exact ⟨by rw [HR.out]; rfl, rfl⟩
    · have e1 : (o.kind == 1) = false := by simp [h1]
      by_cases h2 : o.kind = 4
      · have e2 : (o.kind == 4) = true := by simp [h2]
        have HR : Hid (restsB o.kind = true) := by show _ = _; simp [restsB, h2]
        clear h0 h1 h2
        go_enter Tryz.func121, Tryz.ntmps121
        go_wp2
        go_ret
        exact ⟨by rw [HR.out]; rfl, rfl⟩
      · have e2 : (o.kind == 4) = false := by simp [h2]
        have HR : Hid (restsB o.kind = false) := by show _ = _; simp [restsB, h0, h1, h2]
        clear h0 h1 h2
        go_enter Tryz.func121, Tryz.ntmps121
        go_wp2
        go_ret
        exact ⟨by rw [HR.out]; rfl, rfl⟩

def Bk.leave (B : Bk) (om : Nat → Ord) (s i : Nat) : Bk := { B with n := upd B.n s (B.n s - 1), h := upd B.h s (removeF (ltB om) (B.h s) (B.n s - 1) i) }

theorem Bk.leave_cells (B : Bk) (om : Nat → Ord) (s i : Nat) (hs : s < 2) : (B.leave om s i).cells = B.cells.setIfInBounds (1 + s) (.slice (B.sl s) (B.n s - 1) (B.cap s)) := by
  have : s = 0 ∨ s = 1 := by omega
  rcases this with rfl | rfl <;> rfl

/-- the blocks of a side -/
def SdB (B : Bk) (s : Nat) : Nat → Prop := fun b => adB (B.sl s) = some b ∨ ∃ k, k < B.n s ∧ b = B.h s k

theorem IsBook.far {w : World} {bb : Nat} {B : Bk} {om : Nat → Ord} (hb : IsBook w bb B om) {s t : Nat} (hs : s < 2) (ht : t < 2) (hne : s ≠ t) {b : Nat} (h : SdB B s b) : ¬ SdB B t b := by
  have key : ∀ b, SdB B 0 b → ¬ SdB B 1 b := by
    rintro b (h | ⟨k, hk, rfl⟩) (h' | ⟨j, hj, e⟩)
    · exact hb.apart b h h'
    · subst e; exact (hb.side 0 (by omega)).ne ((hb.side 1 (by omega)).ords hj) (by decide) h
    · exact (hb.side 1 (by omega)).ne ((hb.side 0 (by omega)).ords hk) (by decide) h'
    · exact hb.disj k j hk hj e
  have h2 : (s = 0 ∧ t = 1) ∨ (s = 1 ∧ t = 0) := by omega
  rcases h2 with ⟨rfl, rfl⟩ | ⟨rfl, rfl⟩
  · exact key b h
  · exact fun h' => key b h' h

theorem IsBook.bbout {w : World} {bb : Nat} {B : Bk} {om : Nat → Ord} (hb : IsBook w bb B om) {s : Nat} (hs : s < 2) : ¬ SdB B s bb := by
  rintro (h | ⟨k, hk, e⟩)
  · exact (hb.side s hs).ne hb.blk (by decide) h
  · subst e; exact Blk.ne hb.blk ((hb.side s hs).ords hk) (by decide) rfl

set_option maxHeartbeats 1000000 in
set_option maxRecDepth 100000 in
theorem bremove_any (bb : Nat) (B : Bk) (om : Nat → Ord) (s i : Nat) (w : World) (hb : IsBook w bb B om) (hs : s < 2) (hi : i < B.n s) (hside : (om (B.h s i)).side = (s : Int)) :
    Calls Tryz.prog 116 #[.pointer (some ⟨bb, 0, none⟩), .pointer (some ⟨B.h s i, 0, none⟩)] w fun e w' => e = .returned (.tuple #[]) ∧
      IsBook w' bb (B.leave om s i) om ∧ (∃ ix, IsOrd w' (B.h s i) (om (B.h s i)) ix) ∧ Chg (fun b => b = bb ∨ SdB B s b) w w' := by
  have hsd := hb.side s hs
  rcases hsd with ⟨_, h0, _⟩ | ⟨ab, hab, hsd⟩
  · omega
  obtain ⟨n, hn⟩ : ∃ n, B.n s = n + 1 := ⟨B.n s - 1, by omega⟩
  rw [hn] at hsd hi
  have hord := hsd.ord i hi
  have c3 : w.cell? ⟨B.h s i, 3, none⟩ = some (.int .i64 (s : Int)) := (hord.cell 3).trans (by rw [← hside]; rfl)
  have c13 : w.cell? ⟨B.h s i, 13, none⟩ = some (.int .i64 (i : Int)) := hord.cell 13
  have hso : B.cells[1 + s]? = some (.slice (some ⟨ab, 0, none⟩) (n + 1) (B.cap s)) := by rw [B.cells_side hs, hab, hn]
  have hrem := fun q => remove_any bb (1 + s) ab n (B.cap s) i B.cells (B.h s) om (w.drewN q) (hb.blk.drewN q) hso (hsd.kept ((Chg.refl Non w).drewN q) (fun _ _ x => x)) (by omega)
  have fin : ∀ (q : Nat) (w' : World), (Blk w' bb (B.cells.setIfInBounds (1 + s) (.slice (some ⟨ab, 0, none⟩) n (B.cap s))) 158 ∧ Side w' ab (B.cap s) n (removeF (ltB om) (B.h s) n i) om ∧ IsOrd w' (B.h s i) (om (B.h s i)) n ∧ Chg (fun b => b = bb ∨ Sd ab (n + 1) (B.h s) b) (w.drewN q) w') →
      IsBook w' bb (B.leave om s i) om ∧ (∃ ix, IsOrd w' (B.h s i) (om (B.h s i)) ix) ∧ Chg (fun b => b = bb ∨ SdB B s b) w w' := by
    rintro q w' ⟨h1, h2, h3, h4⟩
    have h5 : Chg (fun b => b = bb ∨ SdB B s b) w w' := Chg.trans ((Chg.refl _ w).drewN q) (h4.mono (fun b hb => by
      rcases hb with hb | hb
      · exact .inl hb
      · refine .inr ?_
        rcases hb with rfl | ⟨k, hk, rfl⟩
        · exact .inl (adB_some hab)
        · exact .inr ⟨k, by omega, rfl⟩))
    refine ⟨⟨?_, ?_, hb.apart, ?_⟩, ⟨n, h3⟩, h5⟩
    · rw [B.leave_cells om s i hs, hn, hab]; exact h1
    · intro t ht
      by_cases e : t = s
      · subst e
        refine .inr ⟨ab, hab, ?_⟩
        show Side w' ab (B.cap t) (upd B.n t (B.n t - 1) t) (upd B.h t _ t) om
        rw [upd_same, upd_same, hn]
        exact h2
      · show SideV w' (B.sl t) (upd B.n s (B.n s - 1) t) (B.cap t) (upd B.h s _ t) om
        rw [upd_other _ _ e, upd_other _ _ e]
        refine (hb.side t ht).kept h5 (fun b hb' hx => ?_)
        rcases hx with rfl | hx
        · exact hb.bbout ht hb'
        · exact hb.far hs ht (fun h => e h.symm) hx hb'
    · have sub : ∀ k, k < n → Mem (n + 1) (B.h s) (removeF (ltB om) (B.h s) n i k) := fun k hk => (mem_removeN (lt := ltB om) (B.h s) i (by omega) _).1 ⟨k, by omega, rfl⟩
      have h2' : s = 0 ∨ s = 1 := by omega
      intro k j hk hj
      rcases h2' with rfl | rfl
      · simp only [Bk.leave, upd_same, upd_other _ _ (show (1 : Nat) ≠ 0 by omega), hn, Nat.add_sub_cancel] at hk hj ⊢
        obtain ⟨k', hk', e⟩ := sub k hk
        rw [e]
        exact hb.disj k' j (by omega) hj
      · simp only [Bk.leave, upd_same, upd_other _ _ (show (0 : Nat) ≠ 1 by omega), hn, Nat.add_sub_cancel] at hk hj ⊢
        obtain ⟨j', hj', e⟩ := sub j hj
        rw [e]
        exact hb.disj k j' hk (by omega)
  have HF := hide fin
  have HR := hide hrem
  clear fin hrem
  have e2 : s = 0 ∨ s = 1 := by omega
  rcases e2 with rfl | rfl
  all_goals
    go_enter Tryz.func116, Tryz.ntmps116
    go_wp2
    go_region_with (first | (go_at_call 149; refine (unhide HR _).mono ?_; rintro e w1 ⟨rfl, hw1⟩))
    all_goals
      go_wp2
      go_end0
      exact ⟨rfl, unhide HF _ _ hw1⟩

/-- what a function that takes an order back, or lets it stand again, holds: the book, the order -/
structure PairB (w : World) (H bb b : Nat) : Prop where
  book : Blk w H #[.pointer (some ⟨bb, 0, none⟩)] 111
  ord : Blk w (H + 1) #[.pointer (some ⟨b, 0, none⟩)] 114

theorem PairB.kept {w w' : World} {H bb b : Nat} (h : PairB w H bb b) {S : Nat → Prop} (k : Chg S w w') (h1 : ¬ S H) (h2 : ¬ S (H + 1)) : PairB w' H bb b := ⟨k.blk h.book h1, k.blk h.ord h2⟩

theorem IsBook.sd_lt {w : World} {bb : Nat} {B : Bk} {om : Nat → Ord} (hb : IsBook w bb B om) {s : Nat} (hs : s < 2) {b : Nat} (h : SdB B s b) : b < w.heap.size := by
  rcases h with h | ⟨k, hk, rfl⟩
  · exact (hb.side s hs).lt h
  · exact ((hb.side s hs).ords hk).lt

set_option maxHeartbeats 1000000 in
theorem leave_any (bb : Nat) (B : Bk) (om : Nat → Ord) (s i : Nat) (w : World) (hb : IsBook w bb B om) (hs : s < 2) (hi : i < B.n s) (hside : (om (B.h s i)).side = (s : Int)) :
    Calls Tryz.prog 66 #[.pointer (some ⟨bb, 0, none⟩), .pointer (some ⟨B.h s i, 0, none⟩)] w fun e w' => e = .returned (.func (.func 117) #[] #[.pointer (some ⟨w.heap.size, 0, none⟩), .pointer (some ⟨w.heap.size + 1, 0, none⟩)]) ∧ PairB w' w.heap.size bb (B.h s i) ∧
      IsBook w' bb (B.leave om s i) om ∧ (∃ ix, IsOrd w' (B.h s i) (om (B.h s i)) ix) ∧ Chg (fun b => b = bb ∨ SdB B s b) w w' := by
  obtain ⟨w1, hw1⟩ : ∃ w1, w1 = (w.alloc (.cells #[.pointer (some ⟨bb, 0, none⟩)] 111)).alloc (.cells #[.pointer (some ⟨B.h s i, 0, none⟩)] 114) := ⟨_, rfl⟩
  have k1 : Chg Non w w1 := by rw [hw1]; exact ((Chg.refl Non w).alloc _).alloc _
  have p1 : PairB w1 w.heap.size bb (B.h s i) := by rw [hw1]; exact ⟨(Blk.new w _ _).alloc _, Blk.new1 w _ _ _⟩
  have hb1 := hb.kept k1 (fun _ _ x => x)
  have HR := hide (bremove_any bb B om s i w1 hb1 hs hi hside)
  have HW := hide hw1
  have x0 : w1.cell? ⟨w.heap.size, 0, none⟩ = some (.pointer (some ⟨bb, 0, none⟩)) := p1.book.cell 0
  have x1 : w1.cell? ⟨w.heap.size + 1, 0, none⟩ = some (.pointer (some ⟨B.h s i, 0, none⟩)) := p1.ord.cell 0
  have lb := hb.blk.lt
  have out : ∀ b, w.heap.size ≤ b → ¬ (b = bb ∨ SdB B s b) := by
    rintro b h (e | e)
    · omega
    · have := hb.sd_lt hs e; omega
  have HO := hide out
  clear hw1 out
  go_enter Tryz.func66, Tryz.ntmps66
  go_wp2_with fail
  rw [← unhide HW]
  refine (unhide HR).mono ?_
  rintro e w2 ⟨rfl, b2, o2, k2⟩
  go_wp2
  go_ret
  exact ⟨rfl, p1.kept k2 (unhide HO _ (Nat.le_refl _)) (unhide HO _ (by omega)), b2, o2, k1.of_non.trans k2⟩

end Go.Proofs.YtigaphnafnpfnaaGreatDoor

