import Derived.Test.YtigaphnafnpfnaaDoorA4
set_option linter.unusedVariables false
set_option linter.unusedSimpArgs false
namespace Go.Proofs.YtigaphnafnpfnaaDoor
open Go.RowKit

/-- a side as it stands in the book: nil, or an array -/
def SideV (w : World) (s : Option Addr) (n cap : Nat) (h : Nat → Nat) (om : Nat → Ord) : Prop :=
  (s = none ∧ n = 0 ∧ cap = 0) ∨ ∃ ab, s = some ⟨ab, 0, none⟩ ∧ Side w ab cap n h om

def ptrs (n : Nat) (h : Nat → Nat) : List Value := (List.range n).map fun k => .pointer (some ⟨h k, 0, none⟩)

theorem SideV.owns {w : World} {s : Option Addr} {n cap : Nat} {h : Nat → Nat} {om : Nat → Ord} (hs : SideV w s n cap h om) : w.ownsRow 0 68 1 (.slice s n cap) n (ptrs n h) := by
  refine ⟨by simp [ptrs], ?_⟩
  rcases hs with ⟨rfl, rfl, rfl⟩ | ⟨ab, rfl, hs⟩
  · exact .inl ⟨rfl, rfl⟩
  · right
    obtain ⟨cs, hb, hc, hp⟩ := hs.arr
    have hle := hs.le
    refine ⟨ab, cap, cs, rfl, Nat.zero_le _, hb, hs.le, hs.capm, by omega, ?_⟩
    apply List.ext_getElem?
    intro i
    by_cases hi : i < n
    · rw [List.getElem?_take_of_lt (by omega), Array.getElem?_toList, hp i hi]
      simp [ptrs, hi]
    · rw [List.getElem?_eq_none (by simp; omega), List.getElem?_eq_none (by simp [ptrs]; omega)]

theorem owns_cells {w : World} {g n cap : Nat} {h : Nat → Nat} (ho : w.ownsRow 0 68 1 (.slice (some ⟨g, 0, none⟩) n cap) n (ptrs n h)) :
    n ≤ cap ∧ cap ≤ maxLen ∧ ∃ cs, Blk w g cs 68 ∧ cs.size = cap ∧ ∀ i, i < n → cs[i]? = some (.pointer (some ⟨h i, 0, none⟩)) := by
  rcases ho.2 with ⟨h1, _⟩ | ⟨g', cap', cur, h1, _, hg, hn, hc, hs, ht⟩
  · simp at h1
  · simp at h1
    obtain ⟨rfl, rfl⟩ := h1
    refine ⟨hn, hc, cur, hg, by omega, fun i hi => ?_⟩
    have : (cur.toList.take (n * 1))[i]? = (ptrs n h)[i]? := by rw [ht]
    rw [List.getElem?_take_of_lt (by omega), Array.getElem?_toList] at this
    rw [this]
    simp [ptrs, hi]

theorem ptrs_snoc (n : Nat) (h : Nat → Nat) (ob : Nat) : ptrs n h ++ [.pointer (some ⟨ob, 0, none⟩)] = ptrs (n + 1) (fun k => if k = n then ob else h k) := by
  simp only [ptrs, List.range_succ, List.map_append, List.map_cons, List.map_nil, if_true]
  congr 1
  apply List.map_congr_left
  intro k hk
  simp at hk
  rw [if_neg (by omega)]

def adB : Option Addr → Option Nat
  | some a => some a.block
  | none => none

theorem info80 : ∃ i, Tryd.prog.info? 68 = some i ∧ i.zero = some (.pointer none) ∧ i.size = 1 ∧ i.bytes = 8 := by
  have h : (Tryd.prog.info? 68).map (fun i => (i.zero, i.size, i.bytes)) = some (some (.pointer none), 1, 8) := by kernel_rfl
  exact info_parts h

theorem SideV.kept {w w' : World} {s : Option Addr} {n cap : Nat} {h : Nat → Nat} {om : Nat → Ord} (hs : SideV w s n cap h om) {S : Nat → Prop} (k : Chg S w w') (hS : ∀ b, (adB s = some b ∨ ∃ k, k < n ∧ b = h k) → ¬ S b) : SideV w' s n cap h om := by
  rcases hs with hs | ⟨ab, rfl, hs⟩
  · exact .inl hs
  · refine .inr ⟨ab, rfl, hs.kept k (fun b hb => hS b ?_)⟩
    rcases hb with rfl | hb
    · exact .inl rfl
    · exact .inr hb

theorem pop_take {w : World} {ab cap n : Nat} {h : Nat → Nat} {om : Nat → Ord} (hs : Side w ab cap (n + 1) h om) : Side w ab cap n h om := by
  obtain ⟨cs, hb, hc, hp⟩ := hs.arr
  have := hs.le
  have := hs.small
  exact ⟨⟨cs, hb, hc, fun i hi => hp i (by omega)⟩, fun i hi => hs.ord i (by omega), by omega, by omega, hs.capm⟩

/-- the array of a side is no block of another type -/
theorem SideV.ne {w : World} {s : Option Addr} {n cap : Nat} {h : Nat → Nat} {om : Nat → Ord} (hs : SideV w s n cap h om) {b : Nat} {c : Array Value} {t : TypeId} (hb : Blk w b c t) (ht : t ≠ 68) : adB s ≠ some b := by
  rcases hs with ⟨rfl, _⟩ | ⟨ab, rfl, hs⟩
  · simp [adB]
  · obtain ⟨cs, hc, _⟩ := hs.arr
    intro e
    simp [adB] at e
    exact Blk.ne hb hc ht e.symm

theorem SideV.lt {w : World} {s : Option Addr} {n cap : Nat} {h : Nat → Nat} {om : Nat → Ord} (hs : SideV w s n cap h om) {b : Nat} (e : adB s = some b) : b < w.heap.size := by
  rcases hs with ⟨rfl, _⟩ | ⟨ab, rfl, hs⟩
  · simp [adB] at e
  · obtain ⟨cs, hc, _⟩ := hs.arr
    simp [adB] at e
    exact e ▸ hc.lt

theorem SideV.ords {w : World} {s : Option Addr} {n cap : Nat} {h : Nat → Nat} {om : Nat → Ord} (hs : SideV w s n cap h om) {i : Nat} (hi : i < n) : IsOrd w (h i) (om (h i)) i := by
  rcases hs with ⟨rfl, rfl, _⟩ | ⟨ab, rfl, hs⟩
  · omega
  · exact hs.ord i hi

theorem ownB (s : Option Addr) (n cap : Nat) : (Value.slice s n cap).ownBlock = adB s := by cases s <;> rfl

theorem assert80 (v : Value) (w : World) : Sem.run Tryd.prog (Instr.typeAssert (.iface 68 v) 20 68 false) w = .ok v w := by kernel_rfl

set_option maxHeartbeats 1000000 in
set_option maxRecDepth 100000 in
theorem push_any (bb so ob n cap : Nat) (s : Option Addr) (bc : Array Value) (h : Nat → Nat) (om : Nat → Ord) (ix : Int) (w : World) (hbk : Blk w bb bc 67) (hso : bc[so]? = some (.slice s n cap)) (hsd : SideV w s n cap h om)
    (ho : IsOrd w ob (om ob) ix) (hnew : ∀ k, k < n → h k ≠ ob) (hn : n < 1000) :
    Calls Tryd.prog 110 #[.pointer (some ⟨bb, so, none⟩), .iface 68 (.pointer (some ⟨ob, 0, none⟩))] w fun e w' => e = .returned (.tuple #[]) ∧
      ∃ g cap', Blk w' bb (bc.setIfInBounds so (.slice (some ⟨g, 0, none⟩) (n + 1) cap')) 67 ∧ Side w' g cap' (n + 1) (fun k => if k = n then ob else h k) om ∧ Chg (fun b => b = bb ∨ b = ob ∨ adB s = some b) w w' ∧ (adB s = some g ∨ w.heap.size ≤ g) := by
  have cb := (hbk.cell so).trans hso
  have fb := hbk.frozen so
  have co := ho.cell 13
  simp only [Ord.cells] at co
  simp at co
  have fo := ho.frozen 13
  have hne : ob ≠ bb := Blk.ne ho hbk (by decide)
  have hown := hsd.owns
  obtain ⟨i0, hi, hz0, hz1, hz2⟩ := info80
  have cb1 : (w.setCell ⟨ob, 13, none⟩ (.int .i64 n)).cell? ⟨bb, so, none⟩ = some (.slice s n cap) := ((hbk.other (a := ⟨ob, 13, none⟩) (fun e => hne e.symm) _).cell so).trans hso
  have hta := assert80 (.pointer (some ⟨ob, 0, none⟩)) w
  have HO : Hid (w.ownsRow 0 68 1 (.slice s n cap) n (ptrs n h)) := hown
  clear hown
  have hc1 : Chg (fun b => b = ob) w ((w.setCell ⟨ob, 13, none⟩ (.int .i64 n)).alloc (.cells #[.pointer (some ⟨ob, 0, none⟩)] 68)) := ((Chg.refl (fun b => b = ob) w).setCell (p := ⟨ob, 13, none⟩) (.inl rfl) _).alloc _
  have hsd1 := hsd.kept hc1 (fun b hb e => by
    subst e
    rcases hb with hb | ⟨k, hk, hb⟩
    · exact hsd.ne ho (by decide) hb
    · exact hnew k hk hb.symm)
  have ho1 := (ho.set 13 (.int .i64 n)).alloc (.cells #[.pointer (some ⟨ob, 0, none⟩)] 68)
  have hb1 := hc1.blk hbk (fun e => hne e.symm)
  go_enter Tryd.func110, Tryd.ntmps110
  go_wp2_with (at_builtin; refine wpList_append_lies _ rfl _ _ _ rfl 0 68 i0 (.pointer none) 1 8 Tryd.underlying64 hi hz0 hz1 hz2 rfl (by omega) (.slice s n cap) n (ptrs n h) rfl ?hown ⟨w.heap.size, 0, none⟩ 1 1 [.pointer (some ⟨ob, 0, none⟩)] rfl rfl ?hnews ?hone (by omega) ?h63 ?hbytes (by omega) (w.heap.size + 1) ?hH ?hrest)
  case hown => exact hsd1.owns
  case hnews =>
    have e := cell_one_new (w.setCell ⟨ob, 13, none⟩ (.int .i64 n)) (.pointer (some ⟨ob, 0, none⟩)) 68
    have e2 : (w.setCell ⟨ob, 13, none⟩ (.int .i64 n)).heap.size = w.heap.size := by simp [World.setCell]
    rw [e2] at e
    exact e
  case hone => intro u hu; simp at hu; subst hu; rfl
  case h63 => unfold maxLen; omega
  case hbytes => omega
  case hH => simp
  case hrest =>
    intro g cap1 w2 hown2 hgrow hat hlt
    rw [ownB] at hgrow hat
    have hnb : some bb ≠ adB s := fun e => hsd.ne hbk (by decide) e.symm
    have hno : some ob ≠ adB s := fun e => hsd.ne ho (by decide) e.symm
    have hc2 := Chg.grown (S := fun b => b = bb ∨ b = ob ∨ adB s = some b) (hc1.mono (fun b hb => .inr (.inl hb))) hgrow (fun k e => .inl (.inr (.inr e)))
    have hb2 : Blk w2 bb bc 67 := (hgrow.block bb hb1.lt hnb).trans hb1
    have ho2 : Blk w2 ob _ 75 := (hgrow.block ob ho1.lt hno).trans ho1
    have hor : ∀ k, k < n → IsOrd w2 (h k) (om (h k)) k := fun k hk => (hgrow.block (h k) (hsd1.ords hk).lt (fun e => hsd1.ne (hsd1.ords hk) (by decide) e.symm)).trans (hsd1.ords hk)
    have cb2 := (hb2.cell so).trans hso
    have fb2 := hb2.frozen so
    have HW := hide hown2
    clear cb1 cb fb hta hown2
    go_wp2
    go_end0
    refine ⟨rfl, g, cap1, hb2.set so _, ?_, hc2.setCell (.inl (.inl rfl)) _, ?_⟩
    · obtain ⟨h1, h2, cs, h3, h4, h5⟩ := owns_cells (h := fun k => if k = n then ob else h k) (by rw [← ptrs_snoc]; exact unhide HW)
      refine ⟨⟨cs, h3.other ?_ _, h4, h5⟩, ?_, h1, by omega, h2⟩
      · exact Ne.symm (Blk.ne hb2 h3 (by decide))
      · intro i hi
        by_cases e : i = n
        · subst e
          rw [if_pos rfl]
          exact ho2.other hne _
        · rw [if_neg e]
          exact (hor i (by omega)).other (Blk.ne (hor i (by omega)) hb2 (by decide)) _
    · rcases hat with hat | hat
      · exact .inl hat
      · right; omega


set_option maxHeartbeats 1000000 in
set_option maxRecDepth 100000 in
theorem pop_any (bb so ab n cap : Nat) (bc : Array Value) (h : Nat → Nat) (om : Nat → Ord) (w : World) (hbk : Blk w bb bc 67) (hso : bc[so]? = some (.slice (some ⟨ab, 0, none⟩) (n + 1) cap)) (hsd : Side w ab cap (n + 1) h om) :
    Calls Tryd.prog 109 #[.pointer (some ⟨bb, so, none⟩)] w fun e w' => e = .returned (.iface 68 (.pointer (some ⟨h n, 0, none⟩))) ∧
      Blk w' bb (bc.setIfInBounds so (.slice (some ⟨ab, 0, none⟩) n cap)) 67 ∧ Side w' ab cap n h om ∧ IsOrd w' (h n) (om (h n)) n ∧ Chg (fun b => b = bb ∨ b = ab) w w' := by
  have cb := (hbk.cell so).trans hso
  have fb := hbk.frozen so
  obtain ⟨cs, hb, hc, hp⟩ := hsd.arr
  have ca := (hb.cell n).trans (hp n (by omega))
  have fa := hb.frozen n
  have hne : ab ≠ bb := Blk.ne hb hbk (by decide)
  have hsm := hsd.small
  have hle := hsd.le
  have n0 : (0 : Int) ≤ (n : Int) := by omega
  have n1 : (n : Int) < (n : Int) + 1 := by omega
  have n2 : (n : Int) ≤ (cap : Int) := by omega
  have cb1 : (w.setCell ⟨ab, n, none⟩ (.pointer none)).cell? ⟨bb, so, none⟩ = some (.slice (some ⟨ab, 0, none⟩) (n + 1) cap) := ((hbk.other (a := ⟨ab, n, none⟩) (fun e => hne e.symm) _).cell so).trans hso
  have fb1 : (w.setCell ⟨ab, n, none⟩ (.pointer none)).frozen? ⟨bb, so, none⟩ = false := (hbk.other (a := ⟨ab, n, none⟩) (fun e => hne e.symm) _).frozen so
  have HC : Hid (cs.size = cap ∧ ∀ i, i < n + 1 → cs[i]? = some (.pointer (some ⟨h i, 0, none⟩))) := ⟨hc, hp⟩
  clear hp hc
  go_enter Tryd.func109, Tryd.ntmps109
  go_wp2
  go_ret
  refine ⟨rfl, (hbk.other (fun e => hne e.symm) _).set so _, ?_, ?_, ?_⟩
  · refine ⟨⟨_, (hb.set n _).other hne _, by simpa using HC.out.1, fun i hi => ?_⟩, fun i hi => ?_, by omega, by omega, hsd.capm⟩
    · rw [Array.getElem?_setIfInBounds_ne (by omega)]
      exact HC.out.2 i (by omega)
    · exact ((hsd.ord i (by omega)).other (Blk.ne (hsd.ord i (by omega)) hb (by decide)) _).other (Blk.ne (hsd.ord i (by omega)) hbk (by decide)) _
  · exact ((hsd.ord n (by omega)).other (Blk.ne (hsd.ord n (by omega)) hb (by decide)) _).other (Blk.ne (hsd.ord n (by omega)) hbk (by decide)) _
  · exact ((Chg.refl (fun b => b = bb ∨ b = ab) w).setCell (p := ⟨ab, n, none⟩) (.inl (.inr rfl)) _).setCell (p := ⟨bb, so, none⟩) (.inl (.inl rfl)) _

end Go.Proofs.YtigaphnafnpfnaaDoor
