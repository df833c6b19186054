import Derived.Test.YtigaphnafnpfnaaGreatDoorHE2
import Derived.Test.YtigaphnafnpfnaaGreatDoorHB5
import Derived.Deep.QuietTactic
import Derived.BigQuiet
import Derived.BigRegion
import Derived.Deep.RegionWith
import Derived.Deep.LoopGhost
import Derived.Deep.RegionHeld3
import Derived.Deep.DrawnRows
/- Levels: the walk -/
set_option linter.unusedVariables false
set_option linter.unusedSimpArgs false
namespace Go.Proofs.YtigaphnafnpfnaaGreatDoor
open Go.RowKit Go.Sort
attribute [local go_sem ↓] Go.wp_at_zero Go.wp_at_succ

/-- the sorted orders of a side -/
def SortYs (om : Nat → Ord) (n : Nat) (h : Nat → Nat) (ys : List Nat) : Prop := ys.Perm (upto h n) ∧ ys.Pairwise (fun a b => ltB om b a = false)

def LevelsPost (om : Nat → Ord) (n : Nat) (h : Nat → Nat) (w : World) (v : Value) (w' : World) : Prop :=
  ∃ ys : List Nat, SortYs om n h ys ∧ LevV w.heap.size w' v (levelsOf (ordsOf om ys)) ∧ Below w.heap.size w w'

theorem SideV.ptrs {w : World} {a : Option Addr} {n cap : Nat} {h : Nat → Nat} {om : Nat → Ord} (hs : SideV w a n cap h om) : Ptrs w.heap.size w a n cap h ∧ (∀ j, j < n → ∃ ix, IsOrd w (h j) (om (h j)) ix) ∧ n ≤ 1000 := by
  rcases hs with ⟨rfl, rfl, rfl⟩ | ⟨ab, rfl, hs⟩
  · exact ⟨.inl ⟨rfl, rfl, rfl⟩, fun j hj => absurd hj (Nat.not_lt_zero j), by omega⟩
  · obtain ⟨cs, hb, _, hc⟩ := hs.arr
    exact ⟨.inr ⟨ab, rfl, hb.lt, fun j hj => (hb.cell j).trans (hc j hj)⟩, fun j hj => ⟨_, hs.ord j hj⟩, hs.small⟩

def SliceF (n₀ : Nat) (w : World) (a : Option Addr) (ys : List Nat) : Prop :=
  (a = none ∧ ys = []) ∨ ∃ b, a = some ⟨b, 0, none⟩ ∧ n₀ ≤ b ∧ ∀ j, j < ys.length → w.cell? ⟨b, j, none⟩ = some (ptrV (ys.getD j 0))

theorem SliceL.form {n₀ : Nat} {w : World} {v : Value} {ys : List Nat} (h : SliceL n₀ w v ys) : ∃ a c, v = .slice a ys.length c ∧ SliceF n₀ w a ys := by
  rcases h with ⟨rfl, rfl⟩ | ⟨b, cap, rfl, h1, h2, h3⟩
  · exact ⟨none, 0, rfl, .inl ⟨rfl, rfl⟩⟩
  · exact ⟨_, cap, rfl, .inr ⟨b, rfl, h1, h3⟩⟩

theorem LevV.base {n₀ n₁ : Nat} {W : World} {v : Value} {ls : List Lvl} (h : LevV n₀ W v ls) (hn : n₁ ≤ n₀) : LevV n₁ W v ls := by
  rcases h with h | ⟨g, cap, cs, e, h1, h2⟩
  · exact .inl h
  · exact .inr ⟨g, cap, cs, e, by omega, h2⟩

theorem levels_take (om : Nat → Ord) (ys : List Nat) (i : Nat) (hi : i < ys.length) : levelsOf (ordsOf om (ys.take (i + 1))) = lvStep (levelsOf (ordsOf om (ys.take i))) (om (ys.getD i 0)) := by
  unfold levelsOf ordsOf
  rw [List.take_succ_eq_append_getElem hi, List.map_append, List.foldl_append]
  simp [List.getD_eq_getElem?_getD, hi]

theorem lvStep_length (ls : List Lvl) (o : Ord) : (lvStep ls o).length ≤ ls.length + 1 := by
  unfold lvStep
  split
  · split <;> simp <;> omega
  · simp

theorem levels_length (os : List Ord) (ls : List Lvl) : (os.foldl lvStep ls).length ≤ ls.length + os.length := by
  induction os generalizing ls with
  | nil => simp
  | cons o os ih =>
    have h1 := ih (lvStep ls o)
    have h2 := lvStep_length ls o
    simp only [List.foldl_cons, List.length_cons]
    omega

theorem flat_cells {W : World} {g k : Nat} {cs : Array Value} {ini : List Lvl} {l : Lvl} (hb : Blk W g cs 93) (hk : ini.length = k) (h6 : cs.toList.take ((k + 1) * 3) = flat (ini ++ [l])) (c : Nat) (hc : c < 3) :
    W.cell? ⟨g, k * 3 + c, none⟩ = (l.cells)[c]? := by
  rw [hb.cell]
  have h := flat_at (ini ++ [l]) k c (by simp; omega) hc
  rw [← h6, List.getElem?_take, if_pos (by omega), Array.getElem?_toList] at h
  rw [show k * 3 + c = 3 * k + c from by omega, h]
  simp [← hk]

theorem flat_snoc (ini : List Lvl) (l : Lvl) : flat (ini ++ [l]) = flat ini ++ l.cells := by
  simp [flat, List.flatMap_append]

theorem flat_set {cs : Array Value} {k : Nat} {ini : List Lvl} {l : Lvl} (hk : ini.length = k) (h6 : cs.toList.take ((k + 1) * 3) = flat (ini ++ [l])) (q n : Int) :
    ((cs.setIfInBounds (k * 3 + 1) (.int .i64 q)).setIfInBounds (k * 3 + 2) (.int .i64 n)).toList.take ((k + 1) * 3) = flat (ini ++ [⟨l.price, q, n⟩]) := by
  have hl : (flat ini).length = k * 3 := by rw [flat_length, hk]; omega
  rw [Array.toList_setIfInBounds, Array.toList_setIfInBounds, List.take_set, List.take_set, h6, flat_snoc, flat_snoc]
  rw [List.set_append_right _ _ (by omega), List.set_append_right _ _ (by omega), hl, show k * 3 + 1 - k * 3 = 1 from by omega, show k * 3 + 2 - k * 3 = 2 from by omega]
  rfl

theorem lvStep_same (ini : List Lvl) (l : Lvl) (o : Ord) (h : l.price = o.price) : lvStep (ini ++ [l]) o = ini ++ [⟨l.price, wrap64 (l.qty + o.opn), wrap64 (l.num + 1)⟩] := by
  unfold lvStep
  rw [List.getLast?_concat]
  simp [h]

theorem lvStep_other (ini : List Lvl) (l : Lvl) (o : Ord) (h : ¬ l.price = o.price) : lvStep (ini ++ [l]) o = (ini ++ [l]) ++ [⟨o.price, wrap64 o.opn, 1⟩] := by
  unfold lvStep
  rw [List.getLast?_concat]
  simp [h]

/-- two cells of the last level are written -/
theorem LevV.write {n₀ : Nat} {W : World} {g cap k : Nat} {cs : Array Value} {ini : List Lvl} {l : Lvl} (hk : ini.length = k) (h1 : n₀ ≤ g) (h2 : Blk W g cs 93) (h3 : k + 1 ≤ cap) (h4 : cap ≤ maxLen) (h5 : cs.size = cap * 3) (h6 : cs.toList.take ((k + 1) * 3) = flat (ini ++ [l])) (q n : Int) :
    LevV n₀ ((W.setCell ⟨g, k * 3 + 1, none⟩ (.int .i64 q)).setCell ⟨g, k * 3 + 2, none⟩ (.int .i64 n)) (.slice (some ⟨g, 0, none⟩) (k + 1) cap) (ini ++ [⟨l.price, q, n⟩]) := by
  have hl : (ini ++ [(⟨l.price, q, n⟩ : Lvl)]).length = k + 1 := by simp [hk]
  refine .inr ⟨g, cap, _, by rw [hl], h1, (h2.set _ _).set _ _, by rw [hl]; exact h3, h4, by simpa using h5, ?_, by rw [hl]; omega⟩
  rw [hl]
  exact flat_set hk h6 q n

theorem LevV.drew {n₀ : Nat} {W : World} {v : Value} {ls : List Lvl} (h : LevV n₀ W v ls) : LevV n₀ W.drew v ls := by
  rcases h with h | ⟨g, cap, cs, e, h1, h2, h3⟩
  · exact .inl h
  · exact .inr ⟨g, cap, cs, e, h1, h2.drew, h3⟩

theorem own_pos {W : World} {base e size n : Nat} {v : Value} {xs : List Value} (h : W.ownsRow base e size v n xs) (h0 : 0 < n) : ∃ g cap, v = .slice (some ⟨g, 0, none⟩) n cap := by
  rcases h.2 with ⟨_, h0⟩ | ⟨g, cap, _, rfl, _⟩
  · omega
  · exact ⟨g, cap, rfl⟩

theorem news3 (w : World) (p : Int) : ∀ j u, ([Value.int .i64 p, .int .i64 0, .int .i64 0] : List Value)[j]? = some u → (w.alloc (.cells #[.int .i64 p, .int .i64 0, .int .i64 0] 93)).cell? (Addr.add ⟨w.heap.size, 0, none⟩ j) = some u := by
  intro j u hj
  have hb := Blk.new w #[.int .i64 p, .int .i64 0, .int .i64 0] 93
  match j, hj with
  | 0, hj => rw [← hj]; exact hb.cell 0
  | 1, hj => rw [← hj]; exact hb.cell 1
  | 2, hj => rw [← hj]; exact hb.cell 2
  | j + 3, hj => simp at hj

set_option maxRecDepth 100000 in
set_option maxHeartbeats 4000000 in
theorem levels_any (bb s : Nat) (B : Bk) (om : Nat → Ord) (w : World) (hb : IsBook w bb B om) (hs : s < 2) (hside : ∀ j, j < B.n s → (om (B.h s j)).side = (s : Int)) :
    Calls Tryz.prog 48 #[.pointer (some ⟨bb, 0, none⟩), .int .i64 s] w fun e w' => ∃ v, e = .returned v ∧ LevelsPost om (B.n s) (B.h s) w v w' := by
  obtain ⟨hP, hO, hn⟩ := (hb.side s hs).ptrs
  have hlt := hb.blk.lt
  have hcs := hb.cellSide hs
  clear hb
  have HS := hide (show ∀ w1, w1 = w.alloc (.cells #[.slice (B.sl s) (B.n s) (B.cap s)] 155) → Calls Tryz.prog 81 #[.func (.func 129) #[] #[.pointer (some ⟨w.heap.size, 0, none⟩)], .func (.func 83) #[] #[]] w1 fun e w' => ∃ v, e = .returned v ∧ SortedPost (B.n s) (B.h s) om w1 v w' from by
    rintro w1 rfl
    have hB : Below w.heap.size w (w.alloc (.cells #[.slice (B.sl s) (B.n s) (B.cap s)] 155)) := (Below.refl _ w).alloc (Nat.le_refl _) _
    refine sortedFunc_any w.heap.size (B.sl s) (B.n s) (B.cap s) (B.h s) om s (by omega) _ (by simp) ((Blk.new _ _ _).cell 0) ?_ ?_
    · rcases hP with h | ⟨b, h1, h2, h3⟩
      · exact .inl h
      · exact .inr ⟨b, h1, by simp; omega, fun j hj => (hB.cell (p := ⟨b, j, none⟩) h2).trans (h3 j hj)⟩
    · intro j hj
      obtain ⟨ix, ho⟩ := hO j hj
      exact ⟨⟨ix, Blk.alloc ho _⟩, hside j hj⟩)
  clear hP
  generalize B.sl s = sl at *
  generalize B.cap s = cap at *
  generalize hnn : B.n s = n at *
  generalize hhh : B.h s = h at *
  clear hnn hhh
  have hs0 : (0 : Int) ≤ s := by omega
  have hs2 : (s : Int) < 2 := by omega
  go_enter Tryz.func48, Tryz.ntmps48
  go_wp2_with (first | (go_at_call 82; refine (values_any _ _ _ _).mono ?_; rintro e w1 ⟨rfl, rfl⟩) | (go_at_call 81; refine (unhide HS _ rfl).mono ?_; clear HS; rintro e w2 ⟨v, rfl, ys, hp1, hp2, hp3, hp4⟩; obtain ⟨va, vc, rfl, hp5⟩ := hp3.form))
  have HB : Hid (Below w.heap.size w w2) := ((Below.refl _ w).alloc (Nat.le_refl _) _).trans (hp4.mono (by simp))
  have HY : Hid (SortYs om n h ys) := ⟨hp1, hp2⟩
  have HO : Hid (∀ x, x ∈ ys → ∃ ix, IsOrd w2 x (om x) ix) := by
    intro x hx
    have := hp1.mem_iff.1 hx
    simp only [upto, List.mem_map, List.mem_range] at this
    obtain ⟨j, hj, rfl⟩ := this
    obtain ⟨ix, ho⟩ := hO j hj
    exact ⟨ix, (HB.out.block (h j) ho.lt).trans ho⟩
  have hyn : ys.length ≤ 1000 := by rw [hp1.length_eq, upto_length]; exact hn
  have HP := hide hp5
  clear hp1 hp2 hp3 hp4 hp5 hO hside hcs
  go_loopg [6, 8, 9, 20] ys.length (fun k lv _ _ iv wr => ∃ i : Nat, iv = .int .i64 (i : Int) ∧ i ≤ ys.length ∧ k = ys.length - i ∧ LevV (w2.heap.size) wr lv (levelsOf (ordsOf om (ys.take i))) ∧ Below w2.heap.size w2 wr)
  case atStart => exact ⟨0, rfl, Nat.zero_le _, rfl, .inl ⟨rfl, by simp [ordsOf, levelsOf]⟩, Below.refl _ _⟩
  case round =>
    obtain ⟨i, rfl, hi, hgk, hlv, hbw⟩ := hrel
    by_cases hlt : i < ys.length
    · have hx : ys.getD i 0 ∈ ys := by rw [List.getD_eq_getElem?_getD, List.getElem?_eq_getElem hlt]; exact List.getElem_mem hlt
      obtain ⟨b, rfl, hb1, hb3⟩ : ∃ b, va = some ⟨b, 0, none⟩ ∧ b < w2.heap.size ∧ w2.cell? ⟨b, i, none⟩ = some (ptrV (ys.getD i 0)) := by
        rcases unhide HP with ⟨_, rfl⟩ | ⟨b, e, _, hc⟩
        · exact absurd hlt (by simp)
        · exact ⟨b, e, World.block_lt_of_cell? w2 ⟨b, i, none⟩ (hc i hlt), hc i hlt⟩
      have hptr : wr.cell? ⟨b, i, none⟩ = some (.pointer (some ⟨ys.getD i 0, 0, none⟩)) := (hbw.cell (p := ⟨b, i, none⟩) hb1).trans hb3
      obtain ⟨ix, ho2⟩ := unhide HO _ hx
      have hxl : ys.getD i 0 < w2.heap.size := ho2.lt
      have ho : IsOrd wr (ys.getD i 0) (om (ys.getD i 0)) ix := (hbw.block _ hxl).trans ho2
      have HT := hide (levels_take om ys i hlt)
      generalize ys.getD i 0 = x at *
      generalize hls : levelsOf (ordsOf om (ys.take i)) = ls at *
      have o5 := ho.cell 5
      have o8 := ho.cell 8
      simp only [Ord.cells] at o5 o8
      simp at o5 o8
      clear hb3 ho2 hx
      have HI := hide ho
      clear ho
      have hll : ls.length ≤ 1000 := by
        have := levels_length (ordsOf om (ys.take i)) []
        rw [show (ordsOf om (ys.take i)).foldl lvStep [] = ls from hls] at this
        simp [ordsOf] at this
        omega
      clear hls
      rcases List.eq_nil_or_concat ls with rfl | ⟨ini, l, rfl⟩
      · obtain rfl : u6 = .slice none 0 0 := by
          rcases hlv with ⟨h, _⟩ | ⟨g, capL, cs, e, h1, h2, h3, h4, h5, h6, h7⟩
          · exact h
          · simp at h7
        clear hlv hll
        go_wp2
        go_quiet (fail)
        have hmx : 0 + 1 ≤ maxLen := by unfold maxLen; omega
        have hbs : w2.heap.size ≤ wr.heap.size := hbw.size
        obtain ⟨w3, hw3⟩ : ∃ w3, w3 = wr.drewN nq := ⟨_, rfl⟩
        rw [← hw3]
        have o53 : w3.cell? ⟨x, 5, none⟩ = some (.int .i64 (om x).price) := by rw [hw3]; exact o5
        have hbs3 : w2.heap.size ≤ w3.heap.size := by rw [hw3]; exact hbs
        have HI3 : Hid (IsOrd w3 x (om x) ix) := by rw [hw3]; exact (unhide HI).drewN _
        have HB3 : Hid (Below w2.heap.size w2 w3) := by rw [hw3]; exact ⟨hbw.os, hbw.tape, hbw.output, hbw.size, hbw.block⟩
        clear hw3 hbs o5 o8 hptr
        obtain ⟨i0, hi0, hz0, hz1, hz2⟩ := info_parts info68
        go_wp2_with (at_builtin; refine wpList_append_own _ rfl _ _ 63 rfl w2.heap.size 93 i0 (.agg #[.int .i64 0, .int .i64 0, .int .i64 0]) 3 24 Tryz.underlying63 hi0 hz0 hz1 hz2 rfl (by decide) _ 0 [] rfl (World.ownsRow_nil _ _ _ _) ⟨w3.heap.size, 0, none⟩ 1 1 [.int .i64 (om x).price, .int .i64 0, .int .i64 0] rfl rfl (news3 _ _) (by simp [Value.oneCell']) hmx (by omega) (by simp; omega) ?_; intro v' w4 hown' hgrow hnil; clear hnil; obtain ⟨g', cap', rfl⟩ := own_pos hown' (by omega))
        change (w3.alloc _).grownBy w4 none at hgrow
        have ho4 : IsOrd w4 x (om x) ix := (hgrow.block x (by simp; omega) (by simp)).trans (Blk.alloc (unhide HI3) _)
        have HB4 : Hid (Below w2.heap.size w2 w4) := ((unhide HB3).alloc hbs3 _).grown hgrow (by simp; omega) (fun k e => by cases e)
        have o84 := ho4.cell 8
        simp only [Ord.cells] at o84
        simp at o84
        obtain ⟨cs2, hh1, hh2, hh3, hh4, hh5, hh6⟩ : ∃ cs2, w2.heap.size ≤ g' ∧ Blk w4 g' cs2 93 ∧ 0 + 1 ≤ cap' ∧ cap' ≤ maxLen ∧ cs2.size = cap' * 3 ∧ cs2.toList.take ((0 + 1) * 3) = flat ([] ++ [⟨(om x).price, 0, 0⟩]) := by
          rcases hown'.2 with ⟨h, _⟩ | ⟨g2, cap2, cs2, e2, h1, h2, h3, h4, h5, h6⟩
          · cases h
          · cases e2
            exact ⟨cs2, h1, h2, h3, h4, h5, h6⟩
        have c1 := flat_cells (k := 0) (ini := []) (l := ⟨(om x).price, 0, 0⟩) hh2 rfl hh6 1 (by omega)
        have c2 := flat_cells (k := 0) (ini := []) (l := ⟨(om x).price, 0, 0⟩) hh2 rfl hh6 2 (by omega)
        simp only [Lvl.cells] at c1 c2
        simp at c1 c2
        have f1 := hh2.frozen 1
        have f2 := hh2.frozen 2
        have hgx' : x ≠ g' := by omega
        have G2' := hide hh2
        have G6' := hide hh6
        have HH5 := hide hh5
        clear hown' hgrow ho4 hh2 hh6 HI3 hi0 hz0 hz1 hz2 o53 hh5 hmx
        go_region
        go_wp2
        go_roundg (ys.length - (i + 1))
        case measure => omega
        case rel =>
          refine ⟨i + 1, by push_cast; rfl, by omega, rfl, ?_, ?_⟩
          · rw [unhide HT]
            exact (LevV.write (k := 0) (ini := []) rfl hh1 (unhide G2') hh3 hh4 (unhide HH5) (unhide G6') (wrap64 (om x).opn) 1).drew
          · have h8 := ((unhide HB4).setCell (p := ⟨g', 1, none⟩) hh1 (.int .i64 (wrap64 (om x).opn))).setCell (p := ⟨g', 2, none⟩) hh1 (.int .i64 1)
            exact ⟨h8.os, h8.tape, h8.output, h8.size, h8.block⟩
      · obtain ⟨g, capL, cs, rfl, hg1, hg2, hg3, hg4, hg5, hg6⟩ : ∃ g capL cs, u6 = .slice (some ⟨g, 0, none⟩) (ini.length + 1) capL ∧ w2.heap.size ≤ g ∧ Blk wr g cs 93 ∧ ini.length + 1 ≤ capL ∧ capL ≤ maxLen ∧ cs.size = capL * 3 ∧ cs.toList.take ((ini.length + 1) * 3) = flat (ini ++ [l]) := by
          rw [List.concat_eq_append] at hlv
          rcases hlv with ⟨_, h⟩ | ⟨g, capL, cs, e, h1, h2, h3, h4, h5, h6, _⟩
          · simp at h
          · simp only [List.length_append, List.length_cons, List.length_nil] at e h3 h6
            exact ⟨g, capL, cs, e, h1, h2, h3, h4, h5, h6⟩
        rw [List.concat_eq_append] at HT hll
        simp only [List.length_append, List.length_cons, List.length_nil] at hll
        obtain ⟨k, hk⟩ : ∃ k, ini.length = k := ⟨_, rfl⟩
        obtain ⟨m, hm⟩ : ∃ m, ini.length + 1 = m := ⟨_, rfl⟩
        have hkm : k < m := by omega
        have hm1 : m ≤ 1000 := by omega
        rw [hm] at hg3 hg6 ⊢
        rw [← hm, hk] at hg6
        have c0 := flat_cells hg2 hk hg6 0 (by omega)
        have c1 := flat_cells hg2 hk hg6 1 (by omega)
        have c2 := flat_cells hg2 hk hg6 2 (by omega)
        simp only [Lvl.cells, Nat.add_zero] at c0 c1 c2
        simp at c0 c1 c2
        have hw : (m : Int) - 1 = k := by omega
        have hk0 : decide ((k : Int) < 0) = false := by simp
        have f1 := hg2.frozen (k * 3 + 1)
        have f2 := hg2.frozen (k * 3 + 2)
        have hgx : x ≠ g := by omega
        have hrow : wr.ownsRow w2.heap.size 93 3 (.slice (some ⟨g, 0, none⟩) m capL) m (flat (ini ++ [l])) := ⟨by rw [flat_length]; simp; omega, .inr ⟨g, capL, cs, rfl, hg1, hg2, hg3, hg4, hg5, by rw [← hg6]; congr 1; omega⟩⟩
        have G2 := hide hg2
        have G5 := hide hg5
        have G6 := hide hg6
        clear hg2 hg5 hg6 hlv
        by_cases hpr : l.price = (om x).price
        · clear hrow
          go_wp2
          have hne : (l.price != (om x).price) = false := by simp [hpr]
          have HPR := hide hpr
          clear hpr
          go_quiet (fail)
          go_wp2
          go_region
          go_wp2
          go_roundg (ys.length - (i + 1))
          case measure => omega
          case rel =>
            have hkk : k + 1 = m := by omega
            refine ⟨i + 1, by push_cast; rfl, by omega, rfl, ?_, ?_⟩
            · rw [unhide HT, lvStep_same ini l _ (unhide HPR), ← hkk]
              exact LevV.write hk hg1 ((unhide G2).drewN _) (by omega) hg4 (unhide G5) (unhide G6) _ _
            · have h9 : Below w2.heap.size w2 (wr.drewN (nq + 1)) := ⟨hbw.os, hbw.tape, hbw.output, hbw.size, hbw.block⟩
              exact (h9.setCell (p := ⟨g, k * 3 + 1, none⟩) hg1 _).setCell (p := ⟨g, k * 3 + 2, none⟩) hg1 _
        · have hne : (l.price != (om x).price) = true := by simp [hpr]
          have HPR := hide hpr
          have HR := hide hrow
          clear hpr hrow
          go_wp2
          go_quiet (fail)
          have hm24 : (m + 1) * 24 ≤ 140737488355328 := by omega
          have hmx : m + 1 ≤ maxLen := by unfold maxLen; omega
          have hbs : w2.heap.size ≤ wr.heap.size := hbw.size
          obtain ⟨w3, hw3⟩ : ∃ w3, w3 = wr.drewN nq := ⟨_, rfl⟩
          rw [← hw3]
          have o53 : w3.cell? ⟨x, 5, none⟩ = some (.int .i64 (om x).price) := by rw [hw3]; exact o5
          have o83 : w3.cell? ⟨x, 8, none⟩ = some (.int .i64 (om x).opn) := by rw [hw3]; exact o8
          have HR3 : Hid (w3.ownsRow w2.heap.size 93 3 (.slice (some ⟨g, 0, none⟩) m capL) m (flat (ini ++ [l]))) := by rw [hw3]; exact unhide HR
          have hbs3 : w2.heap.size ≤ w3.heap.size := by rw [hw3]; exact hbs
          have HI3 : Hid (IsOrd w3 x (om x) ix) := by rw [hw3]; exact (unhide HI).drewN _
          have HB3 : Hid (Below w2.heap.size w2 w3) := by rw [hw3]; exact ⟨hbw.os, hbw.tape, hbw.output, hbw.size, hbw.block⟩
          clear hw3 hbs o5 o8 c0 c1 c2 f1 f2 hptr
          have hk1 : (k : Int) + 1 = m := by omega
          obtain ⟨i0, hi0, hz0, hz1, hz2⟩ := info_parts info68
          go_wp2_with (at_builtin; refine wpList_append_own _ rfl _ _ 63 rfl w2.heap.size 93 i0 (.agg #[.int .i64 0, .int .i64 0, .int .i64 0]) 3 24 Tryz.underlying63 hi0 hz0 hz1 hz2 rfl (by decide) _ m _ rfl ((unhide HR3).alloc _) ⟨w3.heap.size, 0, none⟩ 1 1 [.int .i64 (om x).price, .int .i64 0, .int .i64 0] rfl rfl (news3 _ _) (by simp [Value.oneCell']) hmx hm24 (by simp; omega) ?_; intro v' w4 hown' hgrow hnil; clear hnil; obtain ⟨m', hm'⟩ : ∃ m', m + 1 = m' := ⟨_, rfl⟩; rw [hm'] at hown'; obtain ⟨g', cap', rfl⟩ := own_pos hown' (by omega); have hmm : m < m' := by omega)
          change (w3.alloc _).grownBy w4 (some g) at hgrow
          have ho4 : IsOrd w4 x (om x) ix := (hgrow.block x (by simp; omega) (by simp; omega)).trans (Blk.alloc (unhide HI3) _)
          have HB4 : Hid (Below w2.heap.size w2 w4) := ((unhide HB3).alloc hbs3 _).grown hgrow (by simp; omega) (fun k e => by cases e; exact hg1)
          have o84 := ho4.cell 8
          simp only [Ord.cells] at o84
          simp at o84
          obtain ⟨cs2, hh1, hh2, hh3, hh4, hh5, hh6⟩ : ∃ cs2, w2.heap.size ≤ g' ∧ Blk w4 g' cs2 93 ∧ m' ≤ cap' ∧ cap' ≤ maxLen ∧ cs2.size = cap' * 3 ∧ cs2.toList.take ((m + 1) * 3) = flat ((ini ++ [l]) ++ [⟨(om x).price, 0, 0⟩]) := by
            rcases hown'.2 with ⟨h, _⟩ | ⟨g2, cap2, cs2, e2, h1, h2, h3, h4, h5, h6⟩
            · cases h
            · cases e2
              exact ⟨cs2, h1, h2, h3, h4, h5, by rw [flat_snoc, hm']; exact h6⟩
          have hil : (ini ++ [l]).length = m := by simp; omega
          have c1 := flat_cells hh2 hil hh6 1 (by omega)
          have c2 := flat_cells hh2 hil hh6 2 (by omega)
          simp only [Lvl.cells] at c1 c2
          simp at c1 c2
          have f1 := hh2.frozen (m * 3 + 1)
          have f2 := hh2.frozen (m * 3 + 2)
          have hgx' : x ≠ g' := by omega
          have G2' := hide hh2
          have G6' := hide hh6
          have HM := hide hm'
          have HH5 := hide hh5
          have HM1 := hide hm
          clear hown' hgrow ho4 hh2 hh6 HI3 HR3 HR hi0 hz0 hz1 hz2 o53 o83 hne hk0 hk1 hw hm' hm hh5 hm24 hmx hk hil
          go_region
          go_wp2
          go_roundg (ys.length - (i + 1))
          case measure => omega
          case rel =>
            refine ⟨i + 1, by push_cast; rfl, by omega, rfl, ?_, ?_⟩
            · rw [unhide HT, lvStep_other ini l _ (unhide HPR), ← unhide HM]
              exact (LevV.write (by have := unhide HM1; simp; omega) hh1 (unhide G2') (by have := unhide HM; omega) hh4 (unhide HH5) (unhide G6') _ _).drew
            · have h8 := ((unhide HB4).setCell (p := ⟨g', m * 3 + 1, none⟩) hh1 (.int .i64 (wrap64 (om x).opn))).setCell (p := ⟨g', m * 3 + 2, none⟩) hh1 (.int .i64 1)
              exact ⟨h8.os, h8.tape, h8.output, h8.size, h8.block⟩
    · obtain rfl : i = ys.length := by omega
      go_wp2
      go_ret
      exact ⟨_, rfl, ys, unhide HY, (by rw [List.take_length] at hlv; exact hlv.base (unhide HB).size), (unhide HB).trans (hbw.mono (unhide HB).size)⟩

#print axioms levels_any
end Go.Proofs.YtigaphnafnpfnaaGreatDoor

