import Derived.Test.YtekjibkliogipaaB2
import Derived.Lib.MinMax
set_option linter.unusedVariables false
set_option linter.unusedSimpArgs false
namespace Go.Proofs.Ytekjibkliogipaa
open Go.RowKit
attribute [local go_sem ↓] Go.wp_at_zero Go.wp_at_succ

theorem Side.om {w : World} {ab cap n : Nat} {h : Nat → Nat} {om om' : Nat → Ord} (hs : Side w ab cap n h om) (he : ∀ k, k < n → om' (h k) = om (h k)) : Side w ab cap n h om' :=
  ⟨hs.arr, fun i hi => by rw [he i hi]; exact hs.ord i hi, hs.le, hs.small, hs.capm⟩
theorem SideV.om {w : World} {s : Option Addr} {cap n : Nat} {h : Nat → Nat} {om om' : Nat → Ord} (hs : SideV w s n cap h om) (he : ∀ k, k < n → om' (h k) = om (h k)) : SideV w s n cap h om' := by
  rcases hs with hs | ⟨ab, e, hs⟩
  · exact .inl hs
  · exact .inr ⟨ab, e, hs.om he⟩

/-- an order has turned: the side tells it -/
theorem SideV.upd {w w' : World} {s : Option Addr} {cap n : Nat} {h : Nat → Nat} {om : Nat → Ord} (hs : SideV w s n cap h om) {b : Nat} {o o' : Ord} {ix : Int} (ho : IsOrd w b o ix) (k : Chg (fun x => x = b) w w') (ho' : IsOrd w' b o' ix) : SideV w' s n cap h (upd om b o') := by
  rcases hs with hs | ⟨ab, rfl, hs⟩
  · exact .inl hs
  · refine .inr ⟨ab, rfl, ?_⟩
    obtain ⟨cs, hb, hc, hp⟩ := hs.arr
    refine ⟨⟨cs, k.blk hb (fun e => Blk.ne ho hb (by decide) e.symm), hc, hp⟩, fun i hi => ?_, hs.le, hs.small, hs.capm⟩
    have hoi := hs.ord i hi
    by_cases e : h i = b
    · rw [e] at hoi ⊢
      rw [upd_same]
      have := (Ord.cells_inj (Blk.uniq ho hoi)).1
      rw [← this]
      exact ho'
    · rw [upd_other _ _ e]
      exact k.blk hoi e

theorem IsBook.upd {w w' : World} {bb : Nat} {B : Bk} {om : Nat → Ord} (hb : IsBook w bb B om) {b : Nat} {o o' : Ord} {ix : Int} (ho : IsOrd w b o ix) (k : Chg (fun x => x = b) w w') (ho' : IsOrd w' b o' ix) : IsBook w' bb B (upd om b o') :=
  ⟨k.blk hb.blk (fun e => Blk.ne ho hb.blk (by decide) e.symm), fun s hs => (hb.side s hs).upd ho k ho', hb.apart, hb.disj⟩

theorem ltB_upd {om : Nat → Ord} {b : Nat} {o' : Ord} (h1 : o'.side = (om b).side) (h2 : o'.price = (om b).price) (h3 : o'.place = (om b).place) : ltB (upd om b o') = ltB om := by
  have : ∀ x, (upd om b o' x).side = (om x).side ∧ (upd om b o' x).price = (om x).price ∧ (upd om b o' x).place = (om x).place := by
    intro x
    by_cases e : x = b
    · subst e; rw [upd_same]; exact ⟨h1, h2, h3⟩
    · rw [upd_other _ _ e]; exact ⟨rfl, rfl, rfl⟩
  funext x y
  unfold ltB lessB rankI
  rw [(this x).1, (this x).2.1, (this x).2.2, (this y).2.1, (this y).2.2]

def Bk.rest (B : Bk) (om : Nat → Ord) (s ob g cap' : Nat) : Bk :=
  { B with sl := upd B.sl s (some ⟨g, 0, none⟩), n := upd B.n s (B.n s + 1), cap := upd B.cap s cap', h := upd B.h s (upF (ltB om) (fun k => if k = B.n s then ob else B.h s k) (B.n s)), places := wrap64 (B.places + 1) }

theorem Bk.rest_cells (B : Bk) (om : Nat → Ord) (s ob g cap' : Nat) (hs : s < 2) : (B.rest om s ob g cap').cells = (B.cells.setIfInBounds 3 (.int .i64 (wrap64 (B.places + 1)))).setIfInBounds (1 + s) (.slice (some ⟨g, 0, none⟩) (B.n s + 1) cap') := by
  have : s = 0 ∨ s = 1 := by omega
  rcases this with rfl | rfl <;> rfl

set_option maxHeartbeats 1000000 in
set_option maxRecDepth 100000 in
theorem rest_any (bb ob s : Nat) (B : Bk) (om : Nat → Ord) (ix : Int) (w : World) (hb : IsBook w bb B om) (ho : IsOrd w ob (om ob) ix) (hs : s < 2) (hside : (om ob).side = (s : Int)) (hnew : ∀ t, t < 2 → ∀ k, k < B.n t → B.h t k ≠ ob) (hn : B.n s < 1000) :
    Calls Try.prog 52 #[.pointer (some ⟨bb, 0, none⟩), .pointer (some ⟨ob, 0, none⟩)] w fun e w' => e = .returned (.tuple #[]) ∧
      ∃ g cap', IsBook w' bb (B.rest (upd om ob { om ob with place := wrap64 (B.places + 1) }) s ob g cap') (upd om ob { om ob with place := wrap64 (B.places + 1) }) ∧ Chg (fun b => b = bb ∨ b = ob ∨ SdB B s b) w w' ∧ (adB (B.sl s) = some g ∨ w.heap.size ≤ g) := by
  have hne : ob ≠ bb := Blk.ne ho hb.blk (by decide)
  obtain ⟨om', hom'⟩ : ∃ om', om' = upd om ob { om ob with place := wrap64 (B.places + 1) } := ⟨_, rfl⟩
  rw [← hom']
  obtain ⟨w1, hw1⟩ : ∃ w1, w1 = (w.setCell ⟨bb, 3, none⟩ (.int .i64 (wrap64 (B.places + 1)))).setCell ⟨ob, 12, none⟩ (.int .i64 (wrap64 (B.places + 1))) := ⟨_, rfl⟩
  have hc1 : Chg (fun b => b = bb ∨ b = ob) w w1 := by
    rw [hw1]
    exact ((Chg.refl (fun b => b = bb ∨ b = ob) w).setCell (p := ⟨bb, 3, none⟩) (.inl (.inl rfl)) _).setCell (p := ⟨ob, 12, none⟩) (.inl (.inr rfl)) _
  have hb1 : Blk w1 bb (B.cells.setIfInBounds 3 (.int .i64 (wrap64 (B.places + 1)))) 87 := by rw [hw1]; exact (hb.blk.set 3 _).other (fun e => hne e.symm) _
  have ho1 : IsOrd w1 ob (om' ob) ix := by rw [hw1, hom', upd_same]; exact (ho.other hne _).set 12 _
  have hsd1 : ∀ t, t < 2 → SideV w1 (B.sl t) (B.n t) (B.cap t) (B.h t) om' := fun t ht => ((hb.side t ht).kept hc1 (fun b h hx => by
      rcases hx with rfl | rfl
      · exact hb.bbout ht h
      · rcases h with h | ⟨k, hk, e⟩
        · exact (hb.side t ht).ne ho (by decide) h
        · exact hnew t ht k hk e.symm)).om (fun k hk => by rw [hom', upd_other _ _ (hnew t ht k hk)])
  have hso : (B.cells.setIfInBounds 3 (.int .i64 (wrap64 (B.places + 1))))[1 + s]? = some (.slice (B.sl s) (B.n s) (B.cap s)) := by
    rw [Array.getElem?_setIfInBounds_ne (by omega)]
    exact B.cells_side hs
  have hpush := fun q => hpush_any bb (1 + s) ob (B.n s) (B.cap s) (B.sl s) _ (B.h s) om' ix (w1.drewN q) (hb1.drewN q) hso ((hsd1 s hs).kept ((Chg.refl Non w1).drewN q) (fun _ _ x => x)) (ho1.drewN q) (hnew s hs) hn
  have fin : ∀ (q : Nat) (w' : World), (∃ g cap', Blk w' bb ((B.cells.setIfInBounds 3 (.int .i64 (wrap64 (B.places + 1)))).setIfInBounds (1 + s) (.slice (some ⟨g, 0, none⟩) (B.n s + 1) cap')) 87 ∧ Side w' g cap' (B.n s + 1) (upF (ltB om') (fun k => if k = B.n s then ob else B.h s k) (B.n s)) om' ∧
        Chg (fun b => b = bb ∨ b = ob ∨ adB (B.sl s) = some b ∨ ∃ k, k < B.n s ∧ b = B.h s k) (w1.drewN q) w' ∧ (adB (B.sl s) = some g ∨ (w1.drewN q).heap.size ≤ g)) →
      ∃ g cap', IsBook w' bb (B.rest om' s ob g cap') om' ∧ Chg (fun b => b = bb ∨ b = ob ∨ SdB B s b) w w' ∧ (adB (B.sl s) = some g ∨ w.heap.size ≤ g) := by
    rintro q w' ⟨g, cap', h1, h2, h3, h4⟩
    have h4' : adB (B.sl s) = some g ∨ w.heap.size ≤ g := by
      rcases h4 with h4 | h4
      · exact .inl h4
      · right
        have : w.heap.size ≤ (w1.drewN q).heap.size := hc1.size
        omega
    have h5 : Chg (fun b => b = bb ∨ b = ob ∨ SdB B s b) w w' := Chg.trans ((hc1.mono (fun b hb => by rcases hb with h | h; exact .inl h; exact .inr (.inl h))).drewN q) (h3.mono (fun b hb => hb))
    refine ⟨g, cap', ⟨?_, ?_, ?_, ?_⟩, h5, h4'⟩
    · rw [B.rest_cells om' s ob g cap' hs]; exact h1
    · intro t ht
      by_cases e : t = s
      · subst e
        refine .inr ⟨g, by simp only [Bk.rest, upd_same], ?_⟩
        simp only [Bk.rest, upd_same]
        exact h2
      · simp only [Bk.rest, upd_other _ _ e]
        refine (hsd1 t ht).kept (Chg.trans ((Chg.refl _ w1).drewN q) h3) (fun b hb' hx => ?_)
        rcases hx with rfl | rfl | hx
        · exact hb.bbout ht hb'
        · rcases hb' with hb' | ⟨k, hk, e'⟩
          · exact (hb.side t ht).ne ho (by decide) hb'
          · exact hnew t ht k hk e'.symm
        · exact hb.far hs ht (fun h => e h.symm) hx hb'
    · have key : ∀ t, t < 2 → t ≠ s → adB (B.sl t) ≠ some g := by
        intro t ht e
        rcases h4' with h | h
        · have e2 : (t = 0 ∧ s = 1) ∨ (t = 1 ∧ s = 0) := by omega
          rcases e2 with ⟨rfl, rfl⟩ | ⟨rfl, rfl⟩
          · exact fun h' => hb.apart g h' h
          · exact hb.apart g h
        · intro h'
          have := (hb.side t ht).lt h'
          omega
      have e2 : s = 0 ∨ s = 1 := by omega
      intro a
      rcases e2 with rfl | rfl
      · simp only [Bk.rest, upd_same, upd_other _ _ (show (1 : Nat) ≠ 0 by omega)]
        intro h h'
        simp [adB] at h
        subst h
        exact key 1 (by omega) (by omega) h'
      · simp only [Bk.rest, upd_same, upd_other _ _ (show (0 : Nat) ≠ 1 by omega)]
        intro h h'
        simp [adB] at h'
        subst h'
        exact key 0 (by omega) (by omega) h
    · have sub : ∀ k, k < B.n s + 1 → Mem (B.n s) (B.h s) (upF (ltB om') (fun k => if k = B.n s then ob else B.h s k) (B.n s) k) ∨ upF (ltB om') (fun k => if k = B.n s then ob else B.h s k) (B.n s) k = ob := fun k hk => (mem_push (lt := ltB om') (B.h s) ob _).1 ⟨k, hk, rfl⟩
      have e2 : s = 0 ∨ s = 1 := by omega
      intro k j hk hj
      rcases e2 with rfl | rfl
      · simp only [Bk.rest, upd_same, upd_other _ _ (show (1 : Nat) ≠ 0 by omega)] at hk hj ⊢
        rcases sub k hk with ⟨k', hk', e⟩ | e
        · rw [e]; exact hb.disj k' j hk' hj
        · rw [e]; exact fun h => hnew 1 (by omega) j hj h.symm
      · simp only [Bk.rest, upd_same, upd_other _ _ (show (0 : Nat) ≠ 1 by omega)] at hk hj ⊢
        rcases sub j hj with ⟨j', hj', e⟩ | e
        · rw [e]; exact hb.disj k j' hk hj'
        · rw [e]; exact hnew 0 (by omega) k hk
  have HF := hide fin
  have HR := hide hpush
  have HW := hide hw1
  have c3 : w.cell? ⟨bb, 3, none⟩ = some (.int .i64 B.places) := hb.blk.cell 3
  have f3 := hb.blk.frozen 3
  have o3 : w.cell? ⟨ob, 3, none⟩ = some (.int .i64 (s : Int)) := (ho.cell 3).trans (by rw [← hside]; rfl)
  have o12 : w.cell? ⟨ob, 12, none⟩ = some (.int .i64 (om ob).place) := ho.cell 12
  have fo := ho.frozen 12
  have p3 : w1.cell? ⟨ob, 3, none⟩ = some (.int .i64 (s : Int)) := (ho1.cell 3).trans (by rw [← hside, hom', upd_same]; rfl)
  clear fin hpush hso hsd1 ho1 hb1 hc1 hom' hw1
  have e2 : s = 0 ∨ s = 1 := by omega
  rcases e2 with rfl | rfl
  all_goals
    go_enter Try.func52, Try.ntmps52
    go_wp2
    rw [← unhide HW]
    go_region_with (first | (go_at_call 62; refine (unhide HR _).mono ?_; rintro e w2 ⟨rfl, hw2⟩))
    all_goals
      go_wp2
      go_end0
      exact ⟨rfl, unhide HF _ _ hw2⟩

end Go.Proofs.Ytekjibkliogipaa
