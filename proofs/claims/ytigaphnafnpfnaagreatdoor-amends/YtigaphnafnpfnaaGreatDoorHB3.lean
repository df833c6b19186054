import Derived.Test.YtigaphnafnpfnaaGreatDoorHA2
import Derived.Lib.MinMax
set_option linter.unusedVariables false
set_option linter.unusedSimpArgs false
namespace Go.Proofs.YtigaphnafnpfnaaGreatDoor
open Go.RowKit
attribute [local go_sem ↓] Go.wp_at_zero Go.wp_at_succ

theorem Side.om {w : World} {ab cap n : Nat} {h : Nat → Nat} {om om' : Nat → Ord} (hs : Side w ab cap n h om) (he : ∀ k, k < n → om' (h k) = om (h k)) : Side w ab cap n h om' :=
  ⟨hs.arr, fun i hi => by rw [he i hi]; exact hs.ord i hi, hs.le, hs.small, hs.capm⟩
theorem SideV.om {w : World} {s : Option Addr} {cap n : Nat} {h : Nat → Nat} {om om' : Nat → Ord} (hs : SideV w s n cap h om) (he : ∀ k, k < n → om' (h k) = om (h k)) : SideV w s n cap h om' := by
  rcases hs with hs | ⟨ab, e, hs⟩
  · exact .inl hs
  · exact .inr ⟨ab, e, hs.om he⟩

/-- an order has turned: the side tells it -/
theorem SideV.upd {w w' : World} {s : Option Addr} {cap n : Nat} {h : Nat → Nat} {om : Nat → Ord} (hs : SideV w s n cap h om) {b : Nat} {o o' : Ord} {ix : Int} (ho : IsOrd w b o ix) (k : Chg (fun x => x = b) w w') (ho' : IsOrd w' b o' ix) : SideV w' s n cap h (upd om b o') := by
  rcases hs with hs | ⟨ab, rfl, hs⟩
  · exact .inl hs
  · refine .inr ⟨ab, rfl, ?_⟩
    obtain ⟨cs, hb, hc, hp⟩ := hs.arr
    refine ⟨⟨cs, k.blk hb (fun e => Blk.ne ho hb (by decide) e.symm), hc, hp⟩, fun i hi => ?_, hs.le, hs.small, hs.capm⟩
    have hoi := hs.ord i hi
    by_cases e : h i = b
    · rw [e] at hoi ⊢
      rw [upd_same]
      have := (Ord.cells_inj (Blk.uniq ho hoi)).1
      rw [← this]
      exact ho'
    · rw [upd_other _ _ e]
      exact k.blk hoi e

theorem IsBook.upd {w w' : World} {bb : Nat} {B : Bk} {om : Nat → Ord} (hb : IsBook w bb B om) {b : Nat} {o o' : Ord} {ix : Int} (ho : IsOrd w b o ix) (k : Chg (fun x => x = b) w w') (ho' : IsOrd w' b o' ix) : IsBook w' bb B (upd om b o') :=
  ⟨k.blk hb.blk (fun e => Blk.ne ho hb.blk (by decide) e.symm), fun s hs => (hb.side s hs).upd ho k ho', hb.apart, hb.disj⟩

theorem ltB_upd {om : Nat → Ord} {b : Nat} {o' : Ord} (h1 : o'.side = (om b).side) (h2 : o'.price = (om b).price) (h3 : o'.place = (om b).place) : ltB (upd om b o') = ltB om := by
  have : ∀ x, (upd om b o' x).side = (om x).side ∧ (upd om b o' x).price = (om x).price ∧ (upd om b o' x).place = (om x).place := by
    intro x
    by_cases e : x = b
    · subst e; rw [upd_same]; exact ⟨h1, h2, h3⟩
    · rw [upd_other _ _ e]; exact ⟨rfl, rfl, rfl⟩
  funext x y
  unfold ltB lessB rankI
  rw [(this x).1, (this x).2.1, (this x).2.2, (this y).2.1, (this y).2.2]

/-- an order stands in the book again, or anew: its place is its own -/
def Bk.push (B : Bk) (om : Nat → Ord) (s ob g cap' : Nat) : Bk :=
  { B with sl := upd B.sl s (some ⟨g, 0, none⟩), n := upd B.n s (B.n s + 1), cap := upd B.cap s cap', h := upd B.h s (upF (ltB om) (fun k => if k = B.n s then ob else B.h s k) (B.n s)) }

theorem Bk.push_cells (B : Bk) (om : Nat → Ord) (s ob g cap' : Nat) (hs : s < 2) : (B.push om s ob g cap').cells = B.cells.setIfInBounds (1 + s) (.slice (some ⟨g, 0, none⟩) (B.n s + 1) cap') := by
  have : s = 0 ∨ s = 1 := by omega
  rcases this with rfl | rfl <;> rfl

def Bk.rest (B : Bk) (om : Nat → Ord) (s ob g cap' : Nat) : Bk :=
  { B with sl := upd B.sl s (some ⟨g, 0, none⟩), n := upd B.n s (B.n s + 1), cap := upd B.cap s cap', h := upd B.h s (upF (ltB om) (fun k => if k = B.n s then ob else B.h s k) (B.n s)), places := wrap64 (B.places + 1) }

theorem Bk.rest_cells (B : Bk) (om : Nat → Ord) (s ob g cap' : Nat) (hs : s < 2) : (B.rest om s ob g cap').cells = (B.cells.setIfInBounds 3 (.int .i64 (wrap64 (B.places + 1)))).setIfInBounds (1 + s) (.slice (some ⟨g, 0, none⟩) (B.n s + 1) cap') := by
  have : s = 0 ∨ s = 1 := by omega
  rcases this with rfl | rfl <;> rfl

theorem Bk.rest_push (B : Bk) (om : Nat → Ord) (s ob g cap' : Nat) : B.rest om s ob g cap' = Bk.push { B with places := wrap64 (B.places + 1) } om s ob g cap' := rfl

set_option maxHeartbeats 1000000 in
set_option maxRecDepth 100000 in
theorem bpush_any (bb ob s : Nat) (B : Bk) (om : Nat → Ord) (ix : Int) (w : World) (hb : IsBook w bb B om) (ho : IsOrd w ob (om ob) ix) (hs : s < 2) (hside : (om ob).side = (s : Int)) (hnew : ∀ t, t < 2 → ∀ k, k < B.n t → B.h t k ≠ ob) (hn : B.n s < 1000) :
    Calls Tryz.prog 118 #[.pointer (some ⟨bb, 0, none⟩), .pointer (some ⟨ob, 0, none⟩)] w fun e w' => e = .returned (.tuple #[]) ∧
      ∃ g cap', IsBook w' bb (B.push om s ob g cap') om ∧ Chg (fun b => b = bb ∨ b = ob ∨ SdB B s b) w w' ∧ (adB (B.sl s) = some g ∨ w.heap.size ≤ g) := by
  have hne : ob ≠ bb := Blk.ne ho hb.blk (by decide)
  have hpush := fun q => hpush_any bb (1 + s) ob (B.n s) (B.cap s) (B.sl s) _ (B.h s) om ix (w.drewN q) (hb.blk.drewN q) (B.cells_side hs) ((hb.side s hs).kept ((Chg.refl Non w).drewN q) (fun _ _ x => x)) (ho.drewN q) (hnew s hs) hn
  have fin : ∀ (q : Nat) (w' : World), (∃ g cap', Blk w' bb (B.cells.setIfInBounds (1 + s) (.slice (some ⟨g, 0, none⟩) (B.n s + 1) cap')) 158 ∧ Side w' g cap' (B.n s + 1) (upF (ltB om) (fun k => if k = B.n s then ob else B.h s k) (B.n s)) om ∧
        Chg (fun b => b = bb ∨ b = ob ∨ adB (B.sl s) = some b ∨ ∃ k, k < B.n s ∧ b = B.h s k) (w.drewN q) w' ∧ (adB (B.sl s) = some g ∨ (w.drewN q).heap.size ≤ g)) →
      ∃ g cap', IsBook w' bb (B.push om s ob g cap') om ∧ Chg (fun b => b = bb ∨ b = ob ∨ SdB B s b) w w' ∧ (adB (B.sl s) = some g ∨ w.heap.size ≤ g) := by
    rintro q w' ⟨g, cap', h1, h2, h3, h4⟩
    have h4' : adB (B.sl s) = some g ∨ w.heap.size ≤ g := h4
    have h5 : Chg (fun b => b = bb ∨ b = ob ∨ SdB B s b) w w' := Chg.trans ((Chg.refl _ w).drewN q) (h3.mono (fun b hb => hb))
    refine ⟨g, cap', ⟨?_, ?_, ?_, ?_⟩, h5, h4'⟩
    · rw [B.push_cells om s ob g cap' hs]; exact h1
    · intro t ht
      by_cases e : t = s
      · subst e
        refine .inr ⟨g, by simp only [Bk.push, upd_same], ?_⟩
        simp only [Bk.push, upd_same]
        exact h2
      · simp only [Bk.push, upd_other _ _ e]
        refine (hb.side t ht).kept h5 (fun b hb' hx => ?_)
        rcases hx with rfl | rfl | hx
        · exact hb.bbout ht hb'
        · rcases hb' with hb' | ⟨k, hk, e'⟩
          · exact (hb.side t ht).ne ho (by decide) hb'
          · exact hnew t ht k hk e'.symm
        · exact hb.far hs ht (fun h => e h.symm) hx hb'
    · have key : ∀ t, t < 2 → t ≠ s → adB (B.sl t) ≠ some g := by
        intro t ht e
        rcases h4' with h | h
        · have e2 : (t = 0 ∧ s = 1) ∨ (t = 1 ∧ s = 0) := by omega
          rcases e2 with ⟨rfl, rfl⟩ | ⟨rfl, rfl⟩
          · exact fun h' => hb.apart g h' h
          · exact hb.apart g h
        · intro h'
          have := (hb.side t ht).lt h'
          omega
      have e2 : s = 0 ∨ s = 1 := by omega
      intro a
      rcases e2 with rfl | rfl
      · simp only [Bk.push, upd_same, upd_other _ _ (show (1 : Nat) ≠ 0 by omega)]
        intro h h'
        simp [adB] at h
        subst h
        exact key 1 (by omega) (by omega) h'
      · simp only [Bk.push, upd_same, upd_other _ _ (show (0 : Nat) ≠ 1 by omega)]
        intro h h'
        simp [adB] at h'
        subst h'
        exact key 0 (by omega) (by omega) h
    · have sub : ∀ k, k < B.n s + 1 → Mem (B.n s) (B.h s) (upF (ltB om) (fun k => if k = B.n s then ob else B.h s k) (B.n s) k) ∨ upF (ltB om) (fun k => if k = B.n s then ob else B.h s k) (B.n s) k = ob := fun k hk => (mem_push (lt := ltB om) (B.h s) ob _).1 ⟨k, hk, rfl⟩
      have e2 : s = 0 ∨ s = 1 := by omega
      intro k j hk hj
      rcases e2 with rfl | rfl
      · simp only [Bk.push, upd_same, upd_other _ _ (show (1 : Nat) ≠ 0 by omega)] at hk hj ⊢
        rcases sub k hk with ⟨k', hk', e⟩ | e
        · rw [e]; exact hb.disj k' j hk' hj
        · rw [e]; exact fun h => hnew 1 (by omega) j hj h.symm
      · simp only [Bk.push, upd_same, upd_other _ _ (show (0 : Nat) ≠ 1 by omega)] at hk hj ⊢
        rcases sub j hj with ⟨j', hj', e⟩ | e
        · rw [e]; exact hb.disj k j' hk hj'
        · rw [e]; exact hnew 0 (by omega) k hk
  have HF := hide fin
  have HR := hide hpush
  have o3 : w.cell? ⟨ob, 3, none⟩ = some (.int .i64 (s : Int)) := (ho.cell 3).trans (by rw [← hside]; rfl)
  clear fin hpush
  have e2 : s = 0 ∨ s = 1 := by omega
  rcases e2 with rfl | rfl
  all_goals
    go_enter Tryz.func118, Tryz.ntmps118
    go_wp2
    go_region_with (first | (go_at_call 150; refine (unhide HR _).mono ?_; rintro e w2 ⟨rfl, hw2⟩))
    all_goals
      go_wp2
      go_end0
      exact ⟨rfl, unhide HF _ _ hw2⟩

/-- what a function that takes back a Rest holds -/
structure RestB (w : World) (H bb b : Nat) (p : Int) : Prop where
  pair : PairB w H bb b
  place : Blk w (H + 2) #[.int .i64 p] 3

theorem RestB.kept {w w' : World} {H bb b : Nat} {p : Int} (h : RestB w H bb b p) {S : Nat → Prop} (k : Chg S w w') (h1 : ¬ S H) (h2 : ¬ S (H + 1)) (h3 : ¬ S (H + 2)) : RestB w' H bb b p := ⟨h.pair.kept k h1 h2, k.blk h.place h3⟩

theorem Blk.new2' (w : World) (o o2 : Obj) (c : Array Value) (t : TypeId) : Blk (((w.alloc o).alloc o2).alloc (.cells c t)) (w.heap.size + 2) c t := by
  have h := Blk.new ((w.alloc o).alloc o2) c t
  have e : ((w.alloc o).alloc o2).heap.size = w.heap.size + 2 := by simp
  rw [e] at h
  exact h

set_option maxHeartbeats 1000000 in
set_option maxRecDepth 100000 in
theorem rest_any (bb ob s : Nat) (B : Bk) (om : Nat → Ord) (ix : Int) (w : World) (hb : IsBook w bb B om) (ho : IsOrd w ob (om ob) ix) (hs : s < 2) (hside : (om ob).side = (s : Int)) (hnew : ∀ t, t < 2 → ∀ k, k < B.n t → B.h t k ≠ ob) (hn : B.n s < 1000) :
    Calls Tryz.prog 122 #[.pointer (some ⟨bb, 0, none⟩), .pointer (some ⟨ob, 0, none⟩)] w fun e w' => e = .returned (.func (.func 153) #[] #[.pointer (some ⟨w.heap.size, 0, none⟩), .pointer (some ⟨w.heap.size + 1, 0, none⟩), .pointer (some ⟨w.heap.size + 2, 0, none⟩)]) ∧ RestB w' w.heap.size bb ob (om ob).place ∧
      ∃ g cap', IsBook w' bb (B.rest (upd om ob { om ob with place := wrap64 (B.places + 1) }) s ob g cap') (upd om ob { om ob with place := wrap64 (B.places + 1) }) ∧ Chg (fun b => b = bb ∨ b = ob ∨ SdB B s b) w w' ∧ (adB (B.sl s) = some g ∨ w.heap.size ≤ g) := by
  have hne : ob ≠ bb := Blk.ne ho hb.blk (by decide)
  obtain ⟨om', hom'⟩ : ∃ om', om' = upd om ob { om ob with place := wrap64 (B.places + 1) } := ⟨_, rfl⟩
  rw [← hom']
  obtain ⟨w0, hw0⟩ : ∃ w0, w0 = (w.setCell ⟨bb, 3, none⟩ (.int .i64 (wrap64 (B.places + 1)))).setCell ⟨ob, 12, none⟩ (.int .i64 (wrap64 (B.places + 1))) := ⟨_, rfl⟩
  have k0 : Chg (fun b => b = bb ∨ b = ob) w w0 := by
    rw [hw0]
    exact ((Chg.refl (fun b => b = bb ∨ b = ob) w).setCell (p := ⟨bb, 3, none⟩) (.inl (.inl rfl)) _).setCell (p := ⟨ob, 12, none⟩) (.inl (.inr rfl)) _
  have hs0 : w0.heap.size = w.heap.size := by rw [hw0]; simp [World.setCell]
  have hb0 : Blk w0 bb (B.cells.setIfInBounds 3 (.int .i64 (wrap64 (B.places + 1)))) 158 := by rw [hw0]; exact (hb.blk.set 3 _).other (fun e => hne e.symm) _
  have ho0 : IsOrd w0 ob (om' ob) ix := by rw [hw0, hom', upd_same]; exact (ho.other hne _).set 12 _
  have hsd0 : ∀ t, t < 2 → SideV w0 (B.sl t) (B.n t) (B.cap t) (B.h t) om' := fun t ht => ((hb.side t ht).kept k0 (fun b h hx => by
      rcases hx with rfl | rfl
      · exact hb.bbout ht h
      · rcases h with h | ⟨k, hk, e⟩
        · exact (hb.side t ht).ne ho (by decide) h
        · exact hnew t ht k hk e.symm)).om (fun k hk => by rw [hom', upd_other _ _ (hnew t ht k hk)])
  have hbk0 : IsBook w0 bb { B with places := wrap64 (B.places + 1) } om' := ⟨hb0, hsd0, hb.apart, hb.disj⟩
  obtain ⟨w1, hw1⟩ : ∃ w1, w1 = (((w0.alloc (.cells #[.pointer (some ⟨bb, 0, none⟩)] 111)).alloc (.cells #[.pointer (some ⟨ob, 0, none⟩)] 114)).alloc (.cells #[.int .i64 (om ob).place] 3)).drew := ⟨_, rfl⟩
  have k1 : Chg Non w0 w1 := by rw [hw1]; exact ((((Chg.refl Non w0).alloc _).alloc _).alloc _).drew
  have pa : RestB w1 w.heap.size bb ob (om ob).place := by
    rw [hw1, ← hs0]
    exact ⟨⟨((Blk.new w0 _ _).alloc _).alloc _, (Blk.new1 w0 _ _ _).alloc _⟩, Blk.new2' w0 _ _ _ _⟩
  have hpush := bpush_any bb ob s { B with places := wrap64 (B.places + 1) } om' ix w1 (hbk0.kept k1 (fun _ _ x => x)) (k1.blk ho0 (fun x => x)) hs (by rw [hom', upd_same]; exact hside) hnew hn
  have lb := hb.blk.lt
  have lo := ho.lt
  have sdl : ∀ b, SdB B s b → b < w.heap.size := fun b h => hb.sd_lt hs h
  have HFin : Hid (∀ w', (∃ g cap', IsBook w' bb (Bk.push { B with places := wrap64 (B.places + 1) } om' s ob g cap') om' ∧ Chg (fun b => b = bb ∨ b = ob ∨ SdB { B with places := wrap64 (B.places + 1) } s b) w1 w' ∧ (adB (B.sl s) = some g ∨ w1.heap.size ≤ g)) →
      RestB w' w.heap.size bb ob (om ob).place ∧ ∃ g cap', IsBook w' bb (B.rest om' s ob g cap') om' ∧ Chg (fun b => b = bb ∨ b = ob ∨ SdB B s b) w w' ∧ (adB (B.sl s) = some g ∨ w.heap.size ≤ g)) := by
    rintro w' ⟨g, cap', h1, h2, h3⟩
    have out : ∀ b, w.heap.size ≤ b → ¬ (b = bb ∨ b = ob ∨ SdB B s b) := by
      rintro b h (e | e | e)
      · omega
      · omega
      · have := sdl b e; omega
    refine ⟨pa.kept (S := fun b => b = bb ∨ b = ob ∨ SdB B s b) h2 (out _ (Nat.le_refl _)) (out _ (by omega)) (out _ (by omega)), g, cap', h1, ((k0.mono (fun b hb => by rcases hb with h | h; exact .inl h; exact .inr (.inl h))).trans k1.of_non).trans h2, h3.imp_right (fun h => ?_)⟩
    have := k1.size
    omega
  have HR := hide hpush
  have HW : Hid (w1 = (((((w.setCell ⟨bb, 3, none⟩ (.int .i64 (wrap64 (B.places + 1)))).setCell ⟨ob, 12, none⟩ (.int .i64 (wrap64 (B.places + 1)))).alloc (.cells #[.pointer (some ⟨bb, 0, none⟩)] 111)).alloc (.cells #[.pointer (some ⟨ob, 0, none⟩)] 114)).alloc (.cells #[.int .i64 (om ob).place] 3)).drew) := by
    show _ = _
    rw [hw1, hw0]
  have c3 : w.cell? ⟨bb, 3, none⟩ = some (.int .i64 B.places) := hb.blk.cell 3
  have f3 := hb.blk.frozen 3
  have o12 : w.cell? ⟨ob, 12, none⟩ = some (.int .i64 (om ob).place) := ho.cell 12
  have fo := ho.frozen 12
  have y0 : w1.cell? ⟨w.heap.size, 0, none⟩ = some (.pointer (some ⟨bb, 0, none⟩)) := pa.pair.book.cell 0
  have y1 : w1.cell? ⟨w.heap.size + 1, 0, none⟩ = some (.pointer (some ⟨ob, 0, none⟩)) := pa.pair.ord.cell 0
  have lb1 : bb < w.heap.size + 1 := by omega
  have lb2 : bb < w.heap.size + 1 + 1 := by omega
  have lo1 : ob < w.heap.size + 1 := by omega
  have lo2 : ob < w.heap.size + 1 + 1 := by omega
  have ls2 : w.heap.size < w.heap.size + 1 + 1 := by omega
  have nb1 : ¬ w.heap.size = bb := by omega
  have nb2 : ¬ w.heap.size + 1 = bb := by omega
  clear hpush hsd0 ho0 hb0 k0 hom' hw1 hw0 hbk0 sdl hs0 k1 pa
  go_enter Tryz.func122, Tryz.ntmps122
  go_wp2
  go_region
  rw [← unhide HW]
  clear c3 f3 o12 fo
  go_wp2_with fail
  refine (unhide HR).mono ?_
  rintro e w2 ⟨rfl, hw2⟩
  have hf := unhide HFin w2 hw2
  have HF := hide hf
  clear hf hw2
  go_wp2
  go_ret
  exact ⟨rfl, unhide HF⟩

end Go.Proofs.YtigaphnafnpfnaaGreatDoor

