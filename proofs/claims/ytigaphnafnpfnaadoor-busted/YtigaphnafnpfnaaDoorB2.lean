import Derived.Test.YtigaphnafnpfnaaDoorB1
set_option linter.unusedVariables false
set_option linter.unusedSimpArgs false
namespace Go.Proofs.YtigaphnafnpfnaaDoor
open Go.RowKit
attribute [local go_sem ↓] Go.wp_at_zero Go.wp_at_succ

def upd {α : Type} (f : Nat → α) (s : Nat) (v : α) : Nat → α := fun t => if t = s then v else f t
theorem upd_same {α : Type} (f : Nat → α) (s : Nat) (v : α) : upd f s v s = v := by simp [upd]
theorem upd_other {α : Type} (f : Nat → α) {s t : Nat} (v : α) (h : t ≠ s) : upd f s v t = f t := by simp [upd, h]

theorem Ord.c0 (o : Ord) (ix : Int) : (o.cells ix).setIfInBounds 13 (.int .i64 ix) = o.cells ix := rfl

def ptrT (b : Nat) : Value := .pointer (some ⟨b, 0, none⟩)
def statC (o : Ord) : Array Value := #[.int .i64 o.id, .int .i64 o.owner, .string o.sym, .int .i64 o.side, .int .i64 o.kind, .int .i64 o.price, .int .i64 o.qty,
    .int .i64 o.entered, .int .i64 o.opn, .int .i64 o.filled, .int .i64 o.canc, .int .i64 o.exp]

theorem Blk.new1 (w : World) (o : Obj) (c : Array Value) (t : TypeId) : Blk ((w.alloc o).alloc (.cells c t)) (w.heap.size + 1) c t := by
  have h := Blk.new (w.alloc o) c t
  have e : (w.alloc o).heap.size = w.heap.size + 1 := by simp
  rw [e] at h
  exact h

/-- what a function that lets an order be as it was holds: the order, what it was -/
structure NowB (w : World) (H b : Nat) (o : Ord) : Prop where
  box : Blk w H #[.pointer (some ⟨b, 0, none⟩)] 68
  now : Blk w (H + 1) (statC o) 42

theorem NowB.kept {w w' : World} {H b : Nat} {o : Ord} (h : NowB w H b o) {S : Nat → Prop} (k : Chg S w w') (h1 : ¬ S H) (h2 : ¬ S (H + 1)) : NowB w' H b o := ⟨k.blk h.box h1, k.blk h.now h2⟩

set_option maxHeartbeats 400000 in
theorem asNow_any (b : Nat) (o : Ord) (ix : Int) (w : World) (ho : IsOrd w b o ix) :
    Calls Tryd.prog 59 #[.pointer (some ⟨b, 0, none⟩)] w fun e w' => e = .returned (.func (.func 66) #[] #[.pointer (some ⟨w.heap.size + 1, 0, none⟩), .pointer (some ⟨w.heap.size, 0, none⟩)]) ∧ NowB w' w.heap.size b o ∧ Chg Non w w' := by
  have c0 : w.cell? ⟨b, 0, none⟩ = some (.int .i64 o.id) := ho.cell 0
  have c1 : w.cell? ⟨b, 1, none⟩ = some (.int .i64 o.owner) := ho.cell 1
  have c2 : w.cell? ⟨b, 2, none⟩ = some (.string o.sym) := ho.cell 2
  have c3 : w.cell? ⟨b, 3, none⟩ = some (.int .i64 o.side) := ho.cell 3
  have c4 : w.cell? ⟨b, 4, none⟩ = some (.int .i64 o.kind) := ho.cell 4
  have c5 : w.cell? ⟨b, 5, none⟩ = some (.int .i64 o.price) := ho.cell 5
  have c6 : w.cell? ⟨b, 6, none⟩ = some (.int .i64 o.qty) := ho.cell 6
  have c7 : w.cell? ⟨b, 7, none⟩ = some (.int .i64 o.entered) := ho.cell 7
  have c8 : w.cell? ⟨b, 8, none⟩ = some (.int .i64 o.opn) := ho.cell 8
  have c9 : w.cell? ⟨b, 9, none⟩ = some (.int .i64 o.filled) := ho.cell 9
  have c10 : w.cell? ⟨b, 10, none⟩ = some (.int .i64 o.canc) := ho.cell 10
  have c11 : w.cell? ⟨b, 11, none⟩ = some (.int .i64 o.exp) := ho.cell 11
  have lo := ho.lt
  have hne : b ≠ w.heap.size := by omega
  go_enter Tryd.func59, Tryd.ntmps59
  go_wp2
  go_ret
  refine ⟨rfl, ⟨(Blk.new w _ _).alloc _, Blk.new1 w _ _ _⟩, ((Chg.refl Non w).alloc _).alloc _⟩

set_option maxHeartbeats 400000 in
theorem fill_any (b : Nat) (o : Ord) (ix q : Int) (w : World) (ho : IsOrd w b o ix) :
    Calls Tryd.prog 62 #[.pointer (some ⟨b, 0, none⟩), .int .i64 q] w fun e w' => e = .returned (.func (.func 66) #[] #[.pointer (some ⟨w.heap.size + 1, 0, none⟩), .pointer (some ⟨w.heap.size, 0, none⟩)]) ∧ NowB w' w.heap.size b o ∧ IsOrd w' b { o with opn := wrap64 (o.opn - q), filled := wrap64 (o.filled + q) } ix ∧ Chg (fun x => x = b) w w' := by
  have HA := hide (asNow_any b o ix w ho)
  have lo := ho.lt
  go_enter Tryd.func62, Tryd.ntmps62
  go_wp2_with fail
  refine (unhide HA).mono ?_
  rintro e w1 ⟨rfl, n1, k1⟩
  have ho1 := k1.blk ho (fun x => x)
  have h8 : w1.cell? ⟨b, 8, none⟩ = some (.int .i64 o.opn) := Blk.cell ho1 8
  have h9 : w1.cell? ⟨b, 9, none⟩ = some (.int .i64 o.filled) := Blk.cell ho1 9
  have f8 := Blk.frozen ho1 8
  have f9 := Blk.frozen ho1 9
  go_wp2
  go_ret
  have k2 := ((Chg.refl (fun x => x = b) w1).setCell (p := ⟨b, 8, none⟩) (.inl rfl) (.int .i64 (wrap64 (o.opn - q)))).setCell (p := ⟨b, 9, none⟩) (.inl rfl) (.int .i64 (wrap64 (o.filled + q)))
  exact ⟨rfl, n1.kept k2 (by omega) (by omega), (ho1.set 8 _).set 9 _, k1.of_non.trans k2⟩

set_option maxHeartbeats 400000 in
theorem cancelOpen_any (b : Nat) (o : Ord) (ix : Int) (w : World) (ho : IsOrd w b o ix) :
    Calls Tryd.prog 46 #[.pointer (some ⟨b, 0, none⟩)] w fun e w' => e = .returned (.func (.func 66) #[] #[.pointer (some ⟨w.heap.size + 1, 0, none⟩), .pointer (some ⟨w.heap.size, 0, none⟩)]) ∧ NowB w' w.heap.size b o ∧ IsOrd w' b { o with opn := 0, canc := wrap64 (o.canc + o.opn) } ix ∧ Chg (fun x => x = b) w w' := by
  have HA := hide (asNow_any b o ix w ho)
  have lo := ho.lt
  go_enter Tryd.func46, Tryd.ntmps46
  go_wp2_with fail
  refine (unhide HA).mono ?_
  rintro e w1 ⟨rfl, n1, k1⟩
  have ho1 := k1.blk ho (fun x => x)
  have h8 : w1.cell? ⟨b, 8, none⟩ = some (.int .i64 o.opn) := Blk.cell ho1 8
  have h10 : w1.cell? ⟨b, 10, none⟩ = some (.int .i64 o.canc) := Blk.cell ho1 10
  have f8 := Blk.frozen ho1 8
  have f10 := Blk.frozen ho1 10
  go_wp2
  go_region
  go_wp2
  go_ret
  have k2 := (((Chg.refl (fun x => x = b) w1).setCell (p := ⟨b, 10, none⟩) (.inl rfl) (.int .i64 (wrap64 (o.canc + o.opn)))).setCell (p := ⟨b, 8, none⟩) (.inl rfl) (.int .i64 0)).drew
  refine ⟨rfl, n1.kept k2 (by omega) (by omega), ?_, k1.of_non.trans k2⟩
  have := (ho1.set 10 (.int .i64 (wrap64 (o.canc + o.opn)))).set 8 (.int .i64 0)
  exact this

def restsB (kind : Int) : Bool := kind == 0 || kind == 1 || kind == 4

set_option maxHeartbeats 400000 in
theorem rests_any (b : Nat) (o : Ord) (ix : Int) (w : World) (ho : IsOrd w b o ix) :
    Calls Tryd.prog 44 #[.pointer (some ⟨b, 0, none⟩)] w fun e w' => e = .returned (.bool (restsB o.kind)) ∧ w' = w := by
  have h4 : w.cell? ⟨b, 4, none⟩ = some (.int .i64 o.kind) := ho.cell 4
  by_cases h0 : o.kind = 0
  · have e0 : (o.kind == 0) = true := by simp [h0]
    have HR : Hid (restsB o.kind = true) := by show _ = _; simp [restsB, h0]
    clear h0
    go_enter Tryd.func44, Tryd.ntmps44
    go_wp2
    go_ret
    exact ⟨by rw [HR.out]; rfl, rfl⟩
  · have e0 : (o.kind == 0) = false := by simp [h0]
    by_cases h1 : o.kind = 1
    · have e1 : (o.kind == 1) = true := by simp [h1]
      have HR : Hid (restsB o.kind = true) := by show _ = _; simp [restsB, h1]
      clear h0 h1
      go_enter Tryd.func44, Tryd.ntmps44
      go_wp2
      go_ret
      exact ⟨by rw [HR.out]; rfl, rfl⟩
    · have e1 : (o.kind == 1) = false := by simp [h1]
      by_cases h2 : o.kind = 4
      · have e2 : (o.kind == 4) = true := by simp [h2]
        have HR : Hid (restsB o.kind = true) := by show _ = _; simp [restsB, h2]
        clear h0 h1 h2
        go_enter Tryd.func44, Tryd.ntmps44
        go_wp2
        go_ret
        exact ⟨by rw [HR.out]; rfl, rfl⟩
      · have e2 : (o.kind == 4) = false := by simp [h2]
        have HR : Hid (restsB o.kind = false) := by show _ = _; simp [restsB, h0, h1, h2]
        clear h0 h1 h2
        go_enter Tryd.func44, Tryd.ntmps44
        go_wp2
        go_ret
        exact ⟨by rw [HR.out]; rfl, rfl⟩

def Bk.leave (B : Bk) (om : Nat → Ord) (s i : Nat) : Bk := { B with n := upd B.n s (B.n s - 1), h := upd B.h s (removeF (ltB om) (B.h s) (B.n s - 1) i) }

theorem Bk.leave_cells (B : Bk) (om : Nat → Ord) (s i : Nat) (hs : s < 2) : (B.leave om s i).cells = B.cells.setIfInBounds (1 + s) (.slice (B.sl s) (B.n s - 1) (B.cap s)) := by
  have : s = 0 ∨ s = 1 := by omega
  rcases this with rfl | rfl <;> rfl

/-- the blocks of a side -/
def SdB (B : Bk) (s : Nat) : Nat → Prop := fun b => adB (B.sl s) = some b ∨ ∃ k, k < B.n s ∧ b = B.h s k

theorem IsBook.far {w : World} {bb : Nat} {B : Bk} {om : Nat → Ord} (hb : IsBook w bb B om) {s t : Nat} (hs : s < 2) (ht : t < 2) (hne : s ≠ t) {b : Nat} (h : SdB B s b) : ¬ SdB B t b := by
  have key : ∀ b, SdB B 0 b → ¬ SdB B 1 b := by
    rintro b (h | ⟨k, hk, rfl⟩) (h' | ⟨j, hj, e⟩)
    · exact hb.apart b h h'
    · subst e; exact (hb.side 0 (by omega)).ne ((hb.side 1 (by omega)).ords hj) (by decide) h
    · exact (hb.side 1 (by omega)).ne ((hb.side 0 (by omega)).ords hk) (by decide) h'
    · exact hb.disj k j hk hj e
  have h2 : (s = 0 ∧ t = 1) ∨ (s = 1 ∧ t = 0) := by omega
  rcases h2 with ⟨rfl, rfl⟩ | ⟨rfl, rfl⟩
  · exact key b h
  · exact fun h' => key b h' h

theorem IsBook.bbout {w : World} {bb : Nat} {B : Bk} {om : Nat → Ord} (hb : IsBook w bb B om) {s : Nat} (hs : s < 2) : ¬ SdB B s bb := by
  rintro (h | ⟨k, hk, e⟩)
  · exact (hb.side s hs).ne hb.blk (by decide) h
  · subst e; exact Blk.ne hb.blk ((hb.side s hs).ords hk) (by decide) rfl

set_option maxHeartbeats 1000000 in
set_option maxRecDepth 100000 in
theorem bremove_any (bb : Nat) (B : Bk) (om : Nat → Ord) (s i : Nat) (w : World) (hb : IsBook w bb B om) (hs : s < 2) (hi : i < B.n s) (hside : (om (B.h s i)).side = (s : Int)) :
    Calls Tryd.prog 58 #[.pointer (some ⟨bb, 0, none⟩), .pointer (some ⟨B.h s i, 0, none⟩)] w fun e w' => e = .returned (.tuple #[]) ∧
      IsBook w' bb (B.leave om s i) om ∧ (∃ ix, IsOrd w' (B.h s i) (om (B.h s i)) ix) ∧ Chg (fun b => b = bb ∨ SdB B s b) w w' := by
  have hsd := hb.side s hs
  rcases hsd with ⟨_, h0, _⟩ | ⟨ab, hab, hsd⟩
  · omega
  obtain ⟨n, hn⟩ : ∃ n, B.n s = n + 1 := ⟨B.n s - 1, by omega⟩
  rw [hn] at hsd hi
  have hord := hsd.ord i hi
  have c3 : w.cell? ⟨B.h s i, 3, none⟩ = some (.int .i64 (s : Int)) := (hord.cell 3).trans (by rw [← hside]; rfl)
  have c13 : w.cell? ⟨B.h s i, 13, none⟩ = some (.int .i64 (i : Int)) := hord.cell 13
  have hso : B.cells[1 + s]? = some (.slice (some ⟨ab, 0, none⟩) (n + 1) (B.cap s)) := by rw [B.cells_side hs, hab, hn]
  have hrem := fun q => remove_any bb (1 + s) ab n (B.cap s) i B.cells (B.h s) om (w.drewN q) (hb.blk.drewN q) hso (hsd.kept ((Chg.refl Non w).drewN q) (fun _ _ x => x)) (by omega)
  have fin : ∀ (q : Nat) (w' : World), (Blk w' bb (B.cells.setIfInBounds (1 + s) (.slice (some ⟨ab, 0, none⟩) n (B.cap s))) 67 ∧ Side w' ab (B.cap s) n (removeF (ltB om) (B.h s) n i) om ∧ IsOrd w' (B.h s i) (om (B.h s i)) n ∧ Chg (fun b => b = bb ∨ Sd ab (n + 1) (B.h s) b) (w.drewN q) w') →
      IsBook w' bb (B.leave om s i) om ∧ (∃ ix, IsOrd w' (B.h s i) (om (B.h s i)) ix) ∧ Chg (fun b => b = bb ∨ SdB B s b) w w' := by
    rintro q w' ⟨h1, h2, h3, h4⟩
    have h5 : Chg (fun b => b = bb ∨ SdB B s b) w w' := Chg.trans ((Chg.refl _ w).drewN q) (h4.mono (fun b hb => by
      rcases hb with hb | hb
      · exact .inl hb
      · refine .inr ?_
        rcases hb with rfl | ⟨k, hk, rfl⟩
        · exact .inl (adB_some hab)
        · exact .inr ⟨k, by omega, rfl⟩))
    refine ⟨⟨?_, ?_, hb.apart, ?_⟩, ⟨n, h3⟩, h5⟩
    · rw [B.leave_cells om s i hs, hn, hab]; exact h1
    · intro t ht
      by_cases e : t = s
      · subst e
        refine .inr ⟨ab, hab, ?_⟩
        show Side w' ab (B.cap t) (upd B.n t (B.n t - 1) t) (upd B.h t _ t) om
        rw [upd_same, upd_same, hn]
        exact h2
      · show SideV w' (B.sl t) (upd B.n s (B.n s - 1) t) (B.cap t) (upd B.h s _ t) om
        rw [upd_other _ _ e, upd_other _ _ e]
        refine (hb.side t ht).kept h5 (fun b hb' hx => ?_)
        rcases hx with rfl | hx
        · exact hb.bbout ht hb'
        · exact hb.far hs ht (fun h => e h.symm) hx hb'
    · have sub : ∀ k, k < n → Mem (n + 1) (B.h s) (removeF (ltB om) (B.h s) n i k) := fun k hk => (mem_removeN (lt := ltB om) (B.h s) i (by omega) _).1 ⟨k, by omega, rfl⟩
      have h2' : s = 0 ∨ s = 1 := by omega
      intro k j hk hj
      rcases h2' with rfl | rfl
      · simp only [Bk.leave, upd_same, upd_other _ _ (show (1 : Nat) ≠ 0 by omega), hn, Nat.add_sub_cancel] at hk hj ⊢
        obtain ⟨k', hk', e⟩ := sub k hk
        rw [e]
        exact hb.disj k' j (by omega) hj
      · simp only [Bk.leave, upd_same, upd_other _ _ (show (0 : Nat) ≠ 1 by omega), hn, Nat.add_sub_cancel] at hk hj ⊢
        obtain ⟨j', hj', e⟩ := sub j hj
        rw [e]
        exact hb.disj k j' hk (by omega)
  have HF := hide fin
  have HR := hide hrem
  clear fin hrem
  have e2 : s = 0 ∨ s = 1 := by omega
  rcases e2 with rfl | rfl
  all_goals
    go_enter Tryd.func58, Tryd.ntmps58
    go_wp2
    go_region_with (first | (go_at_call 65; refine (unhide HR _).mono ?_; rintro e w1 ⟨rfl, hw1⟩))
    all_goals
      go_wp2
      go_end0
      exact ⟨rfl, unhide HF _ _ hw1⟩

/-- what a function that takes an order back, or lets it stand again, holds: the book, the order -/
structure PairB (w : World) (H bb b : Nat) : Prop where
  book : Blk w H #[.pointer (some ⟨bb, 0, none⟩)] 54
  ord : Blk w (H + 1) #[.pointer (some ⟨b, 0, none⟩)] 68

theorem PairB.kept {w w' : World} {H bb b : Nat} (h : PairB w H bb b) {S : Nat → Prop} (k : Chg S w w') (h1 : ¬ S H) (h2 : ¬ S (H + 1)) : PairB w' H bb b := ⟨k.blk h.book h1, k.blk h.ord h2⟩

theorem IsBook.sd_lt {w : World} {bb : Nat} {B : Bk} {om : Nat → Ord} (hb : IsBook w bb B om) {s : Nat} (hs : s < 2) {b : Nat} (h : SdB B s b) : b < w.heap.size := by
  rcases h with h | ⟨k, hk, rfl⟩
  · exact (hb.side s hs).lt h
  · exact ((hb.side s hs).ords hk).lt

set_option maxHeartbeats 1000000 in
theorem leave_any (bb : Nat) (B : Bk) (om : Nat → Ord) (s i : Nat) (w : World) (hb : IsBook w bb B om) (hs : s < 2) (hi : i < B.n s) (hside : (om (B.h s i)).side = (s : Int)) :
    Calls Tryd.prog 49 #[.pointer (some ⟨bb, 0, none⟩), .pointer (some ⟨B.h s i, 0, none⟩)] w fun e w' => e = .returned (.func (.func 60) #[] #[.pointer (some ⟨w.heap.size, 0, none⟩), .pointer (some ⟨w.heap.size + 1, 0, none⟩)]) ∧ PairB w' w.heap.size bb (B.h s i) ∧
      IsBook w' bb (B.leave om s i) om ∧ (∃ ix, IsOrd w' (B.h s i) (om (B.h s i)) ix) ∧ Chg (fun b => b = bb ∨ SdB B s b) w w' := by
  obtain ⟨w1, hw1⟩ : ∃ w1, w1 = (w.alloc (.cells #[.pointer (some ⟨bb, 0, none⟩)] 54)).alloc (.cells #[.pointer (some ⟨B.h s i, 0, none⟩)] 68) := ⟨_, rfl⟩
  have k1 : Chg Non w w1 := by rw [hw1]; exact ((Chg.refl Non w).alloc _).alloc _
  have p1 : PairB w1 w.heap.size bb (B.h s i) := by rw [hw1]; exact ⟨(Blk.new w _ _).alloc _, Blk.new1 w _ _ _⟩
  have hb1 := hb.kept k1 (fun _ _ x => x)
  have HR := hide (bremove_any bb B om s i w1 hb1 hs hi hside)
  have HW := hide hw1
  have x0 : w1.cell? ⟨w.heap.size, 0, none⟩ = some (.pointer (some ⟨bb, 0, none⟩)) := p1.book.cell 0
  have x1 : w1.cell? ⟨w.heap.size + 1, 0, none⟩ = some (.pointer (some ⟨B.h s i, 0, none⟩)) := p1.ord.cell 0
  have lb := hb.blk.lt
  have out : ∀ b, w.heap.size ≤ b → ¬ (b = bb ∨ SdB B s b) := by
    rintro b h (e | e)
    · omega
    · have := hb.sd_lt hs e; omega
  have HO := hide out
  clear hw1 out
  go_enter Tryd.func49, Tryd.ntmps49
  go_wp2_with fail
  rw [← unhide HW]
  refine (unhide HR).mono ?_
  rintro e w2 ⟨rfl, b2, o2, k2⟩
  go_wp2
  go_ret
  exact ⟨rfl, p1.kept k2 (unhide HO _ (Nat.le_refl _)) (unhide HO _ (by omega)), b2, o2, k1.of_non.trans k2⟩

end Go.Proofs.YtigaphnafnpfnaaDoor
