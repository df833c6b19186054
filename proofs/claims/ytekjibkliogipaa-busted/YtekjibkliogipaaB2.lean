import Derived.Test.YtekjibkliogipaaB1
set_option linter.unusedVariables false
set_option linter.unusedSimpArgs false
namespace Go.Proofs.Ytekjibkliogipaa
open Go.RowKit
attribute [local go_sem ↓] Go.wp_at_zero Go.wp_at_succ

def upd {α : Type} (f : Nat → α) (s : Nat) (v : α) : Nat → α := fun t => if t = s then v else f t
theorem upd_same {α : Type} (f : Nat → α) (s : Nat) (v : α) : upd f s v s = v := by simp [upd]
theorem upd_other {α : Type} (f : Nat → α) {s t : Nat} (v : α) (h : t ≠ s) : upd f s v t = f t := by simp [upd, h]

theorem Ord.c0 (o : Ord) (ix : Int) : (o.cells ix).setIfInBounds 13 (.int .i64 ix) = o.cells ix := rfl

set_option maxHeartbeats 400000 in
theorem fill_any (b : Nat) (o : Ord) (ix q : Int) (w : World) (ho : IsOrd w b o ix) :
    Calls Try.prog 68 #[.pointer (some ⟨b, 0, none⟩), .int .i64 q] w fun e w' => e = .returned (.tuple #[]) ∧ IsOrd w' b { o with opn := wrap64 (o.opn - q), filled := wrap64 (o.filled + q) } ix ∧ Chg (fun x => x = b) w w' := by
  have h8 : w.cell? ⟨b, 8, none⟩ = some (.int .i64 o.opn) := ho.cell 8
  have h9 : w.cell? ⟨b, 9, none⟩ = some (.int .i64 o.filled) := ho.cell 9
  have f8 := ho.frozen 8
  have f9 := ho.frozen 9
  go_enter Try.func68, Try.ntmps68
  go_wp2
  go_end0
  exact ⟨rfl, (ho.set 8 _).set 9 _, ((Chg.refl (fun x => x = b) w).setCell (p := ⟨b, 8, none⟩) (.inl rfl) _).setCell (p := ⟨b, 9, none⟩) (.inl rfl) _⟩

set_option maxHeartbeats 400000 in
theorem cancelOpen_any (b : Nat) (o : Ord) (ix : Int) (w : World) (ho : IsOrd w b o ix) :
    Calls Try.prog 42 #[.pointer (some ⟨b, 0, none⟩)] w fun e w' => e = .returned (.tuple #[]) ∧ IsOrd w' b { o with opn := 0, canc := wrap64 (o.canc + o.opn) } ix ∧ Chg (fun x => x = b) w w' := by
  have h8 : w.cell? ⟨b, 8, none⟩ = some (.int .i64 o.opn) := ho.cell 8
  have h10 : w.cell? ⟨b, 10, none⟩ = some (.int .i64 o.canc) := ho.cell 10
  have f8 := ho.frozen 8
  have f10 := ho.frozen 10
  go_enter Try.func42, Try.ntmps42
  go_wp2
  go_region
  go_wp2
  go_end0
  refine ⟨rfl, ?_, ?_⟩
  · have := (ho.set 10 (.int .i64 (wrap64 (o.canc + o.opn)))).set 8 (.int .i64 0)
    exact this
  · exact (((Chg.refl (fun x => x = b) w).setCell (p := ⟨b, 10, none⟩) (.inl rfl) _).setCell (p := ⟨b, 8, none⟩) (.inl rfl) _).drew

def restsB (kind : Int) : Bool := kind == 0 || kind == 1 || kind == 4

set_option maxHeartbeats 400000 in
theorem rests_any (b : Nat) (o : Ord) (ix : Int) (w : World) (ho : IsOrd w b o ix) :
    Calls Try.prog 51 #[.pointer (some ⟨b, 0, none⟩)] w fun e w' => e = .returned (.bool (restsB o.kind)) ∧ w' = w := by
  have h4 : w.cell? ⟨b, 4, none⟩ = some (.int .i64 o.kind) := ho.cell 4
  by_cases h0 : o.kind = 0
  · have e0 : (o.kind == 0) = true := by simp [h0]
    have HR : Hid (restsB o.kind = true) := by show _ = _; simp [restsB, h0]
    clear h0
    go_enter Try.func51, Try.ntmps51
    go_wp2
    go_ret
    exact ⟨by rw [HR.out]; rfl, rfl⟩
  · have e0 : (o.kind == 0) = false := by simp [h0]
    by_cases h1 : o.kind = 1
    · have e1 : (o.kind == 1) = true := by simp [h1]
      have HR : Hid (restsB o.kind = true) := by show _ = _; simp [restsB, h1]
      clear h0 h1
      go_enter Try.func51, Try.ntmps51
      go_wp2
      go_ret
      exact ⟨by rw [HR.out]; rfl, rfl⟩
    · have e1 : (o.kind == 1) = false := by simp [h1]
      by_cases h2 : o.kind = 4
      · have e2 : (o.kind == 4) = true := by simp [h2]
        have HR : Hid (restsB o.kind = true) := by show _ = _; simp [restsB, h2]
        clear h0 h1 h2
        go_enter Try.func51, Try.ntmps51
        go_wp2
        go_ret
        exact ⟨by rw [HR.out]; rfl, rfl⟩
      · have e2 : (o.kind == 4) = false := by simp [h2]
        have HR : Hid (restsB o.kind = false) := by show _ = _; simp [restsB, h0, h1, h2]
        clear h0 h1 h2
        go_enter Try.func51, Try.ntmps51
        go_wp2
        go_ret
        exact ⟨by rw [HR.out]; rfl, rfl⟩

def Bk.leave (B : Bk) (om : Nat → Ord) (s i : Nat) : Bk := { B with n := upd B.n s (B.n s - 1), h := upd B.h s (removeF (ltB om) (B.h s) (B.n s - 1) i) }

theorem Bk.leave_cells (B : Bk) (om : Nat → Ord) (s i : Nat) (hs : s < 2) : (B.leave om s i).cells = B.cells.setIfInBounds (1 + s) (.slice (B.sl s) (B.n s - 1) (B.cap s)) := by
  have : s = 0 ∨ s = 1 := by omega
  rcases this with rfl | rfl <;> rfl

/-- the blocks of a side -/
def SdB (B : Bk) (s : Nat) : Nat → Prop := fun b => adB (B.sl s) = some b ∨ ∃ k, k < B.n s ∧ b = B.h s k

theorem IsBook.far {w : World} {bb : Nat} {B : Bk} {om : Nat → Ord} (hb : IsBook w bb B om) {s t : Nat} (hs : s < 2) (ht : t < 2) (hne : s ≠ t) {b : Nat} (h : SdB B s b) : ¬ SdB B t b := by
  have key : ∀ b, SdB B 0 b → ¬ SdB B 1 b := by
    rintro b (h | ⟨k, hk, rfl⟩) (h' | ⟨j, hj, e⟩)
    · exact hb.apart b h h'
    · subst e; exact (hb.side 0 (by omega)).ne ((hb.side 1 (by omega)).ords hj) (by decide) h
    · exact (hb.side 1 (by omega)).ne ((hb.side 0 (by omega)).ords hk) (by decide) h'
    · exact hb.disj k j hk hj e
  have h2 : (s = 0 ∧ t = 1) ∨ (s = 1 ∧ t = 0) := by omega
  rcases h2 with ⟨rfl, rfl⟩ | ⟨rfl, rfl⟩
  · exact key b h
  · exact fun h' => key b h' h

theorem IsBook.bbout {w : World} {bb : Nat} {B : Bk} {om : Nat → Ord} (hb : IsBook w bb B om) {s : Nat} (hs : s < 2) : ¬ SdB B s bb := by
  rintro (h | ⟨k, hk, e⟩)
  · exact (hb.side s hs).ne hb.blk (by decide) h
  · subst e; exact Blk.ne hb.blk ((hb.side s hs).ords hk) (by decide) rfl

set_option maxHeartbeats 1000000 in
set_option maxRecDepth 100000 in
theorem leave_any (bb : Nat) (B : Bk) (om : Nat → Ord) (s i : Nat) (w : World) (hb : IsBook w bb B om) (hs : s < 2) (hi : i < B.n s) (hside : (om (B.h s i)).side = (s : Int)) :
    Calls Try.prog 41 #[.pointer (some ⟨bb, 0, none⟩), .pointer (some ⟨B.h s i, 0, none⟩)] w fun e w' => e = .returned (.tuple #[]) ∧
      IsBook w' bb (B.leave om s i) om ∧ (∃ ix, IsOrd w' (B.h s i) (om (B.h s i)) ix) ∧ Chg (fun b => b = bb ∨ SdB B s b) w w' := by
  have hsd := hb.side s hs
  rcases hsd with ⟨_, h0, _⟩ | ⟨ab, hab, hsd⟩
  · omega
  obtain ⟨n, hn⟩ : ∃ n, B.n s = n + 1 := ⟨B.n s - 1, by omega⟩
  rw [hn] at hsd hi
  have hord := hsd.ord i hi
  have c3 : w.cell? ⟨B.h s i, 3, none⟩ = some (.int .i64 (s : Int)) := (hord.cell 3).trans (by rw [← hside]; rfl)
  have c13 : w.cell? ⟨B.h s i, 13, none⟩ = some (.int .i64 (i : Int)) := hord.cell 13
  have hso : B.cells[1 + s]? = some (.slice (some ⟨ab, 0, none⟩) (n + 1) (B.cap s)) := by rw [B.cells_side hs, hab, hn]
  have hrem := fun q => remove_any bb (1 + s) ab n (B.cap s) i B.cells (B.h s) om (w.drewN q) (hb.blk.drewN q) hso (hsd.kept ((Chg.refl Non w).drewN q) (fun _ _ x => x)) (by omega)
  have fin : ∀ (q : Nat) (w' : World), (Blk w' bb (B.cells.setIfInBounds (1 + s) (.slice (some ⟨ab, 0, none⟩) n (B.cap s))) 87 ∧ Side w' ab (B.cap s) n (removeF (ltB om) (B.h s) n i) om ∧ IsOrd w' (B.h s i) (om (B.h s i)) n ∧ Chg (fun b => b = bb ∨ Sd ab (n + 1) (B.h s) b) (w.drewN q) w') →
      IsBook w' bb (B.leave om s i) om ∧ (∃ ix, IsOrd w' (B.h s i) (om (B.h s i)) ix) ∧ Chg (fun b => b = bb ∨ SdB B s b) w w' := by
    rintro q w' ⟨h1, h2, h3, h4⟩
    have h5 : Chg (fun b => b = bb ∨ SdB B s b) w w' := Chg.trans ((Chg.refl _ w).drewN q) (h4.mono (fun b hb => by
      rcases hb with hb | hb
      · exact .inl hb
      · refine .inr ?_
        rcases hb with rfl | ⟨k, hk, rfl⟩
        · exact .inl (adB_some hab)
        · exact .inr ⟨k, by omega, rfl⟩))
    refine ⟨⟨?_, ?_, hb.apart, ?_⟩, ⟨n, h3⟩, h5⟩
    · rw [B.leave_cells om s i hs, hn, hab]; exact h1
    · intro t ht
      by_cases e : t = s
      · subst e
        refine .inr ⟨ab, hab, ?_⟩
        show Side w' ab (B.cap t) (upd B.n t (B.n t - 1) t) (upd B.h t _ t) om
        rw [upd_same, upd_same, hn]
        exact h2
      · show SideV w' (B.sl t) (upd B.n s (B.n s - 1) t) (B.cap t) (upd B.h s _ t) om
        rw [upd_other _ _ e, upd_other _ _ e]
        refine (hb.side t ht).kept h5 (fun b hb' hx => ?_)
        rcases hx with rfl | hx
        · exact hb.bbout ht hb'
        · exact hb.far hs ht (fun h => e h.symm) hx hb'
    · have sub : ∀ k, k < n → Mem (n + 1) (B.h s) (removeF (ltB om) (B.h s) n i k) := fun k hk => (mem_removeN (lt := ltB om) (B.h s) i (by omega) _).1 ⟨k, by omega, rfl⟩
      have h2' : s = 0 ∨ s = 1 := by omega
      intro k j hk hj
      rcases h2' with rfl | rfl
      · simp only [Bk.leave, upd_same, upd_other _ _ (show (1 : Nat) ≠ 0 by omega), hn, Nat.add_sub_cancel] at hk hj ⊢
        obtain ⟨k', hk', e⟩ := sub k hk
        rw [e]
        exact hb.disj k' j (by omega) hj
      · simp only [Bk.leave, upd_same, upd_other _ _ (show (0 : Nat) ≠ 1 by omega), hn, Nat.add_sub_cancel] at hk hj ⊢
        obtain ⟨j', hj', e⟩ := sub j hj
        rw [e]
        exact hb.disj k j' hk (by omega)
  have HF := hide fin
  have HR := hide hrem
  clear fin hrem
  have e2 : s = 0 ∨ s = 1 := by omega
  rcases e2 with rfl | rfl
  all_goals
    go_enter Try.func41, Try.ntmps41
    go_wp2
    go_region_with (first | (go_at_call 58; refine (unhide HR _).mono ?_; rintro e w1 ⟨rfl, hw1⟩))
    all_goals
      go_wp2
      go_end0
      exact ⟨rfl, unhide HF _ _ hw1⟩

end Go.Proofs.Ytekjibkliogipaa
