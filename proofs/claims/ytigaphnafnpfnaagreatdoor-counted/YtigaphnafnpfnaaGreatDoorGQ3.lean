import Derived.Test.YtigaphnafnpfnaaGreatDoorGQ2
import Derived.Test.YtigaphnafnpfnaaGreatDoorGP9
import Derived.Test.YtigaphnafnpfnaaGreatDoorGO3
import Derived.Deep.QuietTactic
import Derived.BigQuiet
/- Counted: the loop -/
set_option linter.unusedVariables false
set_option linter.unusedSimpArgs false
namespace Go.Proofs.YtigaphnafnpfnaaGreatDoor
open Go.RowKit Go.Maps
attribute [local go_sem ↓] Go.wp_at_zero Go.wp_at_succ

theorem belowN {B : Nat} {w w' : World} (h : Below B w w') (n : Nat) : Below B w (w'.drewN n) := ⟨h.os, h.tape, h.output, h.size, h.block⟩

theorem GV.start (b1 b2 : Nat) (lmv : Lm) : GV (VG b1 b2 lmv) 0 9 := by
  have hno : ∀ x, ¬ VL (VG b1 b2 lmv) x := by
    rintro x ⟨id, h⟩
    exact absurd h (by simp [VG, Ven.list, ven0])
  have hB : ∀ i, i < 2 → (VG b1 b2 lmv).B i = newBk (symN i) := by
    intro i hi
    have : i = 0 ∨ i = 1 := by omega
    rcases this with rfl | rfl <;> rfl
  refine ⟨rfl, fun i hi => ?_, fun id => ⟨?_, fun h => by omega⟩, rfl, fun x hx => absurd hx (hno x), fun x hx => absurd hx (hno x), fun x hx => absurd hx (hno x)⟩
  · rw [hB i hi]
    refine ⟨rfl, fun s hs x => ⟨?_, fun h => absurd h.1 (hno x)⟩, fun s hs k _ hk => absurd hk (Nat.not_lt_zero k), fun s hs a b ha => absurd ha (Nat.not_lt_zero a), ?_⟩
    · rintro ⟨k, hk, _⟩; exact absurd hk (Nat.not_lt_zero k)
    · rintro x y ⟨k, hk, _⟩; exact absurd hk (Nat.not_lt_zero k)
  · rintro ⟨x, hx⟩
    exact absurd ⟨id, hx⟩ (hno x)

theorem LenOK.start (b1 b2 : Nat) (lmv : Lm) : LenOK (VG b1 b2 lmv) 2 := ⟨by simp [VG], by simp [VG], fun x hx => by simp [VG] at hx, by simp [VG]⟩

/-- what holds at the head of the loop -/
def CLoop (D : Nat) (ao : Option Addr) (len cap : Nat) (zs : Nat → Int) (w0 : World) (P bv bm bo i : Nat) (w : World) : Prop :=
  ∃ V n acts, n ≤ i ∧ 0 ≤ acts ∧ acts ≤ 2 + (i : Int) ∧ Ply D ao len cap zs w0 P bv bm bo V n (2 + 101 * i) (9 + 9 * (i : Int)) acts w

theorem CLoop.keep {D : Nat} {ao : Option Addr} {len cap : Nat} {zs : Nat → Int} {w0 : World} {P bv bm bo i : Nat} {w w' : World} (h : CLoop D ao len cap zs w0 P bv bm bo i w) (k : Chg Non w w') : CLoop D ao len cap zs w0 P bv bm bo i w' := by
  obtain ⟨V, n, acts, h1, h2, h3, hp⟩ := h
  exact ⟨V, n, acts, h1, h2, h3, hp.keep k⟩

/-- a step and a count -/
theorem cstep {D : Nat} {ao : Option Addr} {len cap : Nat} {zs : Nat → Int} {w0 : World} {P bv bm bo i : Nat} {w : World} (h : CLoop D ao len cap zs w0 P bv bm bo i w) (hi : i < 60) :
    Calls Tryz.prog 15 #[.pointer (some ⟨P, 0, none⟩), .pointer (some ⟨D, 0, none⟩), .bool false] w fun e w' => e = .returned (.bool true) ∧ CLoop D ao len cap zs w0 P bv bm bo (i + 1) w' := by
  obtain ⟨V, n, acts, h1, h2, h3, hp⟩ := h
  refine (step_any D ao len cap zs w0 P bv bm bo V n _ _ acts w hp (order_ok D ao len cap zs _ P bv n (by omega)) (by omega) (by omega) (by omega) (by omega) h2 (by omega)).mono ?_
  rintro e w' ⟨rfl, V', n', acts', a, b, c, hp'⟩
  refine ⟨rfl, V', n', acts', by omega, b, by push_cast; omega, ?_⟩
  have e1 : 2 + 101 * i + 101 = 2 + 101 * (i + 1) := by omega
  have e2 : 9 + 9 * (i : Int) + 9 = 9 + 9 * ((i + 1 : Nat) : Int) := by push_cast; omega
  rw [e1, e2] at hp'
  exact hp'

theorem ccount {D : Nat} {ao : Option Addr} {len cap : Nat} {zs : Nat → Int} {w0 : World} {P bv bm bo i : Nat} {w : World} (h : CLoop D ao len cap zs w0 P bv bm bo i w) (hi : i ≤ 60) :
    Calls Tryz.prog 16 #[.pointer (some ⟨P, 0, none⟩)] w fun e w' => e = .returned (.bool true) ∧ CLoop D ao len cap zs w0 P bv bm bo i w' := by
  obtain ⟨V, n, acts, h1, h2, h3, hp⟩ := h
  refine (counted_any bv bm bo P n V _ acts w hp.rep hp.gv (by omega) (by omega) (hp.lens.mono (by omega)) hp.ply).mono ?_
  rintro e w' ⟨rfl, k⟩
  exact ⟨rfl, V, n, acts, h1, h2, h3, hp.keep k⟩

set_option maxHeartbeats 8000000 in
set_option maxRecDepth 100000 in
theorem counted_all (ao : Option Addr) (len cap : Nat) (zs : Nat → Int) (w : World) (hT : Tab w) (hcode : Code w ao len zs) (hold : 0 < len → ∀ a, ao = some a → a.block < w.heap.size) :
    Calls Tryz.prog 9 #[.slice ao len cap] w fun e w' => e = .returned (.bool true) ∧ Below w.heap.size w w' := by
  have HBg := hide (begun_any (w.alloc (.cells #[.slice ao len cap, .int .i64 0] 28)))
  have HC := hide hcode
  have HO := hide hold
  have HTb := hide hT
  clear hcode hold hT
  go_enter Tryz.func9, Tryz.ntmps9
  go_wp2_with fail
  refine (unhide HBg).mono ?_
  rintro e w1 ⟨P, bv, bm, bo, b1, b2, lmv, rfl, hP, R, k, hf, hp⟩
  have hs : (w.alloc (.cells #[.slice ao len cap, .int .i64 0] 28)).heap.size = w.heap.size + 1 := by simp
  have k0 : Chg Non w w1 := Chg.trans ((Chg.refl Non w).alloc _) k
  have hL : CLoop w.heap.size ao len cap zs w P bv bm bo 0 w1 := by
    refine ⟨_, 0, 2, Nat.le_refl _, by omega, by omega, R, GV.start b1 b2 lmv, LenOK.start b1 b2 lmv, hP, ⟨⟨0, Nat.zero_le _, k.blk (Blk.new w _ _) (fun x => x)⟩, (unhide HC).at k0 (fun _ _ _ x => x), unhide HO, Nat.le_refl _, (unhide HTb).kept0 k0, (unhide HTb).lt⟩, fun x hx => ?_, ?_, k0.below⟩
    · have := hf x hx; omega
    · omega
  have HL := hide hL
  clear hP R k hf hp hs k0 hL HBg
  go_wp2
  go_loopg [5, 6, 7] 60 (fun g iv _ _ wq => ∃ i : Nat, iv = .int .i64 (i : Int) ∧ i ≤ 60 ∧ g = 60 - i ∧ CLoop w.heap.size ao len cap zs w P bv bm bo i wq)
  case atStart => exact ⟨0, rfl, Nat.zero_le _, rfl, unhide HL⟩
  case round =>
    obtain ⟨i, rfl, hi, hgk, cl⟩ := hrel
    have hbel : Below w.heap.size w wr := by
      obtain ⟨V, n, acts, _, _, _, hp⟩ := cl
      exact hp.below
    have hdc : ∃ at_ : Nat, wr.cell? ⟨w.heap.size, 0, none⟩ = some (.slice ao len cap) ∧ wr.cell? ⟨w.heap.size, 1, none⟩ = some (.int .i64 (at_ : Int)) := by
      obtain ⟨V, n, acts, _, _, _, hp⟩ := cl
      obtain ⟨a, _, hb⟩ := hp.dc.dice
      exact ⟨a, hb.cell 0, hb.cell 1⟩
    obtain ⟨at_, d0, d1⟩ := hdc
    have HCl := hide cl
    have HBel := hide hbel
    clear cl hbel HL
    by_cases h60 : i < 60
    · have e1 : decide ((i : Int) < 60) = true := by simp; omega
      by_cases hat : at_ < len
      · have e2 : decide ((at_ : Int) < (len : Int)) = true := by simp; omega
        go_wp2
        go_quiet (fail)
        go_wp2_with fail
        refine (cstep ((unhide HCl).keep ((Chg.refl Non wr).drewN _)) h60).mono ?_
        rintro e w2 ⟨rfl, hl2⟩
        have HL2 := hide hl2
        clear hl2
        go_wp2_with fail
        refine (ccount (unhide HL2) (by omega)).mono ?_
        rintro e w3 ⟨rfl, hl3⟩
        have HL3 := hide hl3
        clear hl3
        go_wp2
        go_roundg (60 - (i + 1))
        case measure => omega
        case rel => exact ⟨i + 1, by push_cast; rfl, by omega, rfl, unhide HL3⟩
      · have e2 : decide ((at_ : Int) < (len : Int)) = false := by simp; omega
        go_wp2
        go_quiet (fail)
        go_wp2
        go_ret
        exact ⟨rfl, belowN (unhide HBel) _⟩
    · have e1 : decide ((i : Int) < 60) = false := by simp; omega
      go_wp2
      go_quiet (fail)
      go_wp2
      go_ret
      exact ⟨rfl, belowN (unhide HBel) _⟩

end Go.Proofs.YtigaphnafnpfnaaGreatDoor

