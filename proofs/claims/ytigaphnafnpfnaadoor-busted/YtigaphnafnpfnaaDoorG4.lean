/- Busted: the walk -/
import Derived.Test.YtigaphnafnpfnaaDoorG3
set_option linter.unusedVariables false
set_option linter.unusedSimpArgs false
namespace Go.Proofs.YtigaphnafnpfnaaDoor
open Go.RowKit Go.Maps Go.Lib
attribute [local go_sem ↓] Go.wp_at_zero Go.wp_at_succ

/-- a player and its venue, all of it new since w0 -/
structure Pl (w0 : World) (P bv bm bo : Nat) (V : Ven) (w : World) : Prop where
  rep : Rep w bv bm bo V
  ply : Blk w P #[.pointer (some ⟨bv, 0, none⟩), .int .i64 0, .int .i64 2] 36
  foot : ∀ x, Foot bv bm bo V x → w0.heap.size ≤ x
  below : Below w0.heap.size w0 w

theorem Pl.tab {w0 w : World} {P bv bm bo : Nat} {V : Ven} (h : Pl w0 P bv bm bo V w) (hT : Tab w0) : Tab w := hT.below h.below

theorem Pl.keep {w0 w w' : World} {P bv bm bo : Nat} {V : Ven} (h : Pl w0 P bv bm bo V w) (k : Chg Non w w') : Pl w0 P bv bm bo V w' :=
  ⟨h.rep.kept0 k, k.blk h.ply (fun x => x), h.foot, h.below.trans (k.belowOf (S := Non) h.below.size (fun _ x => x.elim))⟩

theorem Pl.turn {w0 w w' : World} {P bv bm bo : Nat} {V V' : Ven} (h : Pl w0 P bv bm bo V w) (R' : Rep w' bv bm bo V') (k : Chg (Foot bv bm bo V) w w') (f : ∀ x, Foot bv bm bo V' x → Foot bv bm bo V x ∨ w.heap.size ≤ x) : Pl w0 P bv bm bo V' w' :=
  ⟨R', k.blk h.ply (h.rep.foot h.ply (by decide) (by decide) (by decide) (by decide) (by decide) (by decide) (by decide)), fun x hx => (f x hx).elim (h.foot x) (fun h' => Nat.le_trans h.below.size h'), h.below.trans (k.belowOf h.below.size h.foot)⟩

theorem Pl.p0 {w0 w : World} {P bv bm bo : Nat} {V : Ven} (h : Pl w0 P bv bm bo V w) : w.cell? ⟨P, 0, none⟩ = some (.pointer (some ⟨bv, 0, none⟩)) := h.ply.cell 0

theorem BuE.put {V : Ven} {bv bm bo bx by' : Nat} {s b : Int} {again : Bool} {w : World} (R : Rep w bv bm bo V) (h : BuE V bx by' s b again) :
    Calls Tryd.prog 23 #[.pointer (some ⟨bv, 0, none⟩), .int .i64 1] w fun e w' => e = .returned (.tuple #[.pointer none, .int .i64 10]) ∧ Chg Non w w' := by
  obtain ⟨t, ht⟩ := h.tr
  obtain ⟨tb, htb⟩ : ∃ tb, V.lm.tb[0]? = some tb := by
    have hl := R.log.log.len
    rw [ht] at hl
    exact ⟨V.lm.tb[0]'(by rw [hl]; simp), List.getElem?_eq_getElem _⟩
  exact toPut_at bv bm bo 0 tb V.lg V.lm 1 ⟨t, false⟩ w R.log rfl (by rw [ht]; rfl) htb (by rw [ht]; simp)

theorem BuE.again {V : Ven} {bv bm bo bx by' : Nat} {s b : Int} {again : Bool} {w : World} (R : Rep w bv bm bo V) (h : BuE V bx by' s b again) :
    Calls Tryd.prog 10 #[.pointer (some ⟨bv, 0, none⟩), .int .i64 1, .bool again] w fun e w' => e = .returned (.int .i64 10) ∧ Chg Non w w' :=
  bust_err bv 1 10 again none w (by decide) (fun W k => h.put (R.kept0 k))

theorem BuE.other {V : Ven} {bv bm bo bx by' : Nat} {s b : Int} {again : Bool} {w : World} (R : Rep w bv bm bo V) (h : BuE V bx by' s b again) :
    Calls Tryd.prog 10 #[.pointer (some ⟨bv, 0, none⟩), .int .i64 2, .bool again] w fun e w' => e = .returned (.int .i64 6) ∧ Chg Non w w' := by
  obtain ⟨t, ht⟩ := h.tr
  exact bust_err bv 2 6 again none w (by decide) (fun W k => toPut_none bv bm bo V.lg V.lm 2 W (R.log.kept0 k) (.inr (by rw [ht]; simp)))

theorem BuE.corr {V : Ven} {bv bm bo bx by' : Nat} {s b : Int} {again : Bool} {w : World} (R : Rep w bv bm bo V) (h : BuE V bx by' s b again) (c : Int) :
    Calls Tryd.prog 11 #[.pointer (some ⟨bv, 0, none⟩), .int .i64 1, .int .i64 c] w fun e w' => e = .returned (.int .i64 10) ∧ Chg Non w w' :=
  correct_err bv 1 10 c none w (by decide) (fun W k => h.put (R.kept0 k))

theorem BuE.statx {V : Ven} {bv bm bo bx by' : Nat} {s b : Int} {again : Bool} {w : World} (R : Rep w bv bm bo V) (h : BuE V bx by' s b again) (O K : Int) (hO : (if again then s else s - min s b) = O) (hK : (if again then 0 else min s b) = K) :
    Calls Tryd.prog 9 #[.pointer (some ⟨bv, 0, none⟩), .int .i64 1] w fun e w' => ∃ (a0 a1 a3 a4 a5 a6 a7 a11 : Int) (a2 : ByteArray), e = .returned (.tuple #[.agg #[.int .i64 a0, .int .i64 a1, .string a2, .int .i64 a3, .int .i64 a4, .int .i64 a5, .int .i64 a6, .int .i64 a7, .int .i64 O, .int .i64 0, .int .i64 K, .int .i64 a11], .int .i64 0]) ∧ Chg Non w w' := by
  refine (status_some bv bm bo bx V 1 w R (by decide) (by rw [h.oid]; rfl) (by rw [h.sx]; decide)).mono ?_
  rintro e w' ⟨rfl, k⟩
  simp only [statC, h.x1, h.x2, h.x3, hO, hK]
  exact ⟨_, _, _, _, _, _, _, _, _, rfl, k⟩

theorem BuE.staty {V : Ven} {bv bm bo bx by' : Nat} {s b : Int} {again : Bool} {w : World} (R : Rep w bv bm bo V) (h : BuE V bx by' s b again) :
    Calls Tryd.prog 9 #[.pointer (some ⟨bv, 0, none⟩), .int .i64 2] w fun e w' => ∃ (a0 a1 a3 a4 a5 a6 a7 a11 : Int) (a2 : ByteArray), e = .returned (.tuple #[.agg #[.int .i64 a0, .int .i64 a1, .string a2, .int .i64 a3, .int .i64 a4, .int .i64 a5, .int .i64 a6, .int .i64 a7, .int .i64 0, .int .i64 0, .int .i64 b, .int .i64 a11], .int .i64 0]) ∧ Chg Non w w' := by
  refine (status_some bv bm bo by' V 2 w R (by decide) (by rw [h.oid]; rfl) (by rw [h.sy]; decide)).mono ?_
  rintro e w' ⟨rfl, k⟩
  simp only [statC, h.y1, h.y2, h.y3]
  exact ⟨_, _, _, _, _, _, _, _, _, rfl, k⟩

theorem BuE.trades {V : Ven} {bv bm bo bx by' : Nat} {s b : Int} {again : Bool} {w : World} (R : Rep w bv bm bo V) (h : BuE V bx by' s b again) :
    Calls Tryd.prog 12 #[.pointer (some ⟨bv, 0, none⟩)] w fun e w' => e = .returned (.slice none 0 0) ∧ Chg Non w w' := by
  obtain ⟨t, ht⟩ := h.tr
  refine trades_none bv bm bo V.lg V.lm w R.log (fun i x hx => ?_) (by rw [ht]; simp)
  rw [ht] at hx
  match i, hx with
  | 0, hx => simp at hx; rw [← hx]
  | i + 1, hx => simp at hx

set_option maxHeartbeats 4000000 in
set_option maxRecDepth 100000 in
theorem busted_any (price sells buys : Int) (again : Bool) (w : World) (hT : Tab w) (hp : -9223372036854775808 ≤ price ∧ price ≤ 9223372036854775807) (hs : -9223372036854775808 ≤ sells ∧ sells ≤ 9223372036854775807) (hb : -9223372036854775808 ≤ buys ∧ buys ≤ 9223372036854775807) :
    Calls Tryd.prog 4 #[.int .i64 price, .int .i64 sells, .int .i64 buys, .bool again] w fun e w' => e = .returned (.bool true) ∧ Below w.heap.size w w' := by
  have HP1 := hide (fun W => pick_any price 1000000 W (by omega) (by omega) hp.1 hp.2)
  have HP2 := hide (fun W => pick_any sells 1000 W (by omega) (by omega) hs.1 hs.2)
  have HP3 := hide (fun W => pick_any buys 1000 W (by omega) (by omega) hb.1 hb.2)
  have HTb := hide hT
  clear hp hs hb hT
  go_enter Tryd.func4, Tryd.ntmps4
  go_wp2_with fail
  refine (begun_any w).mono ?_
  rintro e w1 ⟨P, bv, bm, bo, b1, b2, lmv, rfl, hP, R1, k1, hF1, hPb⟩
  go_wp2_with fail
  refine (unhide HP1 w1).mono ?_
  rintro e w1' ⟨v1, rfl, h10, h11, hww⟩
  rw [hww]
  clear hww w1' HP1
  obtain ⟨C, hC⟩ : ∃ C, C = 1 + v1 := ⟨_, rfl⟩
  have hC1 : 1 ≤ C := by omega
  have hC2 : C ≤ 1000000 := by omega
  go_wp2_with fail
  rw [← hC]
  clear hC h10 h11
  refine (unhide HP2 w1).mono ?_
  rintro e w1' ⟨v2, rfl, h20, h21, hww⟩
  rw [hww]
  clear hww w1' HP2
  obtain ⟨S, hS⟩ : ∃ S, S = 1 + v2 := ⟨_, rfl⟩
  have hS1 : 1 ≤ S := by omega
  have hS2 : S ≤ 1000 := by omega
  go_wp2_with fail
  rw [← hS]
  clear hS h20 h21
  refine (unhide HP3 w1).mono ?_
  rintro e w1' ⟨v3, rfl, h30, h31, hww⟩
  rw [hww]
  clear hww w1' HP3
  obtain ⟨D, hD⟩ : ∃ D, D = 1 + v3 := ⟨_, rfl⟩
  have hD1 : 1 ≤ D := by omega
  have hD2 : D ≤ 1000 := by omega
  have p0 : w1.cell? ⟨P, 0, none⟩ = some (.pointer (some ⟨bv, 0, none⟩)) := hP.cell 0
  have E1 := hide (benter1 bv bm bo b1 b2 lmv C S w1 R1 ((unhide HTb).kept0 k1) hC1 hC2 hS1 hS2)
  have L1 : Hid (Pl w P bv bm bo (VG b1 b2 lmv) w1) := ⟨R1, hP, hF1, k1.belowOf (S := Non) (Nat.le_refl _) (fun _ x => x.elim)⟩
  clear R1 k1 hF1 hP hPb
  go_wp2_with fail
  rw [← hD]
  clear hD h30 h31
  refine (unhide E1).mono ?_
  rintro e w2 ⟨V2, bx, ef, er, ec, ea, en, rfl, R2, u2, k2, f2⟩
  have l2 := (unhide L1).turn R2 k2 f2
  have E2 := hide (fun W (k : Chg Non w2 W) => benter2 bv bm bo bx V2 C S D W (l2.keep k).rep ((l2.keep k).tab (unhide HTb)) u2 hC1 hC2 hS1 hS2 hD1 hD2)
  have p2 := l2.p0
  have q2 := l2.ply.lt
  have L2 := hide l2
  clear p0 R2 k2 f2 l2 L1 E1
  go_wp2_with fail
  have l2' := (unhide L2).keep ((Chg.refl Non w2).alloc (.cells #[.int .i64 ef, .int .i64 er, .int .i64 ec, .int .i64 ea, .int .i64 en] 31))
  refine (unhide E2 _ ((Chg.refl Non w2).alloc _)).mono ?_
  rintro e w3 ⟨V3, by', rfl, R3, u3, hne, k3, f3⟩
  have l3 := l2'.turn R3 k3 f3
  have HB := hide (fun W (k : Chg Non w3 W) => bbust bv bm bo bx by' V3 C S D again W (l3.keep k).rep ((l3.keep k).tab (unhide HTb)) u3 hne hS1 hS2 hD1 hD2)
  have p3 := l3.p0
  have q3 := l3.ply.lt
  have L3 := hide l3
  clear p2 q2 R3 k3 f3 l3 l2' L2 E2
  obtain ⟨N, hN⟩ : ∃ N, min S D = N := ⟨_, rfl⟩
  have hND : N ≤ D := by omega
  have hNS : N ≤ S := by omega
  have hN1 : 1 ≤ N := by omega
  have HN := hide hN
  rw [hN]
  simp only [repV]
  clear hN
  by_cases hds : D < S
  · obtain rfl : N = D := by have := unhide HN; omega
    cases again
    · obtain ⟨T, hT⟩ : ∃ T, S - N = T := ⟨_, rfl⟩
      have hT2 : S - T = N := by omega
      have hT3 : 0 ≤ T := by omega
      have hT4 : T ≤ 1000 := by omega
      go_wp2_with fail
      have l3a := (unhide L3).keep ((Chg.refl Non w3).alloc (.cells #[.int .i64 N, .int .i64 0, .int .i64 0, .int .i64 1, .int .i64 1] 31))
      refine (unhide HB _ ((Chg.refl Non w3).alloc _)).mono ?_
      rintro e w4 ⟨V4, rfl, R4, u4, k4, f4⟩
      have l4 := l3a.turn R4 k4 f4
      have p4 := l4.p0
      have q4 := l4.ply.lt
      have U1 := hide (u4.again R4)
      have L4 := hide l4
      have U4 := hide u4
      clear p3 q3 R4 k4 f4 l4 l3a L3 HB u4
      go_wp2_with fail
      refine (unhide U1).mono ?_
      rintro e w5 ⟨rfl, k5⟩
      have l5 := (unhide L4).keep k5
      have p5 := l5.p0
      have U2 := hide ((unhide U4).other l5.rep)
      have L5 := hide l5
      clear p4 q4 l5 k5 U1 L4
      go_wp2_with fail
      refine (unhide U2).mono ?_
      rintro e w6 ⟨rfl, k6⟩
      have l6 := (unhide L5).keep k6
      have p6 := l6.p0
      have U3 := hide ((unhide U4).corr l6.rep C)
      have L6 := hide l6
      clear p5 l6 k6 U2 L5
      go_wp2_with fail
      refine (unhide U3).mono ?_
      rintro e w7 ⟨rfl, k7⟩
      have l7 := (unhide L6).keep k7
      have p7 := l7.p0
      have U5 := hide ((unhide U4).statx l7.rep T (N) (by have := unhide HN; first | (simp; omega) | simp) (by have := unhide HN; first | (simp; omega) | simp))
      have L7 := hide l7
      clear p6 l7 k7 U3 L6
      go_wp2_with fail
      refine (unhide U5).mono ?_
      rintro e w8 ⟨a0, a1, a3, a4, a5, a6, a7, a11, a2, rfl, k8⟩
      have l8 := (unhide L7).keep k8
      have p8 := l8.p0
      have q8 := l8.ply.lt
      have U6 := hide (fun W (k : Chg Non w8 W) => (unhide U4).staty (l8.keep k).rep)
      have L8 := hide l8
      clear p7 l8 k8 U5 L7
      go_wp2_with fail
      have l8a := (unhide L8).keep ((Chg.refl Non w8).alloc (.cells #[.int .i64 a0, .int .i64 a1, .string a2, .int .i64 a3, .int .i64 a4, .int .i64 a5, .int .i64 a6, .int .i64 a7, .int .i64 T, .int .i64 0, .int .i64 N, .int .i64 a11] 42))
      refine (unhide U6 _ ((Chg.refl Non w8).alloc _)).mono ?_
      rintro e w9 ⟨c0, c1, c3, c4, c5, c6, c7, c11, c2, rfl, k9⟩
      have b9 := k9.blk (Blk.new w8 #[.int .i64 a0, .int .i64 a1, .string a2, .int .i64 a3, .int .i64 a4, .int .i64 a5, .int .i64 a6, .int .i64 a7, .int .i64 T, .int .i64 0, .int .i64 N, .int .i64 a11] 42) (fun x => x)
      have l9 := l8a.keep k9
      have p9 := l9.p0
      have q9 := l9.ply.lt
      have r9 := b9.lt
      have x8 : w9.cell? ⟨w8.heap.size, 8, none⟩ = some (.int .i64 T) := b9.cell 8
      have x9 : w9.cell? ⟨w8.heap.size, 9, none⟩ = some (.int .i64 0) := b9.cell 9
      have x10 : w9.cell? ⟨w8.heap.size, 10, none⟩ = some (.int .i64 N) := b9.cell 10
      have U7 := hide (fun W (k : Chg Non w9 W) => (unhide U4).trades (l9.keep k).rep)
      have L9 := hide l9
      clear p8 q8 l9 l8a k9 b9 L8 U6
      go_wp2_with fail
      have l9a := (unhide L9).keep ((Chg.refl Non w9).alloc (.cells #[.int .i64 c0, .int .i64 c1, .string c2, .int .i64 c3, .int .i64 c4, .int .i64 c5, .int .i64 c6, .int .i64 c7, .int .i64 0, .int .i64 0, .int .i64 N, .int .i64 c11] 42))
      refine (unhide U7 _ ((Chg.refl Non w9).alloc _)).mono ?_
      rintro e w10 ⟨rfl, k10⟩
      go_wp2
      go_ret
      exact ⟨rfl, (l9a.keep k10).below⟩
    · go_wp2_with fail
      have l3a := (unhide L3).keep ((Chg.refl Non w3).alloc (.cells #[.int .i64 N, .int .i64 0, .int .i64 0, .int .i64 1, .int .i64 1] 31))
      refine (unhide HB _ ((Chg.refl Non w3).alloc _)).mono ?_
      rintro e w4 ⟨V4, rfl, R4, u4, k4, f4⟩
      have l4 := l3a.turn R4 k4 f4
      have p4 := l4.p0
      have q4 := l4.ply.lt
      have U1 := hide (u4.again R4)
      have L4 := hide l4
      have U4 := hide u4
      clear p3 q3 R4 k4 f4 l4 l3a L3 HB u4
      go_wp2_with fail
      refine (unhide U1).mono ?_
      rintro e w5 ⟨rfl, k5⟩
      have l5 := (unhide L4).keep k5
      have p5 := l5.p0
      have U2 := hide ((unhide U4).other l5.rep)
      have L5 := hide l5
      clear p4 q4 l5 k5 U1 L4
      go_wp2_with fail
      refine (unhide U2).mono ?_
      rintro e w6 ⟨rfl, k6⟩
      have l6 := (unhide L5).keep k6
      have p6 := l6.p0
      have U3 := hide ((unhide U4).corr l6.rep C)
      have L6 := hide l6
      clear p5 l6 k6 U2 L5
      go_wp2_with fail
      refine (unhide U3).mono ?_
      rintro e w7 ⟨rfl, k7⟩
      have l7 := (unhide L6).keep k7
      have p7 := l7.p0
      have U5 := hide ((unhide U4).statx l7.rep (S) (0) (by have := unhide HN; first | (simp; omega) | simp) (by have := unhide HN; first | (simp; omega) | simp))
      have L7 := hide l7
      clear p6 l7 k7 U3 L6
      go_wp2_with fail
      refine (unhide U5).mono ?_
      rintro e w8 ⟨a0, a1, a3, a4, a5, a6, a7, a11, a2, rfl, k8⟩
      have l8 := (unhide L7).keep k8
      have p8 := l8.p0
      have q8 := l8.ply.lt
      have U6 := hide (fun W (k : Chg Non w8 W) => (unhide U4).staty (l8.keep k).rep)
      have L8 := hide l8
      clear p7 l8 k8 U5 L7
      go_wp2_with fail
      have l8a := (unhide L8).keep ((Chg.refl Non w8).alloc (.cells #[.int .i64 a0, .int .i64 a1, .string a2, .int .i64 a3, .int .i64 a4, .int .i64 a5, .int .i64 a6, .int .i64 a7, .int .i64 (S), .int .i64 0, .int .i64 0, .int .i64 a11] 42))
      refine (unhide U6 _ ((Chg.refl Non w8).alloc _)).mono ?_
      rintro e w9 ⟨c0, c1, c3, c4, c5, c6, c7, c11, c2, rfl, k9⟩
      have b9 := k9.blk (Blk.new w8 #[.int .i64 a0, .int .i64 a1, .string a2, .int .i64 a3, .int .i64 a4, .int .i64 a5, .int .i64 a6, .int .i64 a7, .int .i64 (S), .int .i64 0, .int .i64 0, .int .i64 a11] 42) (fun x => x)
      have l9 := l8a.keep k9
      have p9 := l9.p0
      have q9 := l9.ply.lt
      have r9 := b9.lt
      have x8 : w9.cell? ⟨w8.heap.size, 8, none⟩ = some (.int .i64 (S)) := b9.cell 8
      have x9 : w9.cell? ⟨w8.heap.size, 9, none⟩ = some (.int .i64 0) := b9.cell 9
      have x10 : w9.cell? ⟨w8.heap.size, 10, none⟩ = some (.int .i64 0) := b9.cell 10
      have U7 := hide (fun W (k : Chg Non w9 W) => (unhide U4).trades (l9.keep k).rep)
      have L9 := hide l9
      clear p8 q8 l9 l8a k9 b9 L8 U6
      go_wp2_with fail
      have l9a := (unhide L9).keep ((Chg.refl Non w9).alloc (.cells #[.int .i64 c0, .int .i64 c1, .string c2, .int .i64 c3, .int .i64 c4, .int .i64 c5, .int .i64 c6, .int .i64 c7, .int .i64 0, .int .i64 0, .int .i64 N, .int .i64 c11] 42))
      refine (unhide U7 _ ((Chg.refl Non w9).alloc _)).mono ?_
      rintro e w10 ⟨rfl, k10⟩
      go_wp2
      go_ret
      exact ⟨rfl, (l9a.keep k10).below⟩
  · obtain rfl : N = S := by have := unhide HN; omega
    cases again
    · go_wp2_with fail
      have l3a := (unhide L3).keep ((Chg.refl Non w3).alloc (.cells #[.int .i64 N, .int .i64 0, .int .i64 (D - N), .int .i64 1, .int .i64 1] 31))
      refine (unhide HB _ ((Chg.refl Non w3).alloc _)).mono ?_
      rintro e w4 ⟨V4, rfl, R4, u4, k4, f4⟩
      have l4 := l3a.turn R4 k4 f4
      have p4 := l4.p0
      have q4 := l4.ply.lt
      have U1 := hide (u4.again R4)
      have L4 := hide l4
      have U4 := hide u4
      clear p3 q3 R4 k4 f4 l4 l3a L3 HB u4
      go_wp2_with fail
      refine (unhide U1).mono ?_
      rintro e w5 ⟨rfl, k5⟩
      have l5 := (unhide L4).keep k5
      have p5 := l5.p0
      have U2 := hide ((unhide U4).other l5.rep)
      have L5 := hide l5
      clear p4 q4 l5 k5 U1 L4
      go_wp2_with fail
      refine (unhide U2).mono ?_
      rintro e w6 ⟨rfl, k6⟩
      have l6 := (unhide L5).keep k6
      have p6 := l6.p0
      have U3 := hide ((unhide U4).corr l6.rep C)
      have L6 := hide l6
      clear p5 l6 k6 U2 L5
      go_wp2_with fail
      refine (unhide U3).mono ?_
      rintro e w7 ⟨rfl, k7⟩
      have l7 := (unhide L6).keep k7
      have p7 := l7.p0
      have U5 := hide ((unhide U4).statx l7.rep (0) (N) (by have := unhide HN; first | (simp; omega) | simp) (by have := unhide HN; first | (simp; omega) | simp))
      have L7 := hide l7
      clear p6 l7 k7 U3 L6
      go_wp2_with fail
      refine (unhide U5).mono ?_
      rintro e w8 ⟨a0, a1, a3, a4, a5, a6, a7, a11, a2, rfl, k8⟩
      have l8 := (unhide L7).keep k8
      have p8 := l8.p0
      have q8 := l8.ply.lt
      have U6 := hide (fun W (k : Chg Non w8 W) => (unhide U4).staty (l8.keep k).rep)
      have L8 := hide l8
      clear p7 l8 k8 U5 L7
      go_wp2_with fail
      have l8a := (unhide L8).keep ((Chg.refl Non w8).alloc (.cells #[.int .i64 a0, .int .i64 a1, .string a2, .int .i64 a3, .int .i64 a4, .int .i64 a5, .int .i64 a6, .int .i64 a7, .int .i64 (0), .int .i64 0, .int .i64 N, .int .i64 a11] 42))
      refine (unhide U6 _ ((Chg.refl Non w8).alloc _)).mono ?_
      rintro e w9 ⟨c0, c1, c3, c4, c5, c6, c7, c11, c2, rfl, k9⟩
      have b9 := k9.blk (Blk.new w8 #[.int .i64 a0, .int .i64 a1, .string a2, .int .i64 a3, .int .i64 a4, .int .i64 a5, .int .i64 a6, .int .i64 a7, .int .i64 (0), .int .i64 0, .int .i64 N, .int .i64 a11] 42) (fun x => x)
      have l9 := l8a.keep k9
      have p9 := l9.p0
      have q9 := l9.ply.lt
      have r9 := b9.lt
      have x8 : w9.cell? ⟨w8.heap.size, 8, none⟩ = some (.int .i64 (0)) := b9.cell 8
      have x9 : w9.cell? ⟨w8.heap.size, 9, none⟩ = some (.int .i64 0) := b9.cell 9
      have x10 : w9.cell? ⟨w8.heap.size, 10, none⟩ = some (.int .i64 N) := b9.cell 10
      have U7 := hide (fun W (k : Chg Non w9 W) => (unhide U4).trades (l9.keep k).rep)
      have L9 := hide l9
      clear p8 q8 l9 l8a k9 b9 L8 U6
      go_wp2_with fail
      have l9a := (unhide L9).keep ((Chg.refl Non w9).alloc (.cells #[.int .i64 c0, .int .i64 c1, .string c2, .int .i64 c3, .int .i64 c4, .int .i64 c5, .int .i64 c6, .int .i64 c7, .int .i64 0, .int .i64 0, .int .i64 D, .int .i64 c11] 42))
      refine (unhide U7 _ ((Chg.refl Non w9).alloc _)).mono ?_
      rintro e w10 ⟨rfl, k10⟩
      go_wp2
      go_ret
      exact ⟨rfl, (l9a.keep k10).below⟩
    · go_wp2_with fail
      have l3a := (unhide L3).keep ((Chg.refl Non w3).alloc (.cells #[.int .i64 N, .int .i64 0, .int .i64 (D - N), .int .i64 1, .int .i64 1] 31))
      refine (unhide HB _ ((Chg.refl Non w3).alloc _)).mono ?_
      rintro e w4 ⟨V4, rfl, R4, u4, k4, f4⟩
      have l4 := l3a.turn R4 k4 f4
      have p4 := l4.p0
      have q4 := l4.ply.lt
      have U1 := hide (u4.again R4)
      have L4 := hide l4
      have U4 := hide u4
      clear p3 q3 R4 k4 f4 l4 l3a L3 HB u4
      go_wp2_with fail
      refine (unhide U1).mono ?_
      rintro e w5 ⟨rfl, k5⟩
      have l5 := (unhide L4).keep k5
      have p5 := l5.p0
      have U2 := hide ((unhide U4).other l5.rep)
      have L5 := hide l5
      clear p4 q4 l5 k5 U1 L4
      go_wp2_with fail
      refine (unhide U2).mono ?_
      rintro e w6 ⟨rfl, k6⟩
      have l6 := (unhide L5).keep k6
      have p6 := l6.p0
      have U3 := hide ((unhide U4).corr l6.rep C)
      have L6 := hide l6
      clear p5 l6 k6 U2 L5
      go_wp2_with fail
      refine (unhide U3).mono ?_
      rintro e w7 ⟨rfl, k7⟩
      have l7 := (unhide L6).keep k7
      have p7 := l7.p0
      have U5 := hide ((unhide U4).statx l7.rep (N) (0) (by have := unhide HN; first | (simp; omega) | simp) (by have := unhide HN; first | (simp; omega) | simp))
      have L7 := hide l7
      clear p6 l7 k7 U3 L6
      go_wp2_with fail
      refine (unhide U5).mono ?_
      rintro e w8 ⟨a0, a1, a3, a4, a5, a6, a7, a11, a2, rfl, k8⟩
      have l8 := (unhide L7).keep k8
      have p8 := l8.p0
      have q8 := l8.ply.lt
      have U6 := hide (fun W (k : Chg Non w8 W) => (unhide U4).staty (l8.keep k).rep)
      have L8 := hide l8
      clear p7 l8 k8 U5 L7
      go_wp2_with fail
      have l8a := (unhide L8).keep ((Chg.refl Non w8).alloc (.cells #[.int .i64 a0, .int .i64 a1, .string a2, .int .i64 a3, .int .i64 a4, .int .i64 a5, .int .i64 a6, .int .i64 a7, .int .i64 (N), .int .i64 0, .int .i64 0, .int .i64 a11] 42))
      refine (unhide U6 _ ((Chg.refl Non w8).alloc _)).mono ?_
      rintro e w9 ⟨c0, c1, c3, c4, c5, c6, c7, c11, c2, rfl, k9⟩
      have b9 := k9.blk (Blk.new w8 #[.int .i64 a0, .int .i64 a1, .string a2, .int .i64 a3, .int .i64 a4, .int .i64 a5, .int .i64 a6, .int .i64 a7, .int .i64 (N), .int .i64 0, .int .i64 0, .int .i64 a11] 42) (fun x => x)
      have l9 := l8a.keep k9
      have p9 := l9.p0
      have q9 := l9.ply.lt
      have r9 := b9.lt
      have x8 : w9.cell? ⟨w8.heap.size, 8, none⟩ = some (.int .i64 (N)) := b9.cell 8
      have x9 : w9.cell? ⟨w8.heap.size, 9, none⟩ = some (.int .i64 0) := b9.cell 9
      have x10 : w9.cell? ⟨w8.heap.size, 10, none⟩ = some (.int .i64 0) := b9.cell 10
      have U7 := hide (fun W (k : Chg Non w9 W) => (unhide U4).trades (l9.keep k).rep)
      have L9 := hide l9
      clear p8 q8 l9 l8a k9 b9 L8 U6
      go_wp2_with fail
      have l9a := (unhide L9).keep ((Chg.refl Non w9).alloc (.cells #[.int .i64 c0, .int .i64 c1, .string c2, .int .i64 c3, .int .i64 c4, .int .i64 c5, .int .i64 c6, .int .i64 c7, .int .i64 0, .int .i64 0, .int .i64 D, .int .i64 c11] 42))
      refine (unhide U7 _ ((Chg.refl Non w9).alloc _)).mono ?_
      rintro e w10 ⟨rfl, k10⟩
      go_wp2
      go_ret
      exact ⟨rfl, (l9a.keep k10).below⟩
end Go.Proofs.YtigaphnafnpfnaaDoor
