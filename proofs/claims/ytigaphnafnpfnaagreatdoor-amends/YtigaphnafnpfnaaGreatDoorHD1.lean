import Derived.Test.YtigaphnafnpfnaaGreatDoorHC7
set_option linter.unusedVariables false
set_option linter.unusedSimpArgs false
namespace Go.Proofs.YtigaphnafnpfnaaGreatDoor
open Go.RowKit Go.Maps Go.Lib
attribute [local go_sem ↓] Go.wp_at_zero Go.wp_at_succ

def VG (b1 b2 : Nat) (lmv : Lm) : Ven := { (ven0.list sA b1).list sG b2 with lg := ⟨[], [], 1, 2, [.listed sG]⟩, lm := lmv }

theorem foot_list {bv bm bo b x : Nat} {V : Ven} {s : ByteArray} (h : Foot bv bm bo (V.list s b) x) : Foot bv bm bo V x ∨ x = b := by
  rcases h with h | h | h | ⟨i, hi, h⟩ | h
  · exact .inl (.inl h)
  · exact .inl (.inr (.inl h))
  · exact .inl (.inr (.inr (.inl h)))
  · by_cases e : i = V.nb
    · subst e
      rcases h with h | ⟨y, hy, h⟩
      · simp only [Ven.list, upd_same] at h; exact .inr h
      · simp only [Ven.list, upd_same] at h; exact absurd h (newBk_sd s y x)
    · have hi' : i < V.nb := by simp only [Ven.list] at hi; omega
      simp only [Ven.list, upd_other _ _ e] at h
      exact .inl (.inr (.inr (.inr (.inl ⟨i, hi', h⟩))))
  · exact .inl (.inr (.inr (.inr (.inr h))))

set_option maxHeartbeats 4000000 in
set_option maxRecDepth 100000 in
theorem begun_any (w : World) : Calls Tryz.prog 14 #[] w fun e w' => ∃ P bv bm bo b1 b2 lmv, e = .returned (.pointer (some ⟨P, 0, none⟩)) ∧ Blk w' P #[.pointer (some ⟨bv, 0, none⟩), .int .i64 0, .int .i64 2] 37 ∧ Rep w' bv bm bo (VG b1 b2 lmv) ∧ Chg Non w w' ∧ (∀ x, Foot bv bm bo (VG b1 b2 lmv) x → w.heap.size ≤ x) ∧ w.heap.size ≤ P := by
  go_enter Tryz.func14, Tryz.ntmps14
  go_wp2_with fail
  refine (new_any w).mono ?_
  rintro e w1 ⟨bv, bm, bo, rfl, R1, k1, hv, hm, ho⟩
  go_wp2_with fail
  refine (list_name bv sa w1 isName_a).mono ?_
  rintro e w2 ⟨rfl, k2⟩
  go_wp2_with fail
  refine (list_ok bv bm bo ven0 sA w2 (R1.kept0 k2) isName_A (by decide) (fun i hi => absurd hi (Nat.not_lt_zero i)) (by decide) (by decide)).mono ?_
  rintro e w3 ⟨b1, lm1, rfl, hb1, R3, k3, hf3⟩
  go_wp2_with fail
  refine (list_ok bv bm bo (ven0.listed sA b1 lm1) sG w3 R3 isName_G (by decide) (fun i hi h => ?_) (by show (1 : Nat) < 6; omega) (by show (1 : Nat) < 1000000; omega)).mono ?_
  · have : i = 0 := by simp [Ven.listed, Ven.list, ven0] at hi; exact hi
    subst this
    have e : ((ven0.listed sA b1 lm1).B 0).sym = sA := rfl
    rw [e] at h
    have : sA.size = sG.size := by rw [h]
    exact absurd this (by decide)
  rintro e w4 ⟨b2, lmv, rfl, hb2, R4, k4, hf4⟩
  change Rep w4 bv bm bo (VG b1 b2 lmv) at R4
  go_wp2_with fail
  refine (list_taken bv bm bo 0 (VG b1 b2 lmv) sA w4 R4 isName_A (by decide) (by show (0 : Nat) < 2; omega) rfl).mono ?_
  rintro e w5 ⟨rfl, k5⟩
  go_wp2_with fail
  refine (status_none bv bm bo (VG b1 b2 lmv) 1 w5 (R4.kept0 k5) (by decide) rfl).mono ?_
  rintro e w6 ⟨rfl, k6⟩
  simp only [zero12]
  have s2 : w.heap.size ≤ w2.heap.size := by have := k1.size; have := k2.size; omega
  have hF1 : ∀ x, lm1.F x → w.heap.size ≤ x := fun x h => (hf3 x h).elim (fun h => by simp [ven0, Lm.F, ActF, Value.ownBlock] at h) (fun h => by omega)
  have kk3 : Chg Non w w3 := (k1.trans k2).from (k3.mono (fun x h => .inr (by
    rcases h with h | h | h
    · omega
    · omega
    · simp [ven0, Lm.F, ActF, Value.ownBlock] at h)))
  have kk4 : Chg Non w w4 := kk3.from (k4.mono (fun x h => .inr (by
    rcases h with h | h | h
    · omega
    · omega
    · exact hF1 x h)))
  have s3 : w.heap.size ≤ w3.heap.size := kk3.size
  have hF2 : ∀ x, lmv.F x → w.heap.size ≤ x := fun x h => (hf4 x h).elim (fun h => hF1 x h) (fun h => by omega)
  have kk : Chg Non w w6 := (kk4.trans k5).trans k6
  have R6 := (R4.kept0 k5).kept0 k6
  have hF : ∀ x, Foot bv bm bo (VG b1 b2 lmv) x → w.heap.size ≤ x := by
    intro x hx
    rcases hx with h | h | h | ⟨i, hi, h⟩ | ⟨id, h⟩ | h
    · omega
    · omega
    · omega
    · have hi' : i < 2 := hi
      have hi2 : i = 0 ∨ i = 1 := by omega
      rcases hi2 with rfl | rfl
      · rcases h with h | ⟨y, hy, h⟩
        · change x = b1 at h; omega
        · exact absurd h (newBk_sd sA y x)
      · rcases h with h | ⟨y, hy, h⟩
        · change x = b2 at h; omega
        · exact absurd h (newBk_sd sG y x)
    · simp [VG, Ven.list, ven0] at h
    · exact hF2 x h
  clear R1 R3 R4 k1 k2 k3 k4 k5 k6 hb1 hb2 hv hm ho s2 s3 hF1 hF2 kk3 kk4 hf3 hf4
  have HK := hide kk
  have HR := hide R6
  have HFo := hide hF
  clear kk R6 hF
  go_wp2
  go_ret
  refine ⟨_, bv, bm, bo, b1, b2, lmv, rfl, Blk.new1 w6 _ _ _, (unhide HR).kept0 (((Chg.refl Non w6).alloc _).alloc _), (((unhide HK).alloc _).alloc _), unhide HFo, ?_⟩
  have := (unhide HK).size
  omega

def pickI (c n : Int) : Int := (if c < 0 then -(c + 1) else c) % n

theorem pickI_b (c n : Int) (h : 0 < n) : 0 ≤ pickI c n ∧ pickI c n < n := ⟨Int.emod_nonneg _ (by omega), Int.emod_lt_of_pos _ h⟩

theorem pick_any (c n : Int) (w : World) (hn : 0 < n) (hn2 : n ≤ 1000000) (h1 : -9223372036854775808 ≤ c) (h2 : c ≤ 9223372036854775807) : Calls Tryz.prog 29 #[.int .i64 c, .int .i64 n] w fun e w' => ∃ v, e = .returned (.int .i64 v) ∧ 0 ≤ v ∧ v < n ∧ w' = w := by
  have e0 : (n == 0) = false := beq_eq_false_iff_ne.2 (by omega)
  by_cases hc : c < 0
  · have w1 : wrap64 (c + 1) = c + 1 := wrap64_id (by omega) (by omega)
    have w2 : wrap64 (-(c + 1)) = -(c + 1) := wrap64_id (by omega) (by omega)
    have ev : -((c + 1).tmod n) = (-(c + 1)) % n := by rw [← Int.neg_tmod, Int.tmod_eq_emod_of_nonneg (by omega)]
    have EV := hide ev
    clear w1 w2 ev
    go_enter Tryz.func29, Tryz.ntmps29
    go_wp2
    go_ret
    refine ⟨_, rfl, ?_, ?_, rfl⟩
    · rw [unhide EV]; exact Int.emod_nonneg _ (by omega)
    · rw [unhide EV]; exact Int.emod_lt_of_pos _ hn
  · go_enter Tryz.func29, Tryz.ntmps29
    go_wp2
    go_ret
    exact ⟨_, rfl, Int.emod_nonneg _ (by omega), Int.emod_lt_of_pos _ hn, rfl⟩

/-- raw numbers behind a slice -/
structure Code (w : World) (ao : Option Addr) (len : Nat) (zs : Nat → Int) : Prop where
  cell : ∀ i, i < len → ∃ b off, ao = some ⟨b, off, none⟩ ∧ w.cell? ⟨b, off + i, none⟩ = some (.int .i64 (zs i))
  rng : ∀ i, i < len → -9223372036854775808 ≤ zs i ∧ zs i ≤ 9223372036854775807
  small : len ≤ 9223372036854775807

set_option maxHeartbeats 2000000 in
theorem next_any (D : Nat) (ao : Option Addr) (len cap at_ : Nat) (zs : Nat → Int) (n : Int) (w : World) (hb : Blk w D #[.slice ao len cap, .int .i64 at_] 28) (hc : Code w ao len zs) (hat : at_ ≤ len) (hn : 0 < n) (hn2 : n ≤ 1000000) :
    Calls Tryz.prog 35 #[.pointer (some ⟨D, 0, none⟩), .int .i64 n] w fun e w' => ∃ v at', e = .returned (.int .i64 v) ∧ 0 ≤ v ∧ v < n ∧ at' ≤ len ∧ Blk w' D #[.slice ao len cap, .int .i64 (at' : Nat)] 28 ∧ Chg (fun x => x = D) w w' := by
  have d0 : w.cell? ⟨D, 0, none⟩ = some (.slice ao len cap) := hb.cell 0
  have d1 : w.cell? ⟨D, 1, none⟩ = some (.int .i64 (at_ : Int)) := hb.cell 1
  have f1 := hb.frozen 1
  by_cases h : at_ < len
  · obtain ⟨b, off, rfl, hcell⟩ := hc.cell at_ h
    obtain ⟨g1, g2⟩ := hc.rng at_ h
    have hsm := hc.small
    have i0 : (0 : Int) ≤ (at_ : Int) := by omega
    have i1 : (at_ : Int) < (len : Int) := by omega
    have hpk := fun q => pick_any (zs at_) n (w.drewN q) hn hn2 g1 g2
    have HP := hide hpk
    clear hpk hc g1 g2
    go_enter Tryz.func35, Tryz.ntmps35
    go_wp2
    go_quiet (fail)
    go_wp2
    go_region_held3 (fun w' => w'.cell? ⟨D, 0, none⟩ = some (.slice (some ⟨b, off, none⟩) len cap) ∧ w'.cell? ⟨D, 1, none⟩ = some (.int .i64 (at_ : Int)) ∧ w'.cell? ⟨b, off + at_, none⟩ = some (.int .i64 (zs at_))) (go_keep)
      (first | (go_at_call 29; refine (unhide HP _).mono ?_; rintro e w2 ⟨v, rfl, v0, v1, rfl⟩))
    go_wp2
    go_ret
    refine ⟨v, at_ + 1, rfl, v0, v1, by omega, ?_, ?_⟩
    · rw [show ((at_ + 1 : Nat) : Int) = (at_ : Int) + 1 from by omega]
      first | exact (hb.drewN _).set 1 _ | exact ((hb.drewN _).drewN _).set 1 _ | exact (hb.set 1 _).drewN _ | exact ((hb.drewN _).drew).set 1 _
    · exact ((Chg.refl (fun x => x = D) w).drewN _).setCell (p := ⟨D, 1, none⟩) (.inl rfl) _
  · have e1 : decide ((len : Int) ≤ (at_ : Int)) = true := by simp; omega
    go_enter Tryz.func35, Tryz.ntmps35
    go_wp2
    go_quiet (fail)
    go_wp2
    go_ret
    exact ⟨0, at_, rfl, by omega, hn, hat, hb.drewN _, (Chg.refl _ w).drewN _⟩

end Go.Proofs.YtigaphnafnpfnaaGreatDoor

