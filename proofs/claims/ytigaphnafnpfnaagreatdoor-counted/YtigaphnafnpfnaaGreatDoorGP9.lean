import Derived.Test.YtigaphnafnpfnaaGreatDoorGP8
/- player.step, without the later acts -/
set_option linter.unusedVariables false
set_option linter.unusedSimpArgs false
namespace Go.Proofs.YtigaphnafnpfnaaGreatDoor
open Go.RowKit Go.Maps
attribute [local go_sem ↓] Go.wp_at_zero Go.wp_at_succ

theorem GV.mono {V : Ven} {n : Nat} {M M' : Int} (h : GV V n M) (hm : M ≤ M') : GV V n M' := ⟨h.nb, h.gb, h.oid, h.no, fun x hx => (h.q x hx).mono hm, h.sym, h.side⟩
theorem LenOK.mono {V : Ven} {K K' : Nat} (h : LenOK V K) (hk : K ≤ K') : LenOK V K' := ⟨Nat.le_trans h.1 hk, Nat.le_trans h.2.1 hk, h.2.2.1, Nat.le_trans h.2.2.2 hk⟩
theorem Ply.mono {D : Nat} {ao : Option Addr} {len cap : Nat} {zs : Nat → Int} {w0 : World} {P bv bm bo : Nat} {V : Ven} {n K K' : Nat} {M M' acts : Int} {w : World} (h : Ply D ao len cap zs w0 P bv bm bo V n K M acts w) (hm : M ≤ M') (hk : K ≤ K') : Ply D ao len cap zs w0 P bv bm bo V n K' M' acts w :=
  ⟨h.rep, h.gv.mono hm, h.lens.mono hk, h.ply, h.dc, h.foot, h.pP, h.below⟩

/-- what a step leaves -/
def StepPost (D : Nat) (ao : Option Addr) (len cap : Nat) (zs : Nat → Int) (w0 : World) (P bv bm bo n K : Nat) (M acts : Int) (w' : World) : Prop :=
  ∃ V' n' acts', n' ≤ n + 1 ∧ 0 ≤ acts' ∧ acts' ≤ acts + 1 ∧ Ply D ao len cap zs w0 P bv bm bo V' n' (K + 101) (M + 9) acts' w'

/-- an act that answers an error, or not -/
def ActRes (bv bm bo n K : Nat) (V : Ven) (M E : Int) (W w' : World) : Prop := (E = 10 ∧ Chg Non W w') ∨ (E = 0 ∧ Next bv bm bo V (fun V2 => GV V2 n (M + 9) ∧ LenOK V2 (K + 101)) W w')

theorem ActRes.chg {bv bm bo n K : Nat} {V : Ven} {M E : Int} {w w' : World} (h : ActRes bv bm bo n K V M E w w') : Chg (Foot bv bm bo V) w w' := by
  rcases h with ⟨_, k⟩ | ⟨_, ⟨V2, _, _, k, _⟩⟩
  · exact k.of_non
  · exact k

set_option maxHeartbeats 4000000 in
set_option maxRecDepth 100000 in
theorem step_any (D : Nat) (ao : Option Addr) (len cap : Nat) (zs : Nat → Int) (w0 : World) (P bv bm bo : Nat) (V : Ven) (n K : Nat) (M acts : Int) (w : World) (h : Ply D ao len cap zs w0 P bv bm bo V n K M acts w) (hO : OrderOK D ao len cap zs w0.heap.size P bv n) (h9 : 9 ≤ M) (hM : M + 9 ≤ 1000000) (hn : n < 100) (hK : K + 300 < 1000000) (ha : 0 ≤ acts) (ha2 : acts < 1000000) :
    Calls Tryz.prog 15 #[.pointer (some ⟨P, 0, none⟩), .pointer (some ⟨D, 0, none⟩), .bool false] w fun e w' => e = .returned (.bool true) ∧ StepPost D ao len cap zs w0 P bv bm bo n K M acts w' := by
  have HNx := hide (next_dc D ao len cap zs w0.heap.size 16 w h.dc (by omega) (by omega))
  have HEn := hide (fun (W : World) (hW : Ply D ao len cap zs w0 P bv bm bo V n K M acts W) => penter_any D ao len cap zs w0 P bv bm bo V n K M acts W hW hO h9 (by omega) hn hK ha ha2)
  have HND := hide (fun (W : World) (hd : Dc D ao len cap zs w0.heap.size W) (m : Int) (h1 : 0 < m) (h2 : m ≤ 1000000) => next_dc D ao len cap zs w0.heap.size m W hd h1 h2)
  have HCa : Hid (∀ (W : World) (v : Nat), Rep W bv bm bo V ∧ Tab W → (v : Int) < n → Calls Tryz.prog 37 #[.pointer (some ⟨bv, 0, none⟩), .int .i64 (IntKind.i64.wrap (1 + (v : Int)))] W fun e w' => ∃ E, e = .returned (.int .i64 E) ∧ ActRes bv bm bo n K V M E W w') := by
    rintro W v ⟨R, hT⟩ hv
    have e : IntKind.i64.wrap (1 + (v : Int)) = 1 + (v : Int) := by rw [IntKind.wrap_i64]; omega
    rw [e]
    refine (ven_cancel bv bm bo n K V M (1 + (v : Int)) W R hT h.gv (by omega) (by omega) h.lens hK (by omega) (by omega)).mono ?_
    rintro e w' (⟨rfl, k⟩ | ⟨rfl, hx⟩)
    · exact ⟨10, rfl, .inl ⟨rfl, k⟩⟩
    · obtain ⟨V2, R2, q2, k2, f2⟩ := hx
      exact ⟨0, rfl, .inr ⟨rfl, V2, R2, ⟨q2.1.mono (by omega), q2.2.mono (by omega)⟩, k2, f2⟩⟩
  have HRe : Hid (∀ (W : World) (v v1 v2 : Nat), Rep W bv bm bo V ∧ Tab W → (v : Int) < n → (v1 : Int) < 10 → (v2 : Int) < 9 → Calls Tryz.prog 38 #[.pointer (some ⟨bv, 0, none⟩), .int .i64 (IntKind.i64.wrap (1 + (v : Int))), .int .i64 (IntKind.i64.wrap (95 + (v1 : Int))), .int .i64 (IntKind.i64.wrap (1 + (v2 : Int)))] W fun e w' => ∃ f r c a m E, e = .returned (.tuple #[.agg #[.int .i64 f, .int .i64 r, .int .i64 c, .int .i64 a, .int .i64 m], .int .i64 E]) ∧ ActRes bv bm bo n K V M E W w') := by
    rintro W v v1 v2 ⟨R, hT⟩ hv hv1 hv2
    have e : IntKind.i64.wrap (1 + (v : Int)) = 1 + (v : Int) := by rw [IntKind.wrap_i64]; omega
    have e1 : IntKind.i64.wrap (95 + (v1 : Int)) = 95 + (v1 : Int) := by rw [IntKind.wrap_i64]; omega
    have e2 : IntKind.i64.wrap (1 + (v2 : Int)) = 1 + (v2 : Int) := by rw [IntKind.wrap_i64]; omega
    rw [e, e1, e2]
    refine (ven_replace bv bm bo n K V M (1 + (v : Int)) (95 + (v1 : Int)) (1 + (v2 : Int)) W R hT h.gv hM (by omega) h.lens hK (by omega) (by omega) (by omega) (by omega) (by omega) (by omega)).mono ?_
    rintro e w' ⟨f, r, c, a, m, E, rfl, hx⟩
    exact ⟨f, r, c, a, m, E, rfl, hx⟩
  have HH := hide h
  have lP := h.ply.lt
  clear hO h
  go_enter Tryz.func15, Tryz.ntmps15
  go_wp2_with fail
  refine (unhide HNx).mono ?_
  rintro e w1 ⟨v, rfl, hv, hd1, k1⟩
  have h1 := (unhide HH).rolled hd1 k1
  have p1 : w1.cell? ⟨P, 1, none⟩ = some (.int .i64 (n : Int)) := h1.ply.cell 1
  have p0 : w1.cell? ⟨P, 0, none⟩ = some (.pointer (some ⟨bv, 0, none⟩)) := h1.ply.cell 0
  have H1 := hide h1
  clear hd1 k1 h1 HNx HH
  have enter : ∀ (e : Ending) (w' : World), (e = .returned (.bool true) ∧ ∃ V' n' acts', n' ≤ n + 1 ∧ 0 ≤ acts' ∧ acts' ≤ acts + 1 ∧ Ply D ao len cap zs w0 P bv bm bo V' n' (K + 101) M acts' w') → e = .returned (.bool true) ∧ StepPost D ao len cap zs w0 P bv bm bo n K M acts w' := by
    rintro e w' ⟨rfl, V', n', a', q1, q2, q3, q4⟩
    exact ⟨rfl, V', n', a', q1, q2, q3, q4.mono (by omega) (Nat.le_refl _)⟩
  have HEnt := hide enter
  clear enter
  by_cases c8 : (v : Int) < 8
  · have e8 : decide ((v : Int) < 8) = true := by simp; omega
    go_wp2_with fail
    refine (unhide HEn w1 (unhide H1)).mono ?_
    rintro e w2 hx
    have hx' := unhide HEnt e w2 hx
    obtain ⟨rfl, hx2⟩ := hx'
    clear hx
    go_wp2
    go_ret
    exact ⟨rfl, hx2⟩
  · have e8 : decide ((v : Int) < 8) = false := by simp; omega
    by_cases c12 : 12 ≤ (v : Int)
    · have e12 : decide (12 ≤ (v : Int)) = true := by simp; omega
      go_wp2_with fail
      refine (unhide HEn w1 (unhide H1)).mono ?_
      rintro e w2 hx
      have hx' := unhide HEnt e w2 hx
      obtain ⟨rfl, hx2⟩ := hx'
      clear hx
      go_wp2
      go_ret
      exact ⟨rfl, hx2⟩
    · have e12 : decide (12 ≤ (v : Int)) = false := by simp; omega
      by_cases cn : n = 0
      · have en : ((n : Int) == 0) = true := by simp [cn]
        go_wp2_with fail
        refine (unhide HEn w1 (unhide H1)).mono ?_
        rintro e w2 hx
        have hx' := unhide HEnt e w2 hx
        obtain ⟨rfl, hx2⟩ := hx'
        clear hx
        go_wp2
        go_ret
        exact ⟨rfl, hx2⟩
      · have en : ((n : Int) == 0) = false := by simp; omega
        by_cases c10 : (v : Int) < 10
        · have e10 : decide ((v : Int) < 10) = true := by simp; omega
          clear c8 c12 c10
          go_wp2
          go_region_with (first | (go_at_call 35; refine (unhide HND _ ((unhide H1).keep (by repeat (first | exact Chg.refl _ _ | refine Chg.drew ?_ | refine Chg.alloc ?_ _))).dc (n : Int) (by omega) (by omega)).mono ?_; rintro e w2 ⟨u, rfl, huu, hd, k⟩; have hh := ((unhide H1).keep (by repeat (first | exact Chg.refl _ _ | refine Chg.drew ?_ | refine Chg.alloc ?_ _))).rolled hd k; have qu0 : w2.cell? ⟨P, 0, none⟩ = some (.pointer (some ⟨bv, 0, none⟩)) := hh.ply.cell 0; have qu1 : w2.cell? ⟨P, 1, none⟩ = some (.int .i64 (n : Int)) := hh.ply.cell 1; have H2 := hide hh; clear hd k hh) | (go_at_call 37; refine (unhide HCa _ u ((unhide H2).keep (by repeat (first | exact Chg.refl _ _ | refine Chg.drew ?_ | refine Chg.alloc ?_ _))).rt huu).mono ?_; rintro e w9 ⟨E, rfl, hres⟩; have HR := hide hres; clear hres))
          all_goals
            rcases unhide HR with ⟨rfl, kn⟩ | ⟨rfl, hnx⟩
            · clear HR
              have H3 := hide (((unhide H2).keep (by repeat (first | exact Chg.refl _ _ | refine Chg.drew ?_ | refine Chg.alloc ?_ _))).keep kn)
              clear kn
              go_wp2
              go_ret
              exact ⟨rfl, V, n, acts, by omega, ha, by omega, (unhide H3).mono (by omega) (by omega)⟩
            · clear HR
              obtain ⟨V2, R2, g2, l2, pl3, dc3, ft3, bl3⟩ := ((unhide H2).keep (by repeat (first | exact Chg.refl _ _ | refine Chg.drew ?_ | refine Chg.alloc ?_ _))).next hnx (fun V2 q => q)
              have p2 : w9.cell? ⟨P, 2, none⟩ = some (.int .i64 acts) := pl3.cell 2
              have g2f := pl3.frozen 2
              have HF := hide (And.intro R2 (And.intro g2 (And.intro l2 (And.intro pl3 (And.intro dc3 (And.intro ft3 bl3))))))
              clear hnx R2 g2 l2 pl3 dc3 ft3 bl3
              go_wp2
              go_ret
              obtain ⟨R2, g2, l2, pl3, dc3, ft3, bl3⟩ := unhide HF
              refine ⟨rfl, V2, n, acts + 1, by omega, by omega, Int.le_refl _, ?_⟩
              refine Ply.count R2 g2 l2 ⟨_, _, pl3⟩ dc3 ft3 (unhide H1).pP bl3 ?_ ((Chg.refl (fun x => x = P) w9).setCell (p := ⟨P, 2, none⟩) (.inl rfl) _)
              exact pl3.set 2 (.int .i64 (acts + 1))
        · have e10 : decide ((v : Int) < 10) = false := by simp; omega
          have e112 : decide ((v : Int) < 12) = true := by simp; omega
          clear c8 c12 c10
          go_wp2
          go_region_with (first | (have hsrc := H3; go_at_call 35; refine (unhide HND _ ((unhide H3).keep (by repeat (first | exact Chg.refl _ _ | refine Chg.drew ?_ | refine Chg.alloc ?_ _))).dc _ (by omega) (by omega)).mono ?_; rintro e w4 ⟨t, rfl, hut, hd, k⟩; have hh := ((unhide H3).keep (by repeat (first | exact Chg.refl _ _ | refine Chg.drew ?_ | refine Chg.alloc ?_ _))).rolled hd k; have qt0 : w4.cell? ⟨P, 0, none⟩ = some (.pointer (some ⟨bv, 0, none⟩)) := hh.ply.cell 0; have qt1 : w4.cell? ⟨P, 1, none⟩ = some (.int .i64 (n : Int)) := hh.ply.cell 1; have H4 := hide hh; clear hd k hh hsrc) | (have hsrc := H2; go_at_call 35; refine (unhide HND _ ((unhide H2).keep (by repeat (first | exact Chg.refl _ _ | refine Chg.drew ?_ | refine Chg.alloc ?_ _))).dc _ (by omega) (by omega)).mono ?_; rintro e w3 ⟨s, rfl, hus, hd, k⟩; have hh := ((unhide H2).keep (by repeat (first | exact Chg.refl _ _ | refine Chg.drew ?_ | refine Chg.alloc ?_ _))).rolled hd k; have qs0 : w3.cell? ⟨P, 0, none⟩ = some (.pointer (some ⟨bv, 0, none⟩)) := hh.ply.cell 0; have qs1 : w3.cell? ⟨P, 1, none⟩ = some (.int .i64 (n : Int)) := hh.ply.cell 1; have H3 := hide hh; clear hd k hh hsrc) | (have hsrc := H1; go_at_call 35; refine (unhide HND _ ((unhide H1).keep (by repeat (first | exact Chg.refl _ _ | refine Chg.drew ?_ | refine Chg.alloc ?_ _))).dc _ (by omega) (by omega)).mono ?_; rintro e w2 ⟨u, rfl, huu, hd, k⟩; have hh := ((unhide H1).keep (by repeat (first | exact Chg.refl _ _ | refine Chg.drew ?_ | refine Chg.alloc ?_ _))).rolled hd k; have qu0 : w2.cell? ⟨P, 0, none⟩ = some (.pointer (some ⟨bv, 0, none⟩)) := hh.ply.cell 0; have qu1 : w2.cell? ⟨P, 1, none⟩ = some (.int .i64 (n : Int)) := hh.ply.cell 1; have H2 := hide hh; clear hd k hh hsrc) | (go_at_call 38; refine (unhide HRe _ u s t ((unhide H4).keep (by repeat (first | exact Chg.refl _ _ | refine Chg.drew ?_ | refine Chg.alloc ?_ _))).rt huu hus hut).mono ?_; rintro e w9 ⟨f, r, c, a, m, E, rfl, hres⟩; have HR := hide hres; clear hres))
          all_goals
            rcases unhide HR with ⟨rfl, kn⟩ | ⟨rfl, hnx⟩
            · clear HR
              have H3 := hide (((unhide H4).keep (by repeat (first | exact Chg.refl _ _ | refine Chg.drew ?_ | refine Chg.alloc ?_ _))).keep kn)
              clear kn
              go_wp2
              go_ret
              exact ⟨rfl, V, n, acts, by omega, ha, by omega, (unhide H3).mono (by omega) (by omega)⟩
            · clear HR
              obtain ⟨V2, R2, g2, l2, pl3, dc3, ft3, bl3⟩ := ((unhide H4).keep (by repeat (first | exact Chg.refl _ _ | refine Chg.drew ?_ | refine Chg.alloc ?_ _))).next hnx (fun V2 q => q)
              have p2 : w9.cell? ⟨P, 2, none⟩ = some (.int .i64 acts) := pl3.cell 2
              have g2f := pl3.frozen 2
              have HF := hide (And.intro R2 (And.intro g2 (And.intro l2 (And.intro pl3 (And.intro dc3 (And.intro ft3 bl3))))))
              clear hnx R2 g2 l2 pl3 dc3 ft3 bl3
              go_wp2
              go_ret
              obtain ⟨R2, g2, l2, pl3, dc3, ft3, bl3⟩ := unhide HF
              refine ⟨rfl, V2, n, acts + 1, by omega, by omega, Int.le_refl _, ?_⟩
              refine Ply.count R2 g2 l2 ⟨_, _, pl3⟩ dc3 ft3 (unhide H1).pP bl3 ?_ ((Chg.refl (fun x => x = P) w9).setCell (p := ⟨P, 2, none⟩) (.inl rfl) _)
              exact pl3.set 2 (.int .i64 (acts + 1))

end Go.Proofs.YtigaphnafnpfnaaGreatDoor

