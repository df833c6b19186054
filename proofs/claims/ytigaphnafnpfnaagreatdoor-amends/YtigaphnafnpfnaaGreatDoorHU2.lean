import Derived.Test.YtigaphnafnpfnaaGreatDoorHU1
import Derived.Test.YtigaphnafnpfnaaGreatDoorHP6
import Derived.Test.YtigaphnafnpfnaaGreatDoorHT3
import Derived.Test.YtigaphnafnpfnaaGreatDoorHS3
import Derived.Test.YtigaphnafnpfnaaGreatDoorHS5
/- player.step, all of it -/
set_option linter.unusedVariables false
set_option linter.unusedSimpArgs false
namespace Go.Proofs.YtigaphnafnpfnaaGreatDoor
open Go.RowKit Go.Maps
attribute [local go_sem ↓] Go.wp_at_zero Go.wp_at_succ

/-- what a step leaves -/
def StepPostA (l : Nat) (D : Nat) (ao : Option Addr) (len cap : Nat) (zs : Nat → Int) (w0 : World) (P bv bm bo n K : Nat) (M acts : Int) (w' : World) : Prop :=
  ∃ V' n' acts', n' ≤ n + 1 ∧ 0 ≤ acts' ∧ acts' ≤ acts + 1 ∧ Ply D ao len cap zs w0 P bv bm bo V' n' (K + 101) (M + 9) acts' w' ∧ AP V' (K + 101) l

/-- an act that answers an error, or not -/
def ActResA (l bv bm bo n K : Nat) (V : Ven) (M E : Int) (W w' : World) : Prop := ((E = 6 ∨ E = 10 ∨ E = 11) ∧ Chg Non W w') ∨ (E = 0 ∧ Next bv bm bo V (fun V2 => AQ n (K + 101) (M + 9) V2 ∧ 0 ≤ V2.lg.day ∧ V2.lg.day ≤ ((K + 101 : Nat) : Int) ∧ l ≤ V2.lg.tp.length) W w')

theorem ActResA.chg {l bv bm bo n K : Nat} {V : Ven} {M E : Int} {w w' : World} (h : ActResA l bv bm bo n K V M E w w') : Chg (Foot bv bm bo V) w w' := by
  rcases h with ⟨_, k⟩ | ⟨_, ⟨V2, _, _, k, _⟩⟩
  · exact k.of_non
  · exact k

set_option maxHeartbeats 4000000 in
set_option maxRecDepth 100000 in
theorem stepA_any (D : Nat) (ao : Option Addr) (len cap : Nat) (zs : Nat → Int) (w0 : World) (P bv bm bo : Nat) (V : Ven) (n K : Nat) (M acts : Int) (w : World) (h : Ply D ao len cap zs w0 P bv bm bo V n K M acts w) (l : Nat) (hAP : AP V K l) (hO : OrderOK D ao len cap zs w0.heap.size P bv n) (h9 : 9 ≤ M) (hM : M + 9 ≤ 1000000) (hn : n < 100) (hK : K + 300 < 1000000) (ha : 0 ≤ acts) (ha2 : acts < 1000000) :
    Calls Tryz.prog 15 #[.pointer (some ⟨P, 0, none⟩), .pointer (some ⟨D, 0, none⟩), .bool true] w fun e w' => e = .returned (.bool true) ∧ StepPostA l D ao len cap zs w0 P bv bm bo n K M acts w' := by
  have HNx := hide (next_dc D ao len cap zs w0.heap.size 16 w h.dc (by omega) (by omega))
  have HEn := hide (fun (W : World) (hW : Ply D ao len cap zs w0 P bv bm bo V n K M acts W) => penterA_any D ao len cap zs w0 P bv bm bo V n K M acts W hW l hAP hO h9 (by omega) hn hK ha ha2)
  have HND := hide (fun (W : World) (hd : Dc D ao len cap zs w0.heap.size W) (m : Int) (h1 : 0 < m) (h2 : m ≤ 1000000) => next_dc D ao len cap zs w0.heap.size m W hd h1 h2)
  have HCa : Hid (∀ (W : World) (v : Nat), Rep W bv bm bo V ∧ Tab W → (v : Int) < n → Calls Tryz.prog 37 #[.pointer (some ⟨bv, 0, none⟩), .int .i64 (IntKind.i64.wrap (1 + (v : Int)))] W fun e w' => ∃ E, e = .returned (.int .i64 E) ∧ ActResA l bv bm bo n K V M E W w') := by
    rintro W v ⟨R, hT⟩ hv
    have e : IntKind.i64.wrap (1 + (v : Int)) = 1 + (v : Int) := by rw [IntKind.wrap_i64]; omega
    rw [e]
    refine (ven_cancelA bv bm bo n K V M (1 + (v : Int)) W R hT h.gv hAP.1 (by omega) (by omega) h.lens hK (by omega) (by omega)).mono ?_
    rintro e w' (⟨rfl, k⟩ | ⟨rfl, hx⟩)
    · exact ⟨10, rfl, .inl ⟨.inr (.inl rfl), k⟩⟩
    · obtain ⟨V2, R2, q2, k2, f2⟩ := hx
      exact ⟨0, rfl, .inr ⟨rfl, V2, R2, ⟨⟨q2.1.1.mono (by omega), q2.1.2.1, q2.1.2.2⟩, by have := q2.2; have := hAP.2; omega⟩, k2, f2⟩⟩
  have HRe : Hid (∀ (W : World) (v v1 v2 : Nat), Rep W bv bm bo V ∧ Tab W → (v : Int) < n → (v1 : Int) < 10 → (v2 : Int) < 9 → Calls Tryz.prog 38 #[.pointer (some ⟨bv, 0, none⟩), .int .i64 (IntKind.i64.wrap (1 + (v : Int))), .int .i64 (IntKind.i64.wrap (95 + (v1 : Int))), .int .i64 (IntKind.i64.wrap (1 + (v2 : Int)))] W fun e w' => ∃ f r c a m E, e = .returned (.tuple #[.agg #[.int .i64 f, .int .i64 r, .int .i64 c, .int .i64 a, .int .i64 m], .int .i64 E]) ∧ ActResA l bv bm bo n K V M E W w') := by
    rintro W v v1 v2 ⟨R, hT⟩ hv hv1 hv2
    have e : IntKind.i64.wrap (1 + (v : Int)) = 1 + (v : Int) := by rw [IntKind.wrap_i64]; omega
    have e1 : IntKind.i64.wrap (95 + (v1 : Int)) = 95 + (v1 : Int) := by rw [IntKind.wrap_i64]; omega
    have e2 : IntKind.i64.wrap (1 + (v2 : Int)) = 1 + (v2 : Int) := by rw [IntKind.wrap_i64]; omega
    rw [e, e1, e2]
    refine (ven_replaceA bv bm bo n K V M (1 + (v : Int)) (95 + (v1 : Int)) (1 + (v2 : Int)) W R hT h.gv hAP.1 hM (by omega) h.lens hK (by omega) (by omega) (by omega) (by omega) (by omega) (by omega)).mono ?_
    rintro e w' ⟨f, r, c, a, m, E, rfl, hx⟩
    refine ⟨f, r, c, a, m, E, rfl, ?_⟩
    rcases hx with ⟨rfl, k⟩ | ⟨rfl, V2, R2, q2, k2, f2⟩
    · exact .inl ⟨.inr (.inl rfl), k⟩
    · exact .inr ⟨rfl, V2, R2, ⟨q2.1, by have := q2.2; have := hAP.2; omega⟩, k2, f2⟩
  have HPut : ∀ {E : Int} {W w' : World}, PutRes bv bm bo n (K + 101) V M E W w' → ActResA l bv bm bo n K V M E W w' := by
    rintro E W w' (h' | ⟨rfl, V2, R2, q2, k2, f2⟩)
    · exact .inl h'
    · exact .inr ⟨rfl, V2, R2, ⟨⟨q2.1.1.mono (by omega), q2.1.2.1, q2.1.2.2⟩, by have := q2.2; have := hAP.2; omega⟩, k2, f2⟩
  have HBu : Hid (∀ (W : World) (v : Nat) (ag : Bool), Rep W bv bm bo V ∧ Tab W → Calls Tryz.prog 39 #[.pointer (some ⟨bv, 0, none⟩), .int .i64 (IntKind.i64.wrap (1 + (v : Int))), .bool ag] W fun e w' => ∃ E, e = .returned (.int .i64 E) ∧ ActResA l bv bm bo n K V M E W w') := by
    rintro W v ag ⟨R, hT⟩
    refine (ven_bust bv bm bo n K V M _ ag W R hT h.gv hAP.1 (by omega) (by omega) h.lens hK).mono ?_
    rintro e w' ⟨E, rfl, hx⟩
    exact ⟨E, rfl, HPut hx⟩
  have HCo : Hid (∀ (W : World) (v u : Nat), Rep W bv bm bo V ∧ Tab W → (u : Int) < 20 → Calls Tryz.prog 40 #[.pointer (some ⟨bv, 0, none⟩), .int .i64 (IntKind.i64.wrap (1 + (v : Int))), .int .i64 (IntKind.i64.wrap (90 + (u : Int)))] W fun e w' => ∃ E, e = .returned (.int .i64 E) ∧ ActResA l bv bm bo n K V M E W w') := by
    rintro W v u ⟨R, hT⟩ hu
    have e1 : IntKind.i64.wrap (90 + (u : Int)) = 90 + (u : Int) := by rw [IntKind.wrap_i64]; omega
    rw [e1]
    refine (ven_correct bv bm bo n K V M _ (90 + (u : Int)) W R hT h.gv hAP.1 h.lens hK (numB_small (by omega) (by omega))).mono ?_
    rintro e w' ⟨E, rfl, hx⟩
    exact ⟨E, rfl, HPut hx⟩
  have HCl : Hid (∀ (W : World), Rep W bv bm bo V → Calls Tryz.prog 41 #[.pointer (some ⟨bv, 0, none⟩)] W fun e w' => e = .returned (.tuple #[]) ∧ ActResA l bv bm bo n K V M 0 W w') := by
    intro W R
    refine (close_ok bv bm bo n K V M W R h.gv hAP.1 (by omega) (by omega) h.lens hK (by have := hAP.2; omega)).mono ?_
    rintro e w' ⟨rfl, V2, R2, q2, k2, f2⟩
    exact ⟨rfl, .inr ⟨rfl, V2, R2, ⟨⟨q2.1.1.mono (by omega), q2.1.2.1, q2.1.2.2⟩, by have := q2.2; have := hAP.2; omega⟩, k2, f2⟩⟩
  have HTp : Hid (∀ (W : World), Rep W bv bm bo V → Calls Tryz.prog 17 #[.pointer (some ⟨bv, 0, none⟩), .int .i64 0] W fun e w' => ∃ a m c, e = .returned (.slice a m c) ∧ m ≤ K ∧ Chg Non W w') := by
    intro W R
    refine (tape_any bv bm bo 0 0 V.lg V.lm W R.log hAP.1.ty (by have := h.lens.1; omega) (.inl ⟨rfl, rfl⟩) (by omega)).mono ?_
    rintro e w' ⟨a, c, rfl, _, k⟩
    exact ⟨a, _, c, rfl, by have := h.lens.1; rw [List.length_drop]; omega, k⟩
  have HAP := hide hAP
  have HH := hide h
  have lP := h.ply.lt
  clear hO h hAP HPut
  go_enter Tryz.func15, Tryz.ntmps15
  go_wp2_with fail
  refine (unhide HNx).mono ?_
  rintro e w1 ⟨v, rfl, hv, hd1, k1⟩
  have h1 := (unhide HH).rolled hd1 k1
  have p1 : w1.cell? ⟨P, 1, none⟩ = some (.int .i64 (n : Int)) := h1.ply.cell 1
  have p0 : w1.cell? ⟨P, 0, none⟩ = some (.pointer (some ⟨bv, 0, none⟩)) := h1.ply.cell 0
  have H1 := hide h1
  clear hd1 k1 h1 HNx HH
  have enter : ∀ (e : Ending) (w' : World), (e = .returned (.bool true) ∧ ∃ V' n' acts', n' ≤ n + 1 ∧ 0 ≤ acts' ∧ acts' ≤ acts + 1 ∧ Ply D ao len cap zs w0 P bv bm bo V' n' (K + 101) M acts' w' ∧ AP V' (K + 101) l) → e = .returned (.bool true) ∧ StepPostA l D ao len cap zs w0 P bv bm bo n K M acts w' := by
    rintro e w' ⟨rfl, V', n', a', q1, q2, q3, q4, q5⟩
    exact ⟨rfl, V', n', a', q1, q2, q3, q4.mono (by omega) (Nat.le_refl _), q5⟩
  have HEnt := hide enter
  clear enter
  by_cases c8 : (v : Int) < 8
  · have e8 : decide ((v : Int) < 8) = true := by simp; omega
    go_wp2_with fail
    refine (unhide HEn w1 (unhide H1)).mono ?_
    rintro e w2 hx
    have hx' := unhide HEnt e w2 hx
    obtain ⟨rfl, hx2⟩ := hx'
    clear hx
    go_wp2
    go_ret
    exact ⟨rfl, hx2⟩
  · have e8 : decide ((v : Int) < 8) = false := by simp; omega
    by_cases cn : n = 0
    · have en : ((n : Int) == 0) = true := by simp [cn]
      go_wp2_with fail
      refine (unhide HEn w1 (unhide H1)).mono ?_
      rintro e w2 hx
      have hx' := unhide HEnt e w2 hx
      obtain ⟨rfl, hx2⟩ := hx'
      clear hx
      go_wp2
      go_ret
      exact ⟨rfl, hx2⟩
    · have en : ((n : Int) == 0) = false := by simp; omega
      by_cases c10 : (v : Int) < 10
      · have e10 : decide ((v : Int) < 10) = true := by simp; omega
        clear c8 c10
        go_wp2
        go_region_with (first | (have hsrc := H1; go_at_call 35; refine (unhide HND _ ((unhide H1).keep (by repeat (first | exact Chg.refl _ _ | refine Chg.drew ?_ | refine Chg.alloc ?_ _))).dc _ (by omega) (by omega)).mono ?_; rintro e wu ⟨u, rfl, hu, hd, k⟩; have hh := ((unhide H1).keep (by repeat (first | exact Chg.refl _ _ | refine Chg.drew ?_ | refine Chg.alloc ?_ _))).rolled hd k; have qu0 : wu.cell? ⟨P, 0, none⟩ = some (.pointer (some ⟨bv, 0, none⟩)) := hh.ply.cell 0; have qu1 : wu.cell? ⟨P, 1, none⟩ = some (.int .i64 (n : Int)) := hh.ply.cell 1; have H2 := hide hh; clear hd k hh hsrc) | (go_at_call 37; refine (unhide HCa _ u ((unhide H2).keep (by repeat (first | exact Chg.refl _ _ | refine Chg.drew ?_ | refine Chg.alloc ?_ _))).rt hu).mono ?_; rintro e w9 ⟨E, rfl, hres⟩; have HR := hide hres; clear hres))
        all_goals
          rcases unhide HR with ⟨hE, kn⟩ | ⟨rfl, hnx⟩
          · clear HR
            have H9 := hide (((unhide H2).keep (by repeat (first | exact Chg.refl _ _ | refine Chg.drew ?_ | refine Chg.alloc ?_ _))).keep kn)
            clear kn
            rcases hE with rfl | rfl | rfl
            all_goals
              go_wp2
              go_ret
              exact ⟨rfl, V, n, acts, by omega, ha, by omega, (unhide H9).mono (by omega) (by omega), (unhide HAP).mono (by omega)⟩
          · clear HR
            obtain ⟨V2, R2, g2, l2, pl3, dc3, ft3, bl3, ap3⟩ := ((unhide H2).keep (by repeat (first | exact Chg.refl _ _ | refine Chg.drew ?_ | refine Chg.alloc ?_ _))).nextA hnx (fun V2 q => q)
            have p2 : w9.cell? ⟨P, 2, none⟩ = some (.int .i64 acts) := pl3.cell 2
            have g2f := pl3.frozen 2
            have HF := hide (And.intro R2 (And.intro g2 (And.intro l2 (And.intro pl3 (And.intro dc3 (And.intro ft3 (And.intro bl3 ap3)))))))
            clear hnx R2 g2 l2 pl3 dc3 ft3 bl3 ap3
            go_wp2
            go_ret
            obtain ⟨R2, g2, l2, pl3, dc3, ft3, bl3, ap3⟩ := unhide HF
            refine ⟨rfl, V2, n, acts + 1, by omega, by omega, Int.le_refl _, ?_, ap3⟩
            refine Ply.count R2 g2 l2 ⟨_, _, pl3⟩ dc3 ft3 (unhide H1).pP bl3 ?_ ((Chg.refl (fun x => x = P) w9).setCell (p := ⟨P, 2, none⟩) (.inl rfl) _)
            exact pl3.set 2 (.int .i64 (acts + 1))
      · have e10 : decide ((v : Int) < 10) = false := by simp; omega
        by_cases c12 : (v : Int) < 12
        · have e12 : decide ((v : Int) < 12) = true := by simp; omega
          clear c8 c10 c12
          go_wp2
          go_region_with (first | (have hsrc := H3; go_at_call 35; refine (unhide HND _ ((unhide H3).keep (by repeat (first | exact Chg.refl _ _ | refine Chg.drew ?_ | refine Chg.alloc ?_ _))).dc _ (by omega) (by omega)).mono ?_; rintro e wt ⟨t, rfl, ht, hd, k⟩; have hh := ((unhide H3).keep (by repeat (first | exact Chg.refl _ _ | refine Chg.drew ?_ | refine Chg.alloc ?_ _))).rolled hd k; have qt0 : wt.cell? ⟨P, 0, none⟩ = some (.pointer (some ⟨bv, 0, none⟩)) := hh.ply.cell 0; have qt1 : wt.cell? ⟨P, 1, none⟩ = some (.int .i64 (n : Int)) := hh.ply.cell 1; have H4 := hide hh; clear hd k hh hsrc) | (have hsrc := H2; go_at_call 35; refine (unhide HND _ ((unhide H2).keep (by repeat (first | exact Chg.refl _ _ | refine Chg.drew ?_ | refine Chg.alloc ?_ _))).dc _ (by omega) (by omega)).mono ?_; rintro e ws ⟨s, rfl, hs, hd, k⟩; have hh := ((unhide H2).keep (by repeat (first | exact Chg.refl _ _ | refine Chg.drew ?_ | refine Chg.alloc ?_ _))).rolled hd k; have qs0 : ws.cell? ⟨P, 0, none⟩ = some (.pointer (some ⟨bv, 0, none⟩)) := hh.ply.cell 0; have qs1 : ws.cell? ⟨P, 1, none⟩ = some (.int .i64 (n : Int)) := hh.ply.cell 1; have H3 := hide hh; clear hd k hh hsrc) | (have hsrc := H1; go_at_call 35; refine (unhide HND _ ((unhide H1).keep (by repeat (first | exact Chg.refl _ _ | refine Chg.drew ?_ | refine Chg.alloc ?_ _))).dc _ (by omega) (by omega)).mono ?_; rintro e wu ⟨u, rfl, hu, hd, k⟩; have hh := ((unhide H1).keep (by repeat (first | exact Chg.refl _ _ | refine Chg.drew ?_ | refine Chg.alloc ?_ _))).rolled hd k; have qu0 : wu.cell? ⟨P, 0, none⟩ = some (.pointer (some ⟨bv, 0, none⟩)) := hh.ply.cell 0; have qu1 : wu.cell? ⟨P, 1, none⟩ = some (.int .i64 (n : Int)) := hh.ply.cell 1; have H2 := hide hh; clear hd k hh hsrc) | (go_at_call 38; refine (unhide HRe _ u s t ((unhide H4).keep (by repeat (first | exact Chg.refl _ _ | refine Chg.drew ?_ | refine Chg.alloc ?_ _))).rt hu hs ht).mono ?_; rintro e w9 ⟨f, r, c, a, m, E, rfl, hres⟩; have HR := hide hres; clear hres))
          all_goals
            rcases unhide HR with ⟨hE, kn⟩ | ⟨rfl, hnx⟩
            · clear HR
              have H9 := hide (((unhide H4).keep (by repeat (first | exact Chg.refl _ _ | refine Chg.drew ?_ | refine Chg.alloc ?_ _))).keep kn)
              clear kn
              rcases hE with rfl | rfl | rfl
              all_goals
                go_wp2
                go_ret
                exact ⟨rfl, V, n, acts, by omega, ha, by omega, (unhide H9).mono (by omega) (by omega), (unhide HAP).mono (by omega)⟩
            · clear HR
              obtain ⟨V2, R2, g2, l2, pl3, dc3, ft3, bl3, ap3⟩ := ((unhide H4).keep (by repeat (first | exact Chg.refl _ _ | refine Chg.drew ?_ | refine Chg.alloc ?_ _))).nextA hnx (fun V2 q => q)
              have p2 : w9.cell? ⟨P, 2, none⟩ = some (.int .i64 acts) := pl3.cell 2
              have g2f := pl3.frozen 2
              have HF := hide (And.intro R2 (And.intro g2 (And.intro l2 (And.intro pl3 (And.intro dc3 (And.intro ft3 (And.intro bl3 ap3)))))))
              clear hnx R2 g2 l2 pl3 dc3 ft3 bl3 ap3
              go_wp2
              go_ret
              obtain ⟨R2, g2, l2, pl3, dc3, ft3, bl3, ap3⟩ := unhide HF
              refine ⟨rfl, V2, n, acts + 1, by omega, by omega, Int.le_refl _, ?_, ap3⟩
              refine Ply.count R2 g2 l2 ⟨_, _, pl3⟩ dc3 ft3 (unhide H1).pP bl3 ?_ ((Chg.refl (fun x => x = P) w9).setCell (p := ⟨P, 2, none⟩) (.inl rfl) _)
              exact pl3.set 2 (.int .i64 (acts + 1))
        · have e12 : decide ((v : Int) < 12) = false := by simp; omega
          by_cases c14 : (v : Int) < 14
          · have e14 : decide ((v : Int) < 14) = true := by simp; omega
            clear c8 c10 c12 c14
            go_wp2_with fail
            refine (unhide HTp w1 (unhide H1).rep).mono ?_
            rintro e wt ⟨ta, tm, tc, rfl, htm, kt⟩
            have ht1 := (unhide H1).keep kt
            have pt0 : wt.cell? ⟨P, 0, none⟩ = some (.pointer (some ⟨bv, 0, none⟩)) := ht1.ply.cell 0
            have HW := hide ht1
            have HNW : Hid (∀ W : World, Dc D ao len cap zs w0.heap.size W → Calls Tryz.prog 35 #[.pointer (some ⟨D, 0, none⟩), .int .i64 (IntKind.i64.wrap ((tm : Int) + 1))] W fun e w' => ∃ v : Nat, e = .returned (.int .i64 (v : Int)) ∧ (v : Int) < (tm : Int) + 1 ∧ Dc D ao len cap zs w0.heap.size w' ∧ Chg (fun x => x = D) W w') := fun W hd => by
              have e : IntKind.i64.wrap ((tm : Int) + 1) = (tm : Int) + 1 := by rw [IntKind.wrap_i64]; omega
              rw [e]
              exact unhide HND W hd ((tm : Int) + 1) (by omega) (by omega)
            clear kt ht1
            go_wp2
            go_region_with (first | (have hsrc := H2; go_at_call 35; refine (unhide HND _ ((unhide H2).keep (by repeat (first | exact Chg.refl _ _ | refine Chg.drew ?_ | refine Chg.alloc ?_ _))).dc _ (by omega) (by omega)).mono ?_; rintro e ws ⟨s, rfl, hs, hd, k⟩; have hh := ((unhide H2).keep (by repeat (first | exact Chg.refl _ _ | refine Chg.drew ?_ | refine Chg.alloc ?_ _))).rolled hd k; have qs0 : ws.cell? ⟨P, 0, none⟩ = some (.pointer (some ⟨bv, 0, none⟩)) := hh.ply.cell 0; have qs1 : ws.cell? ⟨P, 1, none⟩ = some (.int .i64 (n : Int)) := hh.ply.cell 1; have H3 := hide hh; clear hd k hh hsrc) | (have hsrc := HW; go_at_call 35; refine (unhide HNW _ ((unhide HW).keep (by repeat (first | exact Chg.refl _ _ | refine Chg.drew ?_ | refine Chg.alloc ?_ _))).dc).mono ?_; rintro e wu ⟨u, rfl, hu, hd, k⟩; have hh := ((unhide HW).keep (by repeat (first | exact Chg.refl _ _ | refine Chg.drew ?_ | refine Chg.alloc ?_ _))).rolled hd k; have qu0 : wu.cell? ⟨P, 0, none⟩ = some (.pointer (some ⟨bv, 0, none⟩)) := hh.ply.cell 0; have qu1 : wu.cell? ⟨P, 1, none⟩ = some (.int .i64 (n : Int)) := hh.ply.cell 1; have H2 := hide hh; clear hd k hh hsrc) | (go_at_call 39; refine (unhide HBu _ u _ ((unhide H3).keep (by repeat (first | exact Chg.refl _ _ | refine Chg.drew ?_ | refine Chg.alloc ?_ _))).rt).mono ?_; rintro e w9 ⟨E, rfl, hres⟩; have HR := hide hres; clear hres))
            all_goals
              rcases unhide HR with ⟨hE, kn⟩ | ⟨rfl, hnx⟩
              · clear HR
                have H9 := hide (((unhide H3).keep (by repeat (first | exact Chg.refl _ _ | refine Chg.drew ?_ | refine Chg.alloc ?_ _))).keep kn)
                clear kn
                rcases hE with rfl | rfl | rfl
                all_goals
                  go_wp2
                  go_ret
                  exact ⟨rfl, V, n, acts, by omega, ha, by omega, (unhide H9).mono (by omega) (by omega), (unhide HAP).mono (by omega)⟩
              · clear HR
                obtain ⟨V2, R2, g2, l2, pl3, dc3, ft3, bl3, ap3⟩ := ((unhide H3).keep (by repeat (first | exact Chg.refl _ _ | refine Chg.drew ?_ | refine Chg.alloc ?_ _))).nextA hnx (fun V2 q => q)
                have p2 : w9.cell? ⟨P, 2, none⟩ = some (.int .i64 acts) := pl3.cell 2
                have g2f := pl3.frozen 2
                have HF := hide (And.intro R2 (And.intro g2 (And.intro l2 (And.intro pl3 (And.intro dc3 (And.intro ft3 (And.intro bl3 ap3)))))))
                clear hnx R2 g2 l2 pl3 dc3 ft3 bl3 ap3
                go_wp2
                go_ret
                obtain ⟨R2, g2, l2, pl3, dc3, ft3, bl3, ap3⟩ := unhide HF
                refine ⟨rfl, V2, n, acts + 1, by omega, by omega, Int.le_refl _, ?_, ap3⟩
                refine Ply.count R2 g2 l2 ⟨_, _, pl3⟩ dc3 ft3 (unhide H1).pP bl3 ?_ ((Chg.refl (fun x => x = P) w9).setCell (p := ⟨P, 2, none⟩) (.inl rfl) _)
                exact pl3.set 2 (.int .i64 (acts + 1))
          · have e14 : decide ((v : Int) < 14) = false := by simp; omega
            by_cases c15 : (v : Int) < 15
            · have e15 : decide ((v : Int) < 15) = true := by simp; omega
              clear c8 c10 c12 c14 c15
              go_wp2_with fail
              refine (unhide HTp w1 (unhide H1).rep).mono ?_
              rintro e wt ⟨ta, tm, tc, rfl, htm, kt⟩
              have ht1 := (unhide H1).keep kt
              have pt0 : wt.cell? ⟨P, 0, none⟩ = some (.pointer (some ⟨bv, 0, none⟩)) := ht1.ply.cell 0
              have HW := hide ht1
              have HNW : Hid (∀ W : World, Dc D ao len cap zs w0.heap.size W → Calls Tryz.prog 35 #[.pointer (some ⟨D, 0, none⟩), .int .i64 (IntKind.i64.wrap ((tm : Int) + 1))] W fun e w' => ∃ v : Nat, e = .returned (.int .i64 (v : Int)) ∧ (v : Int) < (tm : Int) + 1 ∧ Dc D ao len cap zs w0.heap.size w' ∧ Chg (fun x => x = D) W w') := fun W hd => by
                have e : IntKind.i64.wrap ((tm : Int) + 1) = (tm : Int) + 1 := by rw [IntKind.wrap_i64]; omega
                rw [e]
                exact unhide HND W hd ((tm : Int) + 1) (by omega) (by omega)
              clear kt ht1
              go_wp2
              go_region_with (first | (have hsrc := H2; go_at_call 35; refine (unhide HND _ ((unhide H2).keep (by repeat (first | exact Chg.refl _ _ | refine Chg.drew ?_ | refine Chg.alloc ?_ _))).dc _ (by omega) (by omega)).mono ?_; rintro e ws ⟨s, rfl, hs, hd, k⟩; have hh := ((unhide H2).keep (by repeat (first | exact Chg.refl _ _ | refine Chg.drew ?_ | refine Chg.alloc ?_ _))).rolled hd k; have qs0 : ws.cell? ⟨P, 0, none⟩ = some (.pointer (some ⟨bv, 0, none⟩)) := hh.ply.cell 0; have qs1 : ws.cell? ⟨P, 1, none⟩ = some (.int .i64 (n : Int)) := hh.ply.cell 1; have H3 := hide hh; clear hd k hh hsrc) | (have hsrc := HW; go_at_call 35; refine (unhide HNW _ ((unhide HW).keep (by repeat (first | exact Chg.refl _ _ | refine Chg.drew ?_ | refine Chg.alloc ?_ _))).dc).mono ?_; rintro e wu ⟨u, rfl, hu, hd, k⟩; have hh := ((unhide HW).keep (by repeat (first | exact Chg.refl _ _ | refine Chg.drew ?_ | refine Chg.alloc ?_ _))).rolled hd k; have qu0 : wu.cell? ⟨P, 0, none⟩ = some (.pointer (some ⟨bv, 0, none⟩)) := hh.ply.cell 0; have qu1 : wu.cell? ⟨P, 1, none⟩ = some (.int .i64 (n : Int)) := hh.ply.cell 1; have H2 := hide hh; clear hd k hh hsrc) | (go_at_call 40; refine (unhide HCo _ u s ((unhide H3).keep (by repeat (first | exact Chg.refl _ _ | refine Chg.drew ?_ | refine Chg.alloc ?_ _))).rt hs).mono ?_; rintro e w9 ⟨E, rfl, hres⟩; have HR := hide hres; clear hres))
              all_goals
                rcases unhide HR with ⟨hE, kn⟩ | ⟨rfl, hnx⟩
                · clear HR
                  have H9 := hide (((unhide H3).keep (by repeat (first | exact Chg.refl _ _ | refine Chg.drew ?_ | refine Chg.alloc ?_ _))).keep kn)
                  clear kn
                  rcases hE with rfl | rfl | rfl
                  all_goals
                    go_wp2
                    go_ret
                    exact ⟨rfl, V, n, acts, by omega, ha, by omega, (unhide H9).mono (by omega) (by omega), (unhide HAP).mono (by omega)⟩
                · clear HR
                  obtain ⟨V2, R2, g2, l2, pl3, dc3, ft3, bl3, ap3⟩ := ((unhide H3).keep (by repeat (first | exact Chg.refl _ _ | refine Chg.drew ?_ | refine Chg.alloc ?_ _))).nextA hnx (fun V2 q => q)
                  have p2 : w9.cell? ⟨P, 2, none⟩ = some (.int .i64 acts) := pl3.cell 2
                  have g2f := pl3.frozen 2
                  have HF := hide (And.intro R2 (And.intro g2 (And.intro l2 (And.intro pl3 (And.intro dc3 (And.intro ft3 (And.intro bl3 ap3)))))))
                  clear hnx R2 g2 l2 pl3 dc3 ft3 bl3 ap3
                  go_wp2
                  go_ret
                  obtain ⟨R2, g2, l2, pl3, dc3, ft3, bl3, ap3⟩ := unhide HF
                  refine ⟨rfl, V2, n, acts + 1, by omega, by omega, Int.le_refl _, ?_, ap3⟩
                  refine Ply.count R2 g2 l2 ⟨_, _, pl3⟩ dc3 ft3 (unhide H1).pP bl3 ?_ ((Chg.refl (fun x => x = P) w9).setCell (p := ⟨P, 2, none⟩) (.inl rfl) _)
                  exact pl3.set 2 (.int .i64 (acts + 1))
            · have e15 : decide ((v : Int) < 15) = false := by simp; omega
              clear c8 c10 c12 c14 c15
              go_wp2_with fail
              refine (unhide HCl w1 (unhide H1).rep).mono ?_
              rintro e w9 ⟨rfl, hres⟩
              have HR := hide hres
              clear hres
              all_goals
                rcases unhide HR with ⟨hE, kn⟩ | ⟨-, hnx⟩
                · clear HR
                  have H9 := hide (((unhide H1).keep (by repeat (first | exact Chg.refl _ _ | refine Chg.drew ?_ | refine Chg.alloc ?_ _))).keep kn)
                  clear kn
                  omega
                · clear HR
                  obtain ⟨V2, R2, g2, l2, pl3, dc3, ft3, bl3, ap3⟩ := ((unhide H1).keep (by repeat (first | exact Chg.refl _ _ | refine Chg.drew ?_ | refine Chg.alloc ?_ _))).nextA hnx (fun V2 q => q)
                  have p2 : w9.cell? ⟨P, 2, none⟩ = some (.int .i64 acts) := pl3.cell 2
                  have g2f := pl3.frozen 2
                  have HF := hide (And.intro R2 (And.intro g2 (And.intro l2 (And.intro pl3 (And.intro dc3 (And.intro ft3 (And.intro bl3 ap3)))))))
                  clear hnx R2 g2 l2 pl3 dc3 ft3 bl3 ap3
                  go_wp2
                  go_ret
                  obtain ⟨R2, g2, l2, pl3, dc3, ft3, bl3, ap3⟩ := unhide HF
                  refine ⟨rfl, V2, n, acts + 1, by omega, by omega, Int.le_refl _, ?_, ap3⟩
                  refine Ply.count R2 g2 l2 ⟨_, _, pl3⟩ dc3 ft3 (unhide H1).pP bl3 ?_ ((Chg.refl (fun x => x = P) w9).setCell (p := ⟨P, 2, none⟩) (.inl rfl) _)
                  exact pl3.set 2 (.int .i64 (acts + 1))

end Go.Proofs.YtigaphnafnpfnaaGreatDoor

