/- toPutRight -/
import Derived.Test.YtigaphnafnpfnaaDoorF1
set_option linter.unusedVariables false
set_option linter.unusedSimpArgs false
namespace Go.Proofs.YtigaphnafnpfnaaDoor
open Go.RowKit Go.Maps
attribute [local go_sem ↓] Go.wp_at_zero Go.wp_at_succ

theorem LogVp.at {w : World} {G : Lg} {m : Lm} (h : LogV w G m) {k : Nat} {x : Tg} (hx : G.tr[k]? = some x) :
    ∃ g cap b, m.tv = .slice (some ⟨g, 0, none⟩) G.tr.length cap ∧ w.cell? ⟨g, k, none⟩ = some (.pointer (some ⟨b, 0, none⟩)) ∧ m.tb[k]? = some b ∧ Blk w b x.cells 84 := by
  have hk : k < G.tr.length := (List.getElem?_eq_some_iff.1 hx).1
  have hb : k < m.tb.length := by rw [h.len]; exact hk
  rcases h.trow.2 with ⟨_, h0⟩ | ⟨g, cap, cs, hv, _, hg, h1, h2, h3, h4⟩
  · omega
  · refine ⟨g, cap, m.tb[k], hv, ?_, List.getElem?_eq_getElem hb, h.blk k _ x (List.getElem?_eq_getElem hb) hx⟩
    have hc : Blk w g cs 77 := hg
    rw [hc.cell]
    have e : cs.toList[k]? = (m.tb.map ptrT)[k]? := by rw [← h4, List.getElem?_take, if_pos (by omega)]
    rw [← Array.getElem?_toList, e, List.getElem?_map, List.getElem?_eq_getElem hb]
    rfl

set_option maxHeartbeats 1000000 in
set_option maxRecDepth 100000 in
theorem toPut_none (bv bm bo : Nat) (G : Lg) (lm : Lm) (N : Int) (w : World) (hL : IsLog w bv bm bo G lm) (h : N < 1 ∨ (G.tr.length : Int) < N) :
    Calls Tryd.prog 23 #[.pointer (some ⟨bv, 0, none⟩), .int .i64 N] w fun e w' => e = .returned (.tuple #[.pointer none, .int .i64 6]) ∧ Chg Non w w' := by
  obtain ⟨n, hn⟩ : ∃ n, G.tr.length = n := ⟨_, rfl⟩
  rw [hn] at h
  obtain ⟨pa, pc, htv⟩ := hL.log.tvForm hn
  have v2 : w.cell? ⟨bv, 2, none⟩ = some (.slice pa n pc) := by rw [← htv]; exact hL.ven.cell 2
  clear hL htv hn
  by_cases h1 : N < 1
  · have e1 : decide (N < 1) = true := by simp [h1]
    clear h h1
    go_enter Tryd.func23, Tryd.ntmps23
    go_wp2
    go_ret2
    exact ⟨rfl, by repeat (first | exact Chg.refl _ _ | refine Chg.drewN ?_ _ | refine Chg.drew ?_)⟩
  · have e1 : decide (N < 1) = false := by simp [h1]
    have e2 : decide ((n : Int) < N) = true := by simp; omega
    clear h h1
    go_enter Tryd.func23, Tryd.ntmps23
    go_wp2
    go_ret2
    exact ⟨rfl, by repeat (first | exact Chg.refl _ _ | refine Chg.drewN ?_ _ | refine Chg.drew ?_)⟩

/-- what toPutRight says of a trade that there was -/
def putE (x : Tg) (day : Int) : Int := if x.holds = false then 10 else if x.t.day ≠ day then 11 else 0

set_option maxHeartbeats 1000000 in
set_option maxRecDepth 100000 in
theorem toPut_at (bv bm bo k b : Nat) (G : Lg) (lm : Lm) (N : Int) (x : Tg) (w : World) (hL : IsLog w bv bm bo G lm) (hN : N - 1 = (k : Int)) (hx : G.tr[k]? = some x) (hb : lm.tb[k]? = some b) (hlen : G.tr.length ≤ 1000000) :
    Calls Tryd.prog 23 #[.pointer (some ⟨bv, 0, none⟩), .int .i64 N] w fun e w' => e = .returned (.tuple #[if putE x G.day = 0 then .pointer (some ⟨b, 0, none⟩) else .pointer none, .int .i64 (putE x G.day)]) ∧ Chg Non w w' := by
  obtain ⟨g, pc, b', htv, hc, hb', hblk⟩ := hL.log.at hx
  obtain rfl : b' = b := by rw [hb] at hb'; exact (Option.some.inj hb').symm
  have hk : k < G.tr.length := (List.getElem?_eq_some_iff.1 hx).1
  have v2 : w.cell? ⟨bv, 2, none⟩ = some (.slice (some ⟨g, 0, none⟩) G.tr.length pc) := by rw [← htv]; exact hL.ven.cell 2
  have v4 : w.cell? ⟨bv, 4, none⟩ = some (.int .i64 G.day) := hL.ven.cell 4
  have t6 : w.cell? ⟨b', 6, none⟩ = some (.int .i64 x.t.day) := hblk.cell 6
  have t7 : w.cell? ⟨b', 7, none⟩ = some (.bool x.holds) := hblk.cell 7
  generalize G.tr.length = n at *
  have e1 : decide (N < 1) = false := by simp; omega
  have e2 : decide ((n : Int) < N) = false := by simp; omega
  have hN0 : 0 ≤ N - 1 := by omega
  have hN1 : N - 1 < (n : Int) := by omega
  have hw : wrap64 (N - 1) = (k : Int) := by rw [hN]; exact wrap64_id (by omega) (by omega)
  clear hL htv hblk hb hb' hx
  obtain ⟨xt, xh⟩ := x
  simp only at t6 t7
  cases xh with
  | false =>
    have HP : Hid (putE ⟨xt, false⟩ G.day = 10) := by show _ = _; simp [putE]
    rw [unhide HP]
    go_enter Tryd.func23, Tryd.ntmps23
    go_wp2
    go_ret2
    exact ⟨rfl, by repeat (first | exact Chg.refl _ _ | refine Chg.drewN ?_ _ | refine Chg.drew ?_)⟩
  | true =>
    by_cases hd : xt.day = G.day
    · have ed : (xt.day != G.day) = false := by simp [hd]
      have HP : Hid (putE ⟨xt, true⟩ G.day = 0) := by show _ = _; simp [putE, hd]
      rw [unhide HP]
      clear hd
      go_enter Tryd.func23, Tryd.ntmps23
      go_wp2
      go_quiet (fail)
      go_wp2
      go_ret2
      exact ⟨rfl, by repeat (first | exact Chg.refl _ _ | refine Chg.drewN ?_ _ | refine Chg.drew ?_)⟩
    · have ed : (xt.day != G.day) = true := by simp [hd]
      have HP : Hid (putE ⟨xt, true⟩ G.day = 11) := by show _ = _; simp [putE, hd]
      rw [unhide HP]
      clear hd
      go_enter Tryd.func23, Tryd.ntmps23
      go_wp2
      go_quiet (fail)
      go_wp2
      go_ret2
      exact ⟨rfl, by repeat (first | exact Chg.refl _ _ | refine Chg.drewN ?_ _ | refine Chg.drew ?_)⟩

end Go.Proofs.YtigaphnafnpfnaaDoor
