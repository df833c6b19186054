/- Busted: the walk -/
import Derived.Test.YtigaphnafnpfnaaDoorG2
import Derived.Test.YtigaphnafnpfnaaDoorF6
import Derived.Test.YtigaphnafnpfnaaDoorD6
set_option linter.unusedVariables false
set_option linter.unusedSimpArgs false
namespace Go.Proofs.YtigaphnafnpfnaaDoor
open Go.RowKit Go.Maps Go.Lib
attribute [local go_sem ↓] Go.wp_at_zero Go.wp_at_succ

theorem benter1 (bv bm bo b1 b2 : Nat) (lmv : Lm) (c s : Int) (w : World) (R : Rep w bv bm bo (VG b1 b2 lmv)) (hT : Tab w) (hc : 1 ≤ c) (hc2 : c ≤ 1000000) (hs : 1 ≤ s) (hs2 : s ≤ 1000) :
    Calls Tryd.prog 7 #[.pointer (some ⟨bv, 0, none⟩), (bsell c s).val] w fun e w' => ∃ V bx f r ca a n, e = .returned (.tuple #[.agg #[.int .i64 f, .int .i64 r, .int .i64 ca, .int .i64 a, .int .i64 n], .int .i64 0]) ∧ Rep w' bv bm bo V ∧ Bu1 V bx c s ∧
      Chg (Foot bv bm bo (VG b1 b2 lmv)) w w' ∧ ∀ x, Foot bv bm bo V x → Foot bv bm bo (VG b1 b2 lmv) x ∨ w.heap.size ≤ x := by
  refine (enter_ok bv bm bo 1 0 1 (VG b1 b2 lmv) (bsell c s) w R hT (by show (1 : Nat) < 2; omega) rfl (by show sG.size ≤ 100; decide) rfl rfl rfl rfl rfl (numB_of hs (by show s ≤ 1000000; omega)) (priceB_of (by simp [bsell]) hc hc2) (by show (0 : Nat) < 200; omega) (by simp [bsell]) (by simp [bsell]) (by omega) rfl rfl (fun k hk => absurd hk (Nat.not_lt_zero k)) (Nat.zero_le _) (Nat.zero_le _) (by show (0 : Nat) + 300 < 1000000; omega) (by show (0 : Nat) + 300 < 1000000; omega) (by show (2 : Nat) < 1000000; omega)).mono ?_
  rintro e w' ⟨v, rfl, b, g, cap', lm', hb, rfl, R', k, hF, _⟩
  obtain ⟨f, r, ca, a, n, hrep⟩ := rep_form (newOrd (bsell c s)) (((VG b1 b2 lmv).enter 1 b 0 1 g cap' (bsell c s) lm').om b) (VG b1 b2 lmv).tr ((VG b1 b2 lmv).enter 1 b 0 1 g cap' (bsell c s) lm').tr
  exact ⟨_, b, f, r, ca, a, n, by rw [hrep], R', bu1 b1 b2 b g cap' lmv lm' c s hs, k, hF⟩

theorem benter2 (bv bm bo bx : Nat) (V : Ven) (c s b : Int) (w : World) (R : Rep w bv bm bo V) (hT : Tab w) (h : Bu1 V bx c s) (hc : 1 ≤ c) (hc2 : c ≤ 1000000) (hs : 1 ≤ s) (hs2 : s ≤ 1000) (hb : 1 ≤ b) (hb2 : b ≤ 1000) :
    Calls Tryd.prog 7 #[.pointer (some ⟨bv, 0, none⟩), (bbuy c b).val] w fun e w' => ∃ V' by', e = .returned (.tuple #[repV (min s b) 0 (b - min s b) 1 1, .int .i64 0]) ∧ Rep w' bv bm bo V' ∧ Bu2 V' bx by' c s b ∧ bx ≠ by' ∧
      Chg (Foot bv bm bo V) w w' ∧ ∀ x, Foot bv bm bo V' x → Foot bv bm bo V x ∨ w.heap.size ≤ x := by
  refine (enter_ok bv bm bo 1 1 0 V (bbuy c b) w R hT (by rw [h.nb]; omega) (by rw [h.sym]; rfl) (by show sG.size ≤ 100; decide) rfl (by rw [h.oid]; rfl) rfl rfl rfl (numB_of hb (by show b ≤ 1000000; omega)) (priceB_of (by simp [bbuy]) hc hc2) (by rw [h.no]; omega) (by simp [bbuy]) (by simp [bbuy]) (by omega) rfl rfl (fun k hk => ?_) (by rw [h.n0]; omega) (by rw [h.n1, h.no]; omega) (by rw [h.lg.2.1]; show (0 : Nat) + 300 < 1000000; omega) (by rw [h.lg.1]; show (0 : Nat) + 300 < 1000000; omega) (by rw [h.lg.2.2.2]; omega)).mono ?_
  · obtain rfl : k = 0 := by rw [h.n1] at hk; omega
    rw [h.h0, h.om]
    simp only [newOrd, bsell]
    exact ⟨rfl, by omega, by omega⟩
  · rintro e w' ⟨v, rfl, y, g, cap', lm', hy, rfl, R', k, hF, _⟩
    obtain ⟨_, ix, ho⟩ := R.ords 1 bx (by rw [h.oid]; rfl)
    have hne : bx ≠ y := by have := ho.lt; omega
    obtain ⟨h2, hrep⟩ := bu2 (g := g) (cap' := cap') (lm' := lm') h hne hs hs2 hb hb2
    exact ⟨_, y, by rw [hrep], R', h2, hne, k, hF⟩

/-- what is so at the end -/
structure BuE (V : Ven) (bx by' : Nat) (s b : Int) (again : Bool) : Prop where
  oid : V.oid = fun id => if id = 2 then some by' else if id = 1 then some bx else none
  tr : ∃ t, V.lg.tr = [⟨t, false⟩]
  sx : (V.om bx).sym = sG
  sy : (V.om by').sym = sG
  x1 : (V.om bx).opn = if again then s else s - min s b
  x2 : (V.om bx).canc = if again then 0 else min s b
  x3 : (V.om bx).filled = 0
  y1 : (V.om by').opn = 0
  y2 : (V.om by').canc = b
  y3 : (V.om by').filled = 0

theorem bbust (bv bm bo bx by' : Nat) (V : Ven) (c s b : Int) (again : Bool) (w : World) (R : Rep w bv bm bo V) (hT : Tab w) (h : Bu2 V bx by' c s b) (hne : bx ≠ by') (hs : 1 ≤ s) (hs2 : s ≤ 1000) (hb : 1 ≤ b) (hb2 : b ≤ 1000) :
    Calls Tryd.prog 10 #[.pointer (some ⟨bv, 0, none⟩), .int .i64 1, .bool again] w fun e w' => ∃ V', e = .returned (.int .i64 0) ∧ Rep w' bv bm bo V' ∧ BuE V' bx by' s b again ∧
      Chg (Foot bv bm bo V) w w' ∧ ∀ x, Foot bv bm bo V' x → Foot bv bm bo V x ∨ w.heap.size ≤ x := by
  obtain ⟨tb, htb⟩ : ∃ tb, V.lm.tb[0]? = some tb := by
    have hl := R.log.log.len
    rw [h.tr] at hl
    exact ⟨V.lm.tb[0]'(by rw [hl]; simp), List.getElem?_eq_getElem _⟩
  have hx0 : V.lg.tr[0]? = some ⟨⟨1, sG, c, min s b, 2, 1, 1⟩, true⟩ := by rw [h.tr]; rfl
  have hC : ∀ lm1, BuC { V with lg := V.lg.busting 0 tb ⟨1, sG, c, min s b, 2, 1, 1⟩, lm := lm1 } bx by' s b (V.om bx) (V.om by') := fun lm1 => ⟨h.nb, h.sym, h.n0, h.n1, h.h0, h.b0, h.oid, rfl, rfl⟩
  obtain ⟨n, hn⟩ : ∃ n, min s b = n := ⟨_, rfl⟩
  have hbx : V.oid 1 = some bx := by rw [h.oid]; rfl
  have hby : V.oid 2 = some by' := by rw [h.oid]; rfl
  have ocx := h.omx
  have ocy := h.omy
  refine (bust_ok bv bm bo 0 tb by' bx V 1 ⟨⟨1, sG, c, min s b, 2, 1, 1⟩, true⟩ again w R hT rfl hx0 htb (by rw [h.tr]; simp) (by rw [h.tp]; omega) (by simp [putE, h.day]) hby hbx rfl rfl
    (fun V' => BuC V' bx by' s b (V.om bx) (cancelF (V.om by') (min s b)))
    (fun V' => (∃ pl, V'.om bx = { (if again then openF (V.om bx) (min s b) else cancelF (V.om bx) (min s b)) with place := pl }) ∧ V'.om by' = cancelF (V.om by') (min s b)) (by rw [h.na]; omega) ?_ ?_).mono ?_
  · intro w1 lm1 R1
    refine (tb_cancel bv bm bo by' 1 _ bx by' s b (min s b) 2 _ _ again w1 R1 (hC lm1) hby (by omega) (by show ((V.om by').side : Int) = _; rw [ocy]; rfl) (by show (V.om by').sym = _; rw [ocy]; rfl) (.inr (by show restsB (V.om by').kind = _; rw [ocy]; rfl)) (by show 0 < V.lg.na + 1; omega) (by show V.lg.na + 1 ≤ 1000000; rw [h.na]; omega) (by show 0 + 1 ≤ 100; omega)).mono ?_
    rintro e w' ⟨rfl, V2, a1, a2, a3⟩
    refine ⟨rfl, V2, a1, ?_, a3⟩
    have e1 : upd V.om by' (cancelF (V.om by') (min s b)) bx = V.om bx := upd_other _ _ hne
    have e2 : upd V.om by' (cancelF (V.om by') (min s b)) by' = cancelF (V.om by') (min s b) := upd_same _ _ _
    simp only at a2
    rw [e1, e2] at a2
    exact a2
  · intro V2 w2 h2 R2 _ hn2 ht2
    cases again with
    | false =>
      refine (tb_cancel bv bm bo bx 0 V2 bx by' s b (min s b) 1 _ _ false w2 R2 h2 (by rw [h2.oid]; rfl) (by omega) (by rw [h2.omx, ocx]; rfl) (by rw [h2.omx, ocx]; rfl) (.inl rfl) (by rw [hn2]; omega) (by rw [hn2, h.na]; omega) (by omega)).mono ?_
      rintro e w' ⟨rfl, V3, a1, a2, a3⟩
      refine ⟨rfl, V3, a1, ⟨⟨(V.om bx).place, ?_⟩, ?_⟩, a3⟩
      · rw [a2.omx, upd_same, h2.omx]; rfl
      · rw [a2.omy, upd_other _ _ (fun e => hne e.symm), h2.omy]
    | true =>
      refine (tb_again bv bm bo V2 bx by' s b (min s b) _ _ w2 R2 h2 hne (by rw [ocx]; rfl) (by rw [ocx]; rfl) (by rw [ocx]; rfl) (by rw [ocx]; simp only; omega) (by rw [hn2]; omega) (by rw [hn2, h.na]; omega) (by omega)).mono ?_
      rintro e w' ⟨rfl, V3, a1, a2, a3⟩
      exact ⟨rfl, V3, a1, a2, a3⟩
  · rintro e w' ⟨rfl, V3, ⟨⟨pl, qx⟩, qy⟩, ho, R3, lk, k3, f3⟩
    refine ⟨_, rfl, R3, ⟨by rw [ho, h.oid], ⟨⟨1, sG, c, min s b, 2, 1, 1⟩, ?_⟩, ?_, ?_, ?_, ?_, ?_, ?_, ?_, ?_⟩, k3, f3⟩
    · rw [lk.1]; simp only [Lg.busting, Lg.noted, Lg.told, Lg.unhold, Lg.begun, h.tr]; rfl
    · simp only [qx, ocx]; cases again <;> rfl
    · simp only [qy, ocy]; rfl
    · simp only [qx, ocx, hn]
      cases again
      · rfl
      · simp only [openF, newOrd, bsell, if_true]; rw [wrap64_id (by omega) (by omega)]; omega
    · simp only [qx, ocx, hn]
      cases again
      · simp only [cancelF, newOrd, bsell, Bool.false_eq_true, if_false]; rw [wrap64_id (by omega) (by omega)]; omega
      · rfl
    · simp only [qx, ocx, hn]
      cases again
      · simp only [cancelF, newOrd, bsell, Bool.false_eq_true, if_false]; rw [wrap64_id (by omega) (by omega)]; omega
      · simp only [openF, newOrd, bsell, if_true]; rw [wrap64_id (by omega) (by omega)]; omega
    · simp only [qy, ocy]; rfl
    · simp only [qy, ocy, hn, cancelF, newOrd, bbuy]; rw [wrap64_id (by omega) (by omega)]; omega
    · simp only [qy, ocy, hn, cancelF, newOrd, bbuy]; rw [wrap64_id (by omega) (by omega)]; omega

end Go.Proofs.YtigaphnafnpfnaaDoor
