import Derived.Test.YtigaphnafnpfnaaGreatDoorHP6
import Derived.Test.YtigaphnafnpfnaaGreatDoorHT1
/- player.enter, where the tape tells the trades -/
set_option linter.unusedVariables false
set_option linter.unusedSimpArgs false
namespace Go.Proofs.YtigaphnafnpfnaaGreatDoor
open Go.RowKit Go.Maps
attribute [local go_sem ↓] Go.wp_at_zero Go.wp_at_succ

/-- the tape tells the trades, and the day is none of a million -/
def AP (V : Ven) (K l : Nat) : Prop := AV V ∧ 0 ≤ V.lg.day ∧ V.lg.day ≤ K ∧ l ≤ V.lg.tp.length
theorem AP.mono {V : Ven} {K K' l : Nat} (h : AP V K l) (hk : K ≤ K') : AP V K' l := ⟨h.1, h.2.1, by have := h.2.2.1; omega, h.2.2.2⟩

theorem EnterResA.chg {bv bm bo n K : Nat} {V : Ven} {M : Int} {o : Ask} {w w' : World} {f r c a m E : Int} (h : EnterResA bv bm bo n K V M o w f r c a m E w') : Chg (Foot bv bm bo V) w w' := by
  rcases h with ⟨_, ⟨V2, _, _, k, _⟩, _⟩ | ⟨_, _, k⟩ | ⟨_, _, k⟩
  · exact k
  · exact k.of_non
  · exact k.of_non

theorem Ply.nextA {D : Nat} {ao : Option Addr} {len cap : Nat} {zs : Nat → Int} {w0 : World} {P bv bm bo : Nat} {V : Ven} {n K : Nat} {M acts : Int} {w w' : World} {Q : Ven → Prop} {n' K' l : Nat} {M' : Int} (h : Ply D ao len cap zs w0 P bv bm bo V n K M acts w) (hn : Next bv bm bo V Q w w') (hQ : ∀ V2, Q V2 → AQ n' K' M' V2 ∧ 0 ≤ V2.lg.day ∧ V2.lg.day ≤ K' ∧ l ≤ V2.lg.tp.length) :
    ∃ V2, Rep w' bv bm bo V2 ∧ GV V2 n' M' ∧ LenOK V2 K' ∧ Blk w' P #[.pointer (some ⟨bv, 0, none⟩), .int .i64 n, .int .i64 acts] 37 ∧ Dc D ao len cap zs w0.heap.size w' ∧ (∀ x, Foot bv bm bo V2 x → w0.heap.size ≤ x) ∧ Below w0.heap.size w0 w' ∧ AP V2 K' l := by
  obtain ⟨V2, R2, q2, k2, f2⟩ := hn
  obtain ⟨⟨g2, l2, a2⟩, d2⟩ := hQ V2 q2
  exact ⟨V2, R2, g2, l2, k2.blk h.ply h.nfP, h.dc.keep k2 h.nfD h.foot, fun x hx => (f2 x hx).elim (h.foot x) (fun h' => Nat.le_trans h.below.size h'), h.below.trans (k2.belowOf h.below.size h.foot), a2, d2⟩

set_option maxHeartbeats 4000000 in
set_option maxRecDepth 100000 in
theorem penterA_any (D : Nat) (ao : Option Addr) (len cap : Nat) (zs : Nat → Int) (w0 : World) (P bv bm bo : Nat) (V : Ven) (n K : Nat) (M acts : Int) (w : World) (h : Ply D ao len cap zs w0 P bv bm bo V n K M acts w) (l : Nat) (hAP : AP V K l) (hO : OrderOK D ao len cap zs w0.heap.size P bv n) (h9 : 9 ≤ M) (hM : M ≤ 1000000) (hn : n < 100) (hK : K + 300 < 1000000) (ha : 0 ≤ acts) (ha2 : acts < 1000000) :
    Calls Tryz.prog 36 #[.pointer (some ⟨P, 0, none⟩), .pointer (some ⟨D, 0, none⟩)] w fun e w' => e = .returned (.bool true) ∧ ∃ V' n' acts', n' ≤ n + 1 ∧ 0 ≤ acts' ∧ acts' ≤ acts + 1 ∧ Ply D ao len cap zs w0 P bv bm bo V' n' (K + 101) M acts' w' ∧ AP V' (K + 101) l := by
  have HAP := hide hAP
  clear hAP
  have HOr := hide (hO w acts h.dc h.ply)
  have HH := hide h
  have lP := h.ply.lt
  clear hO h
  go_enter Tryz.func36, Tryz.ntmps36
  go_wp2_with fail
  refine (unhide HOr).mono ?_
  rintro e w1 ⟨v, rfl, o, rfl, ⟨i, t, hi, ht, ho⟩, hd1, k1⟩
  have h1 := (unhide HH).rolled hd1 k1
  -- the order lies in a block of its own
  obtain ⟨w2, hw2⟩ : ∃ w2, w2 = w1.alloc (.cells (askC o) 52) := ⟨_, rfl⟩
  have k2 : Chg Non w1 w2 := by rw [hw2]; exact (Chg.refl Non w1).alloc _
  have b2 : Blk w2 w1.heap.size (askC o) 52 := by rw [hw2]; exact Blk.new _ _ _
  have h2 := h1.keep k2
  have hE := fun (W : World) (k : Chg Non w2 W) => ven_enterA bv bm bo n K i t V M o W (h2.rep.kept0 k) (h2.dc.tab.kept0 k) h2.gv (unhide HAP).1 h9 hM hn h2.lens hK hi ht ho
  have nfO : ¬ Foot bv bm bo V w1.heap.size := h2.rep.foot b2 (by decide) (by decide) (by decide) (by decide) (by decide) (by decide) (by decide)
  have HZ : Hid (∀ W, Chg (Foot bv bm bo V) w2 W → W.cell? ⟨P, 0, none⟩ = some (.pointer (some ⟨bv, 0, none⟩)) ∧ W.cell? ⟨w1.heap.size, 0, none⟩ = some (.int .i64 o.id) ∧ W.cell? ⟨w1.heap.size, 1, none⟩ = some (.int .i64 o.owner) ∧ W.cell? ⟨w1.heap.size, 2, none⟩ = some (.string o.sym) ∧ W.cell? ⟨w1.heap.size, 3, none⟩ = some (.int .i64 o.side) ∧ W.cell? ⟨w1.heap.size, 4, none⟩ = some (.int .i64 o.kind) ∧ W.cell? ⟨w1.heap.size, 5, none⟩ = some (.int .i64 o.price) ∧ W.cell? ⟨w1.heap.size, 6, none⟩ = some (.int .i64 o.qty)) := by
    intro W k
    have bW := k.blk b2 nfO
    exact ⟨(k.blk h2.ply h2.nfP).cell 0, bW.cell 0, bW.cell 1, bW.cell 2, bW.cell 3, bW.cell 4, bW.cell 5, bW.cell 6⟩
  obtain ⟨z0, z1, z2, z3, z4, z5, z6, z7⟩ := unhide HZ w2 (Chg.refl _ w2)
  have H2 := hide h2
  have HB2 := hide b2
  have HNF := hide nfO
  simp only [Ask.val] at hE
  have HE := hide hE
  have HW2 : Hid (w2 = w1.alloc (.cells #[.int .i64 o.id, .int .i64 o.owner, .string o.sym, .int .i64 o.side, .int .i64 o.kind, .int .i64 o.price, .int .i64 o.qty] 52)) := hw2
  have hqty := ho.qty
  have HO := hide ho
  clear hw2 k2 b2 h2 hE nfO h1 hd1 k1 ho
  simp only [Ask.val]
  go_wp2
  rw [← unhide HW2]
  have lt2 : w1.heap.size < w2.heap.size := (unhide HB2).lt
  have lP2 : P < w2.heap.size := (unhide H2).ply.lt
  have ne1 : P ≠ w2.heap.size := by omega
  have ne2 : w1.heap.size ≠ w2.heap.size := by omega
  have HNew : Hid (∀ (W W' : World), W = (w2.alloc (.cells #[.int .i64 0, .int .i64 0, .int .i64 0, .int .i64 0, .int .i64 0] 87)).drew → Chg (Foot bv bm bo V) W W' → Blk W' w2.heap.size #[.int .i64 0, .int .i64 0, .int .i64 0, .int .i64 0, .int .i64 0] 87) := by
    rintro W W' rfl k
    exact k.blk (Blk.new w2 _ _).drew (fun hf => by have := (unhide H2).rep.foot_lt hf; omega)
  go_region_with (first | (go_at_call 64; refine (unhide HE _ (by repeat (first | exact Chg.refl _ _ | refine Chg.drew ?_ | refine Chg.alloc ?_ _))).mono ?_; rintro e w3 ⟨f, r, c, a, m, E, rfl, hres⟩; have kres := hres.chg; have kall : Chg (Foot bv bm bo V) w2 w3 := Chg.trans (by repeat (first | exact Chg.refl _ _ | refine Chg.drew ?_ | refine Chg.alloc ?_ _)) kres; obtain ⟨y0, y1, y2, y3, y4, y5, y6, y7⟩ := unhide HZ w3 kall; have lt3 : w2.heap.size ≤ w3.heap.size := kall.size; have ne3 : P ≠ w3.heap.size := (by omega); have ne4 : w1.heap.size ≠ w3.heap.size := (by omega); (try (have rb := unhide HNew _ _ rfl kres; have rb0 := rb.cell 0; have rb1 := rb.cell 1; have rb2 := rb.cell 2; have rb3 := rb.cell 3; have rb4 := rb.cell 4; have rf0 := rb.frozen 0; have rf1 := rb.frozen 1; have rf2 := rb.frozen 2; have rf3 := rb.frozen 3; have rf4 := rb.frozen 4; simp at rb0 rb1 rb2 rb3 rb4; have HRB := hide rb; clear rb)); have HRes := hide hres; have HKA := hide kall; have HKR := hide kres; clear hres kall kres))
  all_goals
    have kW := unhide HKA
    first
      | (obtain ⟨w4, RB, hw4, hRB, k34, hnF, hge, rb4⟩ : ∃ w4 RB, w4 = ((((((w3.setCell ⟨w2.heap.size, 0, none⟩ (.int .i64 f)).setCell ⟨w2.heap.size, 1, none⟩ (.int .i64 r)).setCell ⟨w2.heap.size, 2, none⟩ (.int .i64 c)).setCell ⟨w2.heap.size, 3, none⟩ (.int .i64 a)).setCell ⟨w2.heap.size, 4, none⟩ (.int .i64 m))) ∧ RB = w2.heap.size ∧ Chg (fun x => x = RB) w3 w4 ∧ (∀ V2, Rep w3 bv bm bo V2 → ¬ Foot bv bm bo V2 RB) ∧ w2.heap.size ≤ RB ∧ Blk w4 RB #[.int .i64 f, .int .i64 r, .int .i64 c, .int .i64 a, .int .i64 m] 87 := ⟨_, _, rfl, rfl, ((((((Chg.refl (fun x => x = w2.heap.size) w3).setCell (p := ⟨w2.heap.size, 0, none⟩) (.inl rfl) _).setCell (p := ⟨w2.heap.size, 1, none⟩) (.inl rfl) _).setCell (p := ⟨w2.heap.size, 2, none⟩) (.inl rfl) _).setCell (p := ⟨w2.heap.size, 3, none⟩) (.inl rfl) _).setCell (p := ⟨w2.heap.size, 4, none⟩) (.inl rfl) _), (fun V2 R2 => R2.foot (unhide HRB) (by decide) (by decide) (by decide) (by decide) (by decide) (by decide) (by decide)), Nat.le_refl _, ((((((unhide HRB).set 0 _).set 1 _).set 2 _).set 3 _).set 4 _)⟩; rw [← hw4, ← hRB])
      | (obtain ⟨w4, RB, hw4, hRB, k34, hnF, hge, rb4⟩ : ∃ w4 RB, w4 = (w3.alloc (.cells #[.int .i64 f, .int .i64 r, .int .i64 c, .int .i64 a, .int .i64 m] 87)) ∧ RB = w3.heap.size ∧ Chg (fun x => x = RB) w3 w4 ∧ (∀ V2, Rep w3 bv bm bo V2 → ¬ Foot bv bm bo V2 RB) ∧ w2.heap.size ≤ RB ∧ Blk w4 RB #[.int .i64 f, .int .i64 r, .int .i64 c, .int .i64 a, .int .i64 m] 87 := ⟨_, _, rfl, rfl, ((Chg.refl _ w3).alloc _), (fun V2 R2 hf => absurd (R2.foot_lt hf) (Nat.lt_irrefl _)), lt3, (Blk.new w3 _ _)⟩; rw [← hw4, ← hRB])
    clear hw4 hRB
    have kF : Chg (Foot bv bm bo V) w2 w3 := unhide HKA
    have nS : ∀ {x c t}, Blk w2 x c t → x ≠ RB := fun hb e => by have := hb.lt; omega
    have pl4 : Blk w4 P #[.pointer (some ⟨bv, 0, none⟩), .int .i64 n, .int .i64 acts] 37 := k34.blk (kF.blk (unhide H2).ply (unhide H2).nfP) (nS (unhide H2).ply)
    have ob4 : Blk w4 w1.heap.size (askC o) 52 := k34.blk (kF.blk (unhide HB2) (unhide HNF)) (nS (unhide HB2))
    have hneR : P ≠ RB := Blk.ne pl4 rb4 (by decide)
    have p1 : w4.cell? ⟨P, 1, none⟩ = some (.int .i64 (n : Int)) := pl4.cell 1
    have p2 : w4.cell? ⟨P, 2, none⟩ = some (.int .i64 acts) := pl4.cell 2
    have g1 := pl4.frozen 1
    have g2 := pl4.frozen 2
    have r0 : w4.cell? ⟨RB, 0, none⟩ = some (.int .i64 f) := rb4.cell 0
    have r1 : w4.cell? ⟨RB, 1, none⟩ = some (.int .i64 r) := rb4.cell 1
    have r2 : w4.cell? ⟨RB, 2, none⟩ = some (.int .i64 c) := rb4.cell 2
    have r4 : w4.cell? ⟨RB, 4, none⟩ = some (.int .i64 m) := rb4.cell 4
    have o6 : w4.cell? ⟨w1.heap.size, 6, none⟩ = some (.int .i64 o.qty) := ob4.cell 6
    have o4 : w4.cell? ⟨w1.heap.size, 4, none⟩ = some (.int .i64 o.kind) := ob4.cell 4
    have hneO : P ≠ w1.heap.size := Blk.ne pl4 ob4 (by decide)
    have HP4 := hide pl4
    have hbase : w0.heap.size ≤ RB := Nat.le_trans (unhide H2).below.size hge
    have hDR : D ≠ RB := by obtain ⟨a', _, hdb⟩ := (unhide H2).dc.dice; exact nS hdb
    have HNF2 := hide hnF
    have HK34 := hide k34
    clear z0 z1 z2 z3 z4 z5 z6 z7 y0 y1 y2 y3 y4 y5 y6 y7 pl4 ob4 rb4 k34 kF nS kW hnF
    try clear rb0 rb1 rb2 rb3 rb4 rf0 rf1 rf2 rf3 rf4
    rcases unhide HRes with ⟨rfl, hnx, hsum, hf0, hr0, hc0, hmf⟩ | ⟨rfl, hk, kn⟩ | ⟨rfl, hk, kn⟩
    · have HNx := hide hnx
      clear hnx
      have e1 : (f + r + c == o.qty) = true := by simp [hsum]
      have hf9 : f ≤ 9 := by omega
      have hr9 : r ≤ 9 := by omega
      have hc9 : c ≤ 9 := by omega
      have e2 : decide (0 ≤ f) = true := by simp [hf0]
      have e3 : decide (0 ≤ r) = true := by simp [hr0]
      have e4 : decide (0 ≤ c) = true := by simp [hc0]
      have HS := hide hsum
      clear hsum
      by_cases hfz : f = 0
      · have em : (m == 0) = true := by simp [hmf.2 hfz]
        have ef : (f == 0) = true := by simp [hfz]
        clear hmf hfz
        go_wp2
        go_ret
        obtain ⟨V2, R2, g2', l2, pl3, dc3, ft3, bl3, ap3⟩ := ((unhide H2).keep (by repeat (first | exact Chg.refl _ _ | refine Chg.drew ?_ | refine Chg.alloc ?_ _))).nextA (K' := K + 101) (l := l) (unhide HNx) (fun V2 q => ⟨q.1, by have := q.2; have := (unhide HAP).2; omega⟩)
        have k34 := unhide HK34
        refine ⟨rfl, V2, n + 1, acts + 1, Nat.le_refl _, by omega, Int.le_refl _, ?_, ap3⟩
        refine Ply.count (w := w4) (R2.kept1 k34 (unhide HNF2 V2 R2)) g2' l2 ⟨_, _, unhide HP4⟩ (dc3.keep k34 hDR (fun x e => by rw [e]; exact hbase)) ft3 (unhide H2).pP (bl3.trans (k34.belowOf bl3.size (fun x e => by rw [e]; exact hbase))) ?_ (((Chg.refl (fun x => x = P) w4).setCell (p := ⟨P, 1, none⟩) (.inl rfl) _).setCell (p := ⟨P, 2, none⟩) (.inl rfl) _)
        have := ((unhide HP4).set 1 (.int .i64 ((n : Int) + 1))).set 2 (.int .i64 (acts + 1))
        push_cast
        exact this
      · have em : (m == 0) = false := by simp; exact fun h => hfz (hmf.1 h)
        have ef : (f == 0) = false := by simp [hfz]
        clear hmf hfz
        go_wp2
        go_ret
        obtain ⟨V2, R2, g2', l2, pl3, dc3, ft3, bl3, ap3⟩ := ((unhide H2).keep (by repeat (first | exact Chg.refl _ _ | refine Chg.drew ?_ | refine Chg.alloc ?_ _))).nextA (K' := K + 101) (l := l) (unhide HNx) (fun V2 q => ⟨q.1, by have := q.2; have := (unhide HAP).2; omega⟩)
        have k34 := unhide HK34
        refine ⟨rfl, V2, n + 1, acts + 1, Nat.le_refl _, by omega, Int.le_refl _, ?_, ap3⟩
        refine Ply.count (w := w4) (R2.kept1 k34 (unhide HNF2 V2 R2)) g2' l2 ⟨_, _, unhide HP4⟩ (dc3.keep k34 hDR (fun x e => by rw [e]; exact hbase)) ft3 (unhide H2).pP (bl3.trans (k34.belowOf bl3.size (fun x e => by rw [e]; exact hbase))) ?_ (((Chg.refl (fun x => x = P) w4).setCell (p := ⟨P, 1, none⟩) (.inl rfl) _).setCell (p := ⟨P, 2, none⟩) (.inl rfl) _)
        have := ((unhide HP4).set 1 (.int .i64 ((n : Int) + 1))).set 2 (.int .i64 (acts + 1))
        push_cast
        exact this
    · have ek : (o.kind == 3) = true := by simp [hk]
      clear hk
      go_wp2
      go_ret
      have k34 := unhide HK34
      have h3 := ((unhide H2).keep (by repeat (first | exact Chg.refl _ _ | refine Chg.drew ?_ | refine Chg.alloc ?_ _))).keep kn
      have h4 : Ply D ao len cap zs w0 P bv bm bo V n K M acts w4 := ⟨h3.rep.kept1 k34 (unhide HNF2 V h3.rep), h3.gv, h3.lens, unhide HP4, h3.dc.keep k34 hDR (fun x e => by rw [e]; exact hbase), h3.foot, h3.pP, h3.below.trans (k34.belowOf h3.below.size (fun x e => by rw [e]; exact hbase))⟩
      exact ⟨rfl, V, n, acts, by omega, ha, by omega, ⟨h4.rep, h4.gv, ⟨Nat.le_trans h4.lens.1 (by omega), Nat.le_trans h4.lens.2.1 (by omega), h4.lens.2.2.1, Nat.le_trans h4.lens.2.2.2 (by omega)⟩, h4.ply, h4.dc, h4.foot, h4.pP, h4.below⟩, (unhide HAP).mono (by omega)⟩
    · have ek : (o.kind == 4) = true := by simp [hk]
      clear hk
      go_wp2
      go_ret
      have k34 := unhide HK34
      have h3 := ((unhide H2).keep (by repeat (first | exact Chg.refl _ _ | refine Chg.drew ?_ | refine Chg.alloc ?_ _))).keep kn
      have h4 : Ply D ao len cap zs w0 P bv bm bo V n K M acts w4 := ⟨h3.rep.kept1 k34 (unhide HNF2 V h3.rep), h3.gv, h3.lens, unhide HP4, h3.dc.keep k34 hDR (fun x e => by rw [e]; exact hbase), h3.foot, h3.pP, h3.below.trans (k34.belowOf h3.below.size (fun x e => by rw [e]; exact hbase))⟩
      exact ⟨rfl, V, n, acts, by omega, ha, by omega, ⟨h4.rep, h4.gv, ⟨Nat.le_trans h4.lens.1 (by omega), Nat.le_trans h4.lens.2.1 (by omega), h4.lens.2.2.1, Nat.le_trans h4.lens.2.2.2 (by omega)⟩, h4.ply, h4.dc, h4.foot, h4.pP, h4.below⟩, (unhide HAP).mono (by omega)⟩

end Go.Proofs.YtigaphnafnpfnaaGreatDoor

