/- Bust -/
import Derived.Test.YtekjibkliogipaaF4
set_option linter.unusedVariables false
set_option linter.unusedSimpArgs false
namespace Go.Proofs.Ytekjibkliogipaa
open Go.RowKit Go.Maps
attribute [local go_sem ↓] Go.wp_at_zero Go.wp_at_succ

/-- only the log has turned -/
theorem Rep.relog {w w' : World} {bv bm bo : Nat} {V : Ven} {G' : Lg} {lm' : Lm} (R : Rep w bv bm bo V) (hl : IsLog w' bv bm bo G' lm') (k : Chg (fun b => b = bv ∨ V.lm.F b) w w') : Rep w' bv bm bo { V with lg := G', lm := lm' } := by
  obtain ⟨fB, mB, fB1, fB2⟩ := R.books
  obtain ⟨fO, mO, fO1⟩ := R.orders
  have typ : ∀ b, (b = bv ∨ V.lm.F b) → ∃ c t, Blk w b c t := by
    rintro b (rfl | h)
    · exact ⟨_, _, R.ven⟩
    · obtain ⟨c, t, hc, _⟩ := R.log.log.typ h; exact ⟨c, t, hc⟩
  have nB : ¬ (bm = bv ∨ V.lm.F bm) := fun h => by obtain ⟨c, t, hc⟩ := typ bm h; exact mB.ne hc rfl
  have nO : ¬ (bo = bv ∨ V.lm.F bo) := fun h => by obtain ⟨c, t, hc⟩ := typ bo h; exact mO.ne hc rfl
  refine ⟨hl, ⟨fB, mB.kept k nB, fB1, fB2⟩, ⟨fO, mO.kept k nO, fO1⟩, R.mne, fun i hi => ((R.mkt hi).keptLog R.log k).book, fun id b h => ⟨(R.ords id b h).1, ?_⟩, R.mem, R.sepb, R.seps, R.no200⟩
  obtain ⟨_, ix, ho⟩ := R.ords id b h
  refine ⟨ix, k.blk ho ?_⟩
  rintro (e | e)
  · exact Blk.ne ho R.ven (by decide) e
  · exact R.log.log.ne ho (by decide) (by decide) (by decide) e

/-- a trade holds no longer -/
def Lg.unhold (G : Lg) (k : Nat) (t : Tr) : Lg := { G with tr := G.tr.set k ⟨t, false⟩ }

theorem IsLog.unhold {w : World} {bv bm bo k b : Nat} {G : Lg} {m : Lm} {x : Tg} (h : IsLog w bv bm bo G m) (hx : G.tr[k]? = some x) (hb : m.tb[k]? = some b) : IsLog (w.setCell ⟨b, 7, none⟩ (.bool false)) bv bm bo (G.unhold k x.t) m := by
  have hblk := h.log.blk k b x hb hx
  have kk : Chg (fun y => y = b) w (w.setCell ⟨b, 7, none⟩ (.bool false)) := (Chg.refl (fun y => y = b) w).setCell (p := ⟨b, 7, none⟩) (.inl rfl) _
  refine ⟨kk.blk h.ven (Blk.ne h.ven hblk (by decide)), ?_⟩
  have ht := own_kept h.log.trow kk (fun y hy e => own_ne h.log.trow hy hblk (by decide) e)
  refine ⟨?_, own_kept h.log.prow kk (fun y hy e => own_ne h.log.prow hy hblk (by decide) e), by simp [Lg.unhold, h.log.len], fun i b' g hi hg => ?_, h.log.nodup⟩
  · simp only [Lg.unhold, List.length_set]; exact ht
  · simp only [Lg.unhold] at hg
    by_cases e : i = k
    · subst e
      obtain rfl : b' = b := by rw [hb] at hi; exact (Option.some.inj hi).symm
      have hlt : i < G.tr.length := (List.getElem?_eq_some_iff.1 hx).1
      rw [List.getElem?_set_self hlt] at hg
      obtain rfl := Option.some.inj hg
      exact hblk.set 7 _
    · rw [List.getElem?_set_ne (fun h => e h.symm)] at hg
      refine kk.blk (h.log.blk i b' g hi hg) (fun e2 => e ?_)
      subst e2
      obtain ⟨h1, e1⟩ := List.getElem?_eq_some_iff.1 hi
      obtain ⟨h2, e2⟩ := List.getElem?_eq_some_iff.1 hb
      rcases Nat.lt_trichotomy i k with hlt | hlt | hlt
      · exact absurd (e1.trans e2.symm) (List.pairwise_iff_getElem.1 h.log.nodup i k h1 h2 hlt)
      · exact hlt
      · exact absurd (e2.trans e1.symm) (List.pairwise_iff_getElem.1 h.log.nodup k i h2 h1 hlt)

/-- what takeBack leaves -/
def Turned (bv bm bo : Nat) (V : Ven) (Q : Ven → Prop) (w w' : World) : Prop :=
  ∃ V2, Rep w' bv bm bo V2 ∧ Q V2 ∧ V2.lg = V.lg ∧ V2.lm = V.lm ∧ V2.oid = V.oid ∧ Chg (Foot bv bm bo V) w w' ∧ ∀ x, Foot bv bm bo V2 x → Foot bv bm bo V x ∨ w.heap.size ≤ x

set_option maxHeartbeats 4000000 in
set_option maxRecDepth 100000 in
theorem bust_ok (bv bm bo k tb bx by' : Nat) (V : Ven) (N : Int) (x : Tg) (again : Bool) (w : World) (R : Rep w bv bm bo V) (hN : N - 1 = (k : Int)) (hx : V.lg.tr[k]? = some x) (htb : V.lm.tb[k]? = some tb) (hlen : V.lg.tr.length ≤ 1000000) (hlen2 : V.lg.tp.length < 1000000) (hput : putE x V.lg.day = 0)
    (hbuy : V.oid x.t.buy = some bx) (hsell : V.oid x.t.sell = some by') (hw1 : (Lit.int .i64 x.t.buy).wf = true) (hw2 : (Lit.int .i64 x.t.sell).wf = true) (Q2 Q3 : Ven → Prop)
    (h2 : ∀ w1, Rep w1 bv bm bo { V with lg := V.lg.unhold k x.t } → Calls Try.prog 35 #[.pointer (some ⟨bv, 0, none⟩), .pointer (some ⟨bx, 0, none⟩), .int .i64 x.t.qty, .bool again] w1 fun e w' => e = .returned (.tuple #[]) ∧ Turned bv bm bo { V with lg := V.lg.unhold k x.t } Q2 w1 w')
    (h3 : ∀ V2 w2, Q2 V2 → Rep w2 bv bm bo V2 → V2.oid = V.oid → Calls Try.prog 35 #[.pointer (some ⟨bv, 0, none⟩), .pointer (some ⟨by', 0, none⟩), .int .i64 x.t.qty, .bool again] w2 fun e w' => e = .returned (.tuple #[]) ∧ Turned bv bm bo V2 Q3 w2 w') :
    Calls Try.prog 19 #[.pointer (some ⟨bv, 0, none⟩), .int .i64 N, .bool again] w fun e w' => e = .returned (.int .i64 0) ∧
      ∃ V3 lm', Q3 V3 ∧ V3.oid = V.oid ∧ Rep w' bv bm bo { V3 with lg := (V.lg.unhold k x.t).told 2 x.t, lm := lm' } ∧ Chg (Foot bv bm bo V) w w' ∧ ∀ y, Foot bv bm bo { V3 with lg := (V.lg.unhold k x.t).told 2 x.t, lm := lm' } y → Foot bv bm bo V y ∨ w.heap.size ≤ y := by
  have hT := toPut_at bv bm bo k tb V.lg V.lm N x w R.log hN hx htb hlen
  rw [hput] at hT
  simp only [if_true] at hT
  have HT := hide hT
  clear hT
  have HA : Hid (∀ w1, Chg Non w w1 → Blk w1 tb x.cells 100 ∧ Rep (w1.setCell ⟨tb, 7, none⟩ (.bool false)) bv bm bo { V with lg := V.lg.unhold k x.t } ∧ Chg (Foot bv bm bo V) w (w1.setCell ⟨tb, 7, none⟩ (.bool false))) := by
    intro w1 k1
    have R1 := R.kept0 k1
    have hF : V.lm.F tb := .inr (.inr (List.mem_of_getElem? htb))
    refine ⟨R1.log.log.blk k tb x htb hx, R1.relog (R1.log.unhold hx htb) ((Chg.refl _ w1).setCell (p := ⟨tb, 7, none⟩) (.inl (.inr hF)) _), k1.of_non.setCell (p := ⟨tb, 7, none⟩) (.inl (.inr (.inr (.inr (.inr (.inr hF)))))) _⟩
  -- of a venue with this log
  have HB : Hid (∀ V2 w2, Rep w2 bv bm bo V2 → V2.lg = V.lg.unhold k x.t → V2.lm = V.lm → Blk w2 tb (Tg.cells ⟨x.t, false⟩) 100) := by
    intro V2 w2 R2 e1 e2
    refine R2.log.log.blk k tb ⟨x.t, false⟩ (by rw [e2]; exact htb) ?_
    rw [e1]
    simp only [Lg.unhold]
    exact List.getElem?_set_self (List.getElem?_eq_some_iff.1 hx).1
  clear hput hx htb
  go_enter Try.func19, Try.ntmps19
  go_wp2_with fail
  refine (unhide HT).mono ?_
  rintro e w1 ⟨rfl, k1⟩
  obtain ⟨b1, R2, k2⟩ := unhide HA w1 k1
  have t7 := b1.cell 7
  have f7 := b1.frozen 7
  simp only [Tg.cells] at t7
  simp at t7
  have b2 := unhide HB _ _ R2 rfl rfl
  obtain ⟨w2, hw2'⟩ : ∃ w2, w2 = w1.setCell ⟨tb, 7, none⟩ (.bool false) := ⟨_, rfl⟩
  rw [← hw2'] at R2 k2 b2
  have HW2 := hide hw2'
  clear b1 hw2'
  have HC2 : Hid (∀ V2 w2, Rep w2 bv bm bo V2 → V2.lg = V.lg.unhold k x.t → V2.lm = V.lm → w2.cell? ⟨bv, 1, none⟩ = some (.map (some bo)) ∧ w2.cell? ⟨tb, 0, none⟩ = some (.int .i64 x.t.num) ∧ w2.cell? ⟨tb, 1, none⟩ = some (.string x.t.sym) ∧ w2.cell? ⟨tb, 2, none⟩ = some (.int .i64 x.t.price) ∧ w2.cell? ⟨tb, 3, none⟩ = some (.int .i64 x.t.qty) ∧ w2.cell? ⟨tb, 4, none⟩ = some (.int .i64 x.t.buy) ∧ w2.cell? ⟨tb, 5, none⟩ = some (.int .i64 x.t.sell) ∧ w2.cell? ⟨tb, 6, none⟩ = some (.int .i64 x.t.day)) := by
    intro V2 w2 R2 e1 e2
    have hb := unhide HB V2 w2 R2 e1 e2
    exact ⟨R2.ven.cell 1, hb.cell 0, hb.cell 1, hb.cell 2, hb.cell 3, hb.cell 4, hb.cell 5, hb.cell 6⟩
  have R2d := R2.kept0 (Chg.refl Non w2).drew
  have L1 := R2d.lookO (id := x.t.buy) hw1
  simp only [hbuy, ptrO] at L1
  have H2 := hide (h2 w2.drew R2d)
  obtain ⟨c1, d0, d1, d2, d3, d4, d5, d6⟩ := unhide HC2 _ _ R2 rfl rfl
  have HR2 := hide R2
  have HK2 := hide k2
  clear R2 R2d k2 b2 R HA HB HT h2
  have HH3 := hide h3
  clear h3
  go_wp2
  rw [← unhide HW2]
  go_region_held3 (fun w' => w'.cell? ⟨bv, 1, none⟩ = some (.map (some bo)) ∧ w'.cell? ⟨tb, 4, none⟩ = some (.int .i64 x.t.buy) ∧ w'.cell? ⟨tb, 3, none⟩ = some (.int .i64 x.t.qty)) (go_keep)
    (first | (go_at_call 35; refine (unhide H2).mono ?_; rintro e w3 ⟨rfl, V3, R3, q3, l3, m3, o3, k3, f3⟩; obtain ⟨a1, a2, a3, a4, a5, a6, a7, a8⟩ := unhide HC2 V3 w3 R3 l3 m3; have HR3 := hide R3; have HQ3 := hide q3; have HL3 := hide l3; have HM3 := hide m3; have HO3 := hide o3; have HK3 := hide k3; have HF3 := hide f3; clear R3 q3 l3 m3 o3 k3 f3))
  clear c1 d0 d1 d2 d3 d4 d5 d6 L1 t7 f7
  have R3d := (unhide HR3).kept0 (Chg.refl Non w3).drew
  have L2 := R3d.lookO (id := x.t.sell) hw2
  have hs3 : V3.oid x.t.sell = some by' := by rw [unhide HO3]; exact hsell
  simp only [hs3, ptrO] at L2
  have H3 := hide (unhide HH3 V3 w3.drew (unhide HQ3) R3d (unhide HO3))
  rename_i hSk
  clear R3d hs3 hSk
  go_wp2
  go_region_held3 (fun w' => w'.cell? ⟨bv, 1, none⟩ = some (.map (some bo)) ∧ w'.cell? ⟨tb, 5, none⟩ = some (.int .i64 x.t.sell) ∧ w'.cell? ⟨tb, 3, none⟩ = some (.int .i64 x.t.qty)) (go_keep)
    (first | (go_at_call 35; refine (unhide H3).mono ?_; rintro e w4 ⟨rfl, V4, R4, q4, l4, m4, o4, k4, f4⟩; obtain ⟨g1, g2, g3, g4, g5, g6, g7, g8⟩ := unhide HC2 V4 w4 R4 (l4.trans (unhide HL3)) (m4.trans (unhide HM3)); have HR4 := hide R4; have HQ4 := hide q4; have HL4 := hide l4; have HM4 := hide m4; have HO4 := hide o4; have HK4 := hide k4; have HF4 := hide f4; clear R4 q4 l4 m4 o4 k4 f4))
  clear a1 a2 a3 a4 a5 a6 a7 a8 L2
  rename_i hSk
  clear hSk
  have hlog4 : IsLog w4 bv bm bo (V.lg.unhold k x.t) V4.lm := by
    have := (unhide HR4).log
    rw [unhide HL4, unhide HL3] at this
    exact this
  have hT := tell_any bv bm bo _ _ 2 x.t w4 hlog4 (by simp only [Lg.unhold]; exact hlen2)
  simp only [Tr.val] at hT
  have HT := hide hT
  clear hT hlog4
  go_wp2_with fail
  refine (unhide HT).mono ?_
  rintro e w5 ⟨rfl, m5, c1, c2, c3⟩
  clear g1 g2 g3 g4 g5 g6 g7 g8
  go_wp2
  go_ret
  have sz3 := (unhide HK3).size
  have sz2 := (unhide HK2).size
  have sz4 := (unhide HK4).size
  have fV : ∀ y, Foot bv bm bo { V with lg := V.lg.unhold k x.t } y → Foot bv bm bo V y := fun y h => h
  have f3 : ∀ y, Foot bv bm bo V3 y → Foot bv bm bo V y ∨ w.heap.size ≤ y := fun y h => by
    rcases unhide HF3 y h with h | h
    · exact .inl (fV y h)
    · exact .inr (Nat.le_trans sz2 h)
  have f4 : ∀ y, Foot bv bm bo V4 y → Foot bv bm bo V y ∨ w.heap.size ≤ y := fun y h => by
    rcases unhide HF4 y h with h | h
    · exact f3 y h
    · exact .inr (Nat.le_trans sz2 (Nat.le_trans sz3 h))
  have kk3 : Chg (Foot bv bm bo V) w w3 := (unhide HK2).drew.trans ((unhide HK3).mono fV)
  have kk4 : Chg (Foot bv bm bo V) w w4 := kk3.drew.from ((unhide HK4).mono f3)
  have hpv : ∀ y, (y = bv ∨ V4.lm.pv.ownBlock = some y) → Foot bv bm bo V4 y := fun y h => by
    rcases h with h | h
    · exact .inl h
    · exact .inr (.inr (.inr (.inr (.inr (.inr (.inl h))))))
  refine ⟨rfl, V4, m5, unhide HQ4, (unhide HO4).trans (unhide HO3), ?_, kk4.from (c3.mono (fun y h => f4 y (hpv y h))), fun y hy => ?_⟩
  · exact (unhide HR4).relog c1 (c3.mono (fun y h => h.imp_right (fun h => .inr (.inl h))))
  · have hsz : w.heap.size ≤ w4.heap.size := kk4.size
    rcases hy with h | h | h | h | h | h
    · exact f4 y (.inl h)
    · exact f4 y (.inr (.inl h))
    · exact f4 y (.inr (.inr (.inl h)))
    · exact f4 y (.inr (.inr (.inr (.inl h))))
    · exact f4 y (.inr (.inr (.inr (.inr (.inl h)))))
    · rcases c2 y h with h | h
      · exact f4 y (.inr (.inr (.inr (.inr (.inr h)))))
      · exact .inr (Nat.le_trans hsz h)

#print axioms bust_ok
end Go.Proofs.Ytekjibkliogipaa
