import Derived.Test.YtigaphnafnpfnaaGreatDoorPVT2
import Derived.Test.YtigaphnafnpfnaaGreatDoorPVC3
/- Bust -/
set_option linter.unusedVariables false
set_option linter.unusedSimpArgs false
namespace Go.Proofs.YtigaphnafnpfnaaGreatDoor
open Go.RowKit Go.Maps
attribute [local go_sem ↓] Go.wp_at_zero Go.wp_at_succ

/-- only the log has turned -/
theorem Rep.relog {w w' : World} {bv bm bo : Nat} {V : Ven} {G' : Lg} {lm' : Lm} (R : Rep w bv bm bo V) (hl : IsLog w' bv bm bo G' lm') (k : Chg (fun b => b = bv ∨ V.lm.F b) w w') : Rep w' bv bm bo { V with lg := G', lm := lm' } := by
  obtain ⟨fB, mB, fB1, fB2⟩ := R.books
  obtain ⟨fO, mO, fO1⟩ := R.orders
  have typ : ∀ b, (b = bv ∨ V.lm.F b) → ∃ c t, Blk w b c t := by
    rintro b (rfl | h)
    · exact ⟨_, _, R.ven⟩
    · obtain ⟨c, t, hc, _⟩ := R.log.log.typ h; exact ⟨c, t, hc⟩
  have nB : ¬ (bm = bv ∨ V.lm.F bm) := fun h => by obtain ⟨c, t, hc⟩ := typ bm h; exact mB.ne hc rfl
  have nO : ¬ (bo = bv ∨ V.lm.F bo) := fun h => by obtain ⟨c, t, hc⟩ := typ bo h; exact mO.ne hc rfl
  refine ⟨hl, ⟨fB, mB.kept k nB, fB1, fB2⟩, ⟨fO, mO.kept k nO, fO1⟩, R.mne, fun i hi => ((R.mkt hi).keptLog R.log k).book, fun id b h => ⟨(R.ords id b h).1, ?_⟩, R.mem, R.sepb, R.seps, R.no200⟩
  obtain ⟨_, ix, ho⟩ := R.ords id b h
  refine ⟨ix, k.blk ho ?_⟩
  rintro (e | e)
  · exact Blk.ne ho R.ven (by decide) e
  · exact R.log.log.ne ho (by decide) (by decide) (by decide) (by decide) (by decide) e

/-- a trade holds no longer -/
def Lg.unhold (G : Lg) (k : Nat) (t : Tr) : Lg := { G with tr := G.tr.set k ⟨t, false⟩ }

theorem IsLogp.unhold {w : World} {bv bm bo k b : Nat} {G : Lg} {m : Lm} {x : Tg} (h : IsLog w bv bm bo G m) (hx : G.tr[k]? = some x) (hb : m.tb[k]? = some b) : IsLog (w.setCell ⟨b, 7, none⟩ (.bool false)) bv bm bo (G.unhold k x.t) m := by
  have hblk := h.log.blk k b x hb hx
  have kk : Chg (fun y => y = b) w (w.setCell ⟨b, 7, none⟩ (.bool false)) := (Chg.refl (fun y => y = b) w).setCell (p := ⟨b, 7, none⟩) (.inl rfl) _
  refine ⟨kk.blk h.ven (Blk.ne h.ven hblk (by decide)), ?_⟩
  have ht := own_kept h.log.trow kk (fun y hy e => own_ne h.log.trow hy hblk (by decide) e)
  refine ⟨?_, own_kept h.log.prow kk (fun y hy e => own_ne h.log.prow hy hblk (by decide) e), by simp [Lg.unhold, h.log.len], fun i b' g hi hg => ?_, h.log.nodup, h.log.act.kept kk (fun y hy e => ?_), own_kept h.log.jrow kk (fun y hy e => own_ne h.log.jrow hy hblk (by decide) e), h.log.jb⟩
  · simp only [Lg.unhold, List.length_set]; exact ht
  · simp only [Lg.unhold] at hg
    by_cases e : i = k
    · subst e
      obtain rfl : b' = b := by rw [hb] at hi; exact (Option.some.inj hi).symm
      have hlt : i < G.tr.length := (List.getElem?_eq_some_iff.1 hx).1
      rw [List.getElem?_set_self hlt] at hg
      obtain rfl := Option.some.inj hg
      exact hblk.set 7 _
    · rw [List.getElem?_set_ne (fun h => e h.symm)] at hg
      refine kk.blk (h.log.blk i b' g hi hg) (fun e2 => e ?_)
      subst e2
      obtain ⟨h1, e1⟩ := List.getElem?_eq_some_iff.1 hi
      obtain ⟨h2, e2⟩ := List.getElem?_eq_some_iff.1 hb
      rcases Nat.lt_trichotomy i k with hlt | hlt | hlt
      · exact absurd (e1.trans e2.symm) (List.pairwise_iff_getElem.1 h.log.nodup i k h1 h2 hlt)
      · exact hlt
      · exact absurd (e2.trans e1.symm) (List.pairwise_iff_getElem.1 h.log.nodup k i h2 h1 hlt)
  · obtain ⟨c, t, hc, ht'⟩ := h.log.act.typ hy
    subst e
    exact Blk.ne hc hblk (by rcases ht' with rfl | rfl <;> decide) rfl

/-- what a log keeps where only notes are added -/
def LgK (G G' : Lg) (n : Nat) : Prop := G'.tr = G.tr ∧ G'.tp = G.tp ∧ G'.day = G.day ∧ G'.na = G.na ∧ G'.nt.length ≤ G.nt.length + n

/-- what takeBack leaves -/
def Turned (bv bm bo : Nat) (V : Ven) (Q : Ven → Prop) (w w' : World) : Prop :=
  ∃ V2, Rep w' bv bm bo V2 ∧ Q V2 ∧ LgK V.lg V2.lg 3 ∧ (∀ b c t, Blk w b c t → (t = 105 ∨ t = 35 ∨ t = 103) → Blk w' b c t) ∧ V2.oid = V.oid ∧ Chg (Foot bv bm bo V) w w' ∧ ∀ x, Foot bv bm bo V2 x → Foot bv bm bo V x ∨ w.heap.size ≤ x

/-- the log where a trade is busted, ahead of what is taken back -/
def Lg.busting (G : Lg) (k tb : Nat) (t : Tr) : Lg := ((G.begun.unhold k t).told 2 t).noted [.busted tb]

set_option maxHeartbeats 4000000 in
set_option maxRecDepth 100000 in
theorem bust_ok (bv bm bo k tb bx by' : Nat) (V : Ven) (N : Int) (x : Tg) (again : Bool) (w : World) (R : Rep w bv bm bo V) (hTab : Tab w) (hN : N - 1 = (k : Int)) (hx : V.lg.tr[k]? = some x) (htb : V.lm.tb[k]? = some tb) (hlen : V.lg.tr.length ≤ 1000000000) (hlen2 : V.lg.tp.length < 1000000000) (hput : putE x V.lg.day = 0)
    (hbuy : V.oid x.t.buy = some bx) (hsell : V.oid x.t.sell = some by') (hw1 : (Lit.int .i64 x.t.buy).wf = true) (hw2 : (Lit.int .i64 x.t.sell).wf = true) (Q2 Q3 : Ven → Prop) (hna : V.lg.na < 3000000)
    (h2 : ∀ w1 lm1, Rep w1 bv bm bo { V with lg := V.lg.busting k tb x.t, lm := lm1 } → Calls Tryz.prog 75 #[.pointer (some ⟨bv, 0, none⟩), .pointer (some ⟨bx, 0, none⟩), .int .i64 x.t.qty, .bool again] w1 fun e w' => e = .returned (.tuple #[]) ∧ Turned bv bm bo { V with lg := V.lg.busting k tb x.t, lm := lm1 } Q2 w1 w')
    (h3 : ∀ V2 w2, Q2 V2 → Rep w2 bv bm bo V2 → V2.oid = V.oid → V2.lg.na = V.lg.na + 1 → V2.lg.nt.length ≤ 4 → Calls Tryz.prog 75 #[.pointer (some ⟨bv, 0, none⟩), .pointer (some ⟨by', 0, none⟩), .int .i64 x.t.qty, .bool again] w2 fun e w' => e = .returned (.tuple #[]) ∧ Turned bv bm bo V2 Q3 w2 w') :
    Calls Tryz.prog 39 #[.pointer (some ⟨bv, 0, none⟩), .int .i64 N, .bool again] w fun e w' => e = .returned (.int .i64 0) ∧
      ∃ V3, Q3 V3 ∧ V3.oid = V.oid ∧ Rep w' bv bm bo V3 ∧ LgK (V.lg.busting k tb x.t) V3.lg 6 ∧ Chg (Foot bv bm bo V) w w' ∧ ∀ y, Foot bv bm bo V3 y → Foot bv bm bo V y ∨ w.heap.size ≤ y := by
  have bN : i64B N := by
    have hk := (List.getElem?_eq_some_iff.1 hx).1
    exact ⟨by omega, by omega⟩
  have k0 : Chg Non w (w.alloc (.cells #[.pointer (some ⟨bv, 0, none⟩)] 35)) := (Chg.refl Non w).alloc _
  have hT := toPut_at bv bm bo k tb V.lg V.lm N x _ (R.log.kept0 k0) hN hx htb hlen
  rw [hput] at hT
  simp only [if_true] at hT
  have HT := hide hT
  clear hT
  have hF : V.lm.F tb := .inr (.inr (.inl (List.mem_of_getElem? htb)))
  have hBv := Blk.new w #[.pointer (some ⟨bv, 0, none⟩)] 35
  have lv := R.ven.lt
  -- up to the first takeBack
  have HR := hide R
  have HX := hide hx
  have HTB := hide htb
  have HFt := hide hF
  have HH2 := hide h2
  have HH3 := hide h3
  clear hput hx htb R hF h2 h3
  go_enter Tryz.func39, Tryz.ntmps39
  go_wp2_with fail
  refine (unhide HT).mono ?_
  rintro e w1 ⟨rfl, k1⟩
  have kk1 : Chg Non w w1 := k0.trans k1
  obtain ⟨w1a, hw1a⟩ : ∃ w1a, w1a = w1.alloc (.cells #[.pointer (some ⟨tb, 0, none⟩)] 103) := ⟨_, rfl⟩
  have k1a : Chg Non w w1a := by rw [hw1a]; exact kk1.alloc _
  have bv1 : Blk w1a w.heap.size #[.pointer (some ⟨bv, 0, none⟩)] 35 := by rw [hw1a]; exact (k1.blk hBv (fun x => x)).alloc _
  have bt1 : Blk w1a w1.heap.size #[.pointer (some ⟨tb, 0, none⟩)] 103 := by rw [hw1a]; exact Blk.new _ _ _
  have R1 := (unhide HR).kept0 k1a
  have tb1 : Blk w1a tb x.cells 105 := R1.log.log.blk k tb x (unhide HTB) (unhide HX)
  have HBeg := hide (begin_from bv bm bo V.lg V.lm (bustL N again) w1a R1.log hna (bustL_size N again bN).1 (bustL_size N again bN).2)
  have HLn := hide (lineB_from N again w1a (hTab.kept0 k1a) bN)
  have xv1a : w1a.cell? ⟨w.heap.size, 0, none⟩ = some (.pointer (some ⟨bv, 0, none⟩)) := bv1.cell 0
  have HB1 := hide bv1
  have HV1 := hide R1.ven
  have HLo := hide R1.log
  have xv1 : w1.cell? ⟨w.heap.size, 0, none⟩ = some (.pointer (some ⟨bv, 0, none⟩)) := (k1.blk hBv (fun x => x)).cell 0
  have HW := hide hw1a
  have l1 : w.heap.size < w1.heap.size := by have := kk1.size; have := k1.size; simp at this; omega
  clear hw1a k1
  generalize bustL N again = ln at HBeg HLn
  have noB : ∀ wb, Chg (fun b => b = bv ∨ V.lm.av.ownBlock = some b ∨ V.lm.jv.ownBlock = some b) w1a wb → wb.cell? ⟨w.heap.size, 0, none⟩ = some (.pointer (some ⟨bv, 0, none⟩)) := fun wb kb => (kb.blk (unhide HB1) (by
    rintro (e | e | e)
    · exact Blk.ne (unhide HB1) (unhide HV1) (by decide) e
    · exact own_ne (unhide HLo).log.act.row e (unhide HB1) (by decide) rfl
    · exact own_ne (unhide HLo).log.jrow e (unhide HB1) (by decide) rfl)).cell 0
  have HNoB := hide noB
  clear noB
  go_wp2
  rw [← unhide HW]
  go_region_held3 (fun w' => w'.cell? ⟨w.heap.size, 0, none⟩ = some (.pointer (some ⟨bv, 0, none⟩))) (go_keep)
    (first
      | (go_at_call 72; refine (unhide HLn _ ?cc).mono ?_; (case cc => repeat (first | exact Chg.refl _ _ | refine Chg.drew ?_)); rintro e wl ⟨rfl, hk⟩; have z0 := hk.cell (p := ⟨w.heap.size, 0, none⟩) xv1a (fun x => x); have HKl := hide hk; clear hk)
      | (go_at_call 51; refine (unhide HBeg _ ?cc).mono ?_; (case cc => repeat (first | exact unhide HKl | refine Chg.drew ?_)); rintro e wb ⟨rfl, lmb, hLb, hFb, -, htbb, kb⟩; have z0 := unhide HNoB wb kb; have HLb0 := hide hLb; have HFb0 := hide hFb; have HKb0 := hide kb; have HTb0 := hide htbb; clear hLb hFb kb htbb))
  rename_i hSk
  clear hSk z0 xv1a HLn HKl HNoB
  have hLb := unhide HLb0
  have hFb := unhide HFb0
  have kb := unhide HKb0
  have htbb := unhide HTb0
  clear HLb0 HFb0 HKb0 HTb0 HB1 HV1 HLo
  have nob : ∀ {b c t}, Blk w1a b c t → t ≠ 100 → t ≠ 109 → t ≠ 5 → Blk wb b c t := fun h h0 h1 h2 => kb.blk h (by
    rintro (e | e | e)
    · exact Blk.ne h R1.ven h0 e
    · exact own_ne R1.log.log.act.row e h (fun e => h1 e.symm) rfl
    · exact own_ne R1.log.log.jrow e h (fun e => h2 e.symm) rfl)
  have bvb := nob bv1 (by decide) (by decide) (by decide)
  have btb := nob bt1 (by decide) (by decide) (by decide)
  have tbb := nob tb1 (by decide) (by decide) (by decide)
  have hL2 : IsLog (wb.setCell ⟨tb, 7, none⟩ (.bool false)) bv bm bo (V.lg.begun.unhold k x.t) lmb := hLb.unhold (unhide HX) (by rw [htbb]; exact unhide HTB)
  have xtb : wb.cell? ⟨w1.heap.size, 0, none⟩ = some (.pointer (some ⟨tb, 0, none⟩)) := btb.cell 0
  have t7 := tbb.cell 7
  have f7 := tbb.frozen 7
  simp only [Tg.cells] at t7
  simp at t7
  obtain ⟨w2, hw2'⟩ : ∃ w2, w2 = wb.setCell ⟨tb, 7, none⟩ (.bool false) := ⟨_, rfl⟩
  have k2 : Chg (fun y => y = tb) wb w2 := by rw [hw2']; exact (Chg.refl (fun y => y = tb) wb).setCell (p := ⟨tb, 7, none⟩) (.inl rfl) _
  have tb2 : Blk w2 tb (Tg.cells ⟨x.t, false⟩) 105 := by rw [hw2']; exact tbb.set 7 _
  rw [← hw2'] at hL2
  have bv2 := k2.blk bvb (fun e => Blk.ne bvb tbb (by decide) e)
  have bt2 := k2.blk btb (fun e => Blk.ne btb tbb (by decide) e)
  have kF2 : Chg (fun y => y = bv ∨ V.lm.F y) w w2 := (k1a.of_non.trans (kb.mono (fun y h => h.imp_right (fun h => h.elim (fun h => .inr (.inr (.inr (.inl h)))) (fun h => .inr (.inl (.inr h))))))).trans (k2.mono (fun y h => .inr (by rw [h]; exact unhide HFt)))
  have hFb' : ∀ y, lmb.F y → V.lm.F y ∨ w.heap.size ≤ y := fun y h => (hFb y h).imp_right (fun h => Nat.le_trans k1a.size h)
  have hT2 := tell_any bv bm bo _ lmb 2 x.t w2.drew (hL2.kept0 (Chg.refl Non w2).drew) (by simp only [Lg.unhold, Lg.begun]; exact hlen2)
  simp only [Tr.val] at hT2
  have HT2 := hide hT2
  have HW2 := hide hw2'
  have HL2 := hide hL2
  have x2 : w2.cell? ⟨w.heap.size, 0, none⟩ = some (.pointer (some ⟨bv, 0, none⟩)) := bv2.cell 0
  have y2 : w2.cell? ⟨w1.heap.size, 0, none⟩ = some (.pointer (some ⟨tb, 0, none⟩)) := bt2.cell 0
  have d0 : w2.cell? ⟨tb, 0, none⟩ = some (.int .i64 x.t.num) := tb2.cell 0
  have d1 : w2.cell? ⟨tb, 1, none⟩ = some (.string x.t.sym) := tb2.cell 1
  have d2 : w2.cell? ⟨tb, 2, none⟩ = some (.int .i64 x.t.price) := tb2.cell 2
  have d3 : w2.cell? ⟨tb, 3, none⟩ = some (.int .i64 x.t.qty) := tb2.cell 3
  have d4 : w2.cell? ⟨tb, 4, none⟩ = some (.int .i64 x.t.buy) := tb2.cell 4
  have d5 : w2.cell? ⟨tb, 5, none⟩ = some (.int .i64 x.t.sell) := tb2.cell 5
  have d6 : w2.cell? ⟨tb, 6, none⟩ = some (.int .i64 x.t.day) := tb2.cell 6
  have HK3 : Hid (∀ w3, Chg (fun b => b = bv ∨ lmb.pv.ownBlock = some b) w2.drew w3 → ∀ {b c t}, Blk w2 b c t → t ≠ 100 → t ≠ 62 → Blk w3 b c t) := fun w3 kc b c t h h0 h1 => kc.blk h.drew (by
    rintro (e | e)
    · exact Blk.ne h hL2.ven h0 e
    · exact own_ne hL2.log.prow e h (fun e => h1 e.symm) rfl)
  have HBv := hide bv2
  have HBt := hide bt2
  have HTb := hide tb2
  have HKF := hide kF2
  have HFb := hide hFb'
  clear hT2 hw2' hL2 k2 tb2 bv2 bt2 bvb btb tbb nob kb hLb hFb htbb tb1 bt1 bv1 R1 k1a kk1 HBeg HW HT hFb' kF2 xv1 k0 hBv
  go_wp2
  rw [← unhide HW2]
  clear xtb t7 f7
  go_region_held3 (fun w' => w'.cell? ⟨w.heap.size, 0, none⟩ = some (.pointer (some ⟨bv, 0, none⟩)) ∧ w'.cell? ⟨w1.heap.size, 0, none⟩ = some (.pointer (some ⟨tb, 0, none⟩)) ∧ w'.cell? ⟨tb, 0, none⟩ = some (.int .i64 x.t.num) ∧ w'.cell? ⟨tb, 1, none⟩ = some (.string x.t.sym) ∧ w'.cell? ⟨tb, 2, none⟩ = some (.int .i64 x.t.price) ∧ w'.cell? ⟨tb, 3, none⟩ = some (.int .i64 x.t.qty) ∧ w'.cell? ⟨tb, 4, none⟩ = some (.int .i64 x.t.buy) ∧ w'.cell? ⟨tb, 5, none⟩ = some (.int .i64 x.t.sell) ∧ w'.cell? ⟨tb, 6, none⟩ = some (.int .i64 x.t.day)) (go_keep)
    (first | (go_at_call 73; refine (unhide HT2).mono ?_; rintro e w3 ⟨rfl, lm3, c1, c2, c3⟩; have bv3 := unhide HK3 w3 c3 (unhide HBv) (by decide) (by decide); have bt3 := unhide HK3 w3 c3 (unhide HBt) (by decide) (by decide); have tb3 := unhide HK3 w3 c3 (unhide HTb) (by decide) (by decide); have a0 : w3.cell? ⟨w.heap.size, 0, none⟩ = some (.pointer (some ⟨bv, 0, none⟩)) := bv3.cell 0; have a1 : w3.cell? ⟨w1.heap.size, 0, none⟩ = some (.pointer (some ⟨tb, 0, none⟩)) := bt3.cell 0; have b0 : w3.cell? ⟨tb, 0, none⟩ = some (.int .i64 x.t.num) := tb3.cell 0; have b1 : w3.cell? ⟨tb, 1, none⟩ = some (.string x.t.sym) := tb3.cell 1; have b2 : w3.cell? ⟨tb, 2, none⟩ = some (.int .i64 x.t.price) := tb3.cell 2; have b3 : w3.cell? ⟨tb, 3, none⟩ = some (.int .i64 x.t.qty) := tb3.cell 3; have b4 : w3.cell? ⟨tb, 4, none⟩ = some (.int .i64 x.t.buy) := tb3.cell 4; have b5 : w3.cell? ⟨tb, 5, none⟩ = some (.int .i64 x.t.sell) := tb3.cell 5; have b6 : w3.cell? ⟨tb, 6, none⟩ = some (.int .i64 x.t.day) := tb3.cell 6; have HC1 := hide c1; have HC2 := hide c2; have HC3 := hide c3; have HV3 := hide bv3; have HT3 := hide bt3; have HTB3 := hide tb3; clear c1 c2 c3 bv3 bt3 tb3))
  rename_i hSk
  clear hSk x2 y2 d0 d1 d2 d3 d4 d5 d6 HT2
  have HNt := hide (note1A bv bm bo _ lm3 (.busted tb) (.func 74) #[.pointer (some ⟨w1.heap.size, 0, none⟩), .pointer (some ⟨w.heap.size, 0, none⟩)] w3 (unhide HC1) (by show 0 < V.lg.na + 1; omega) (by show V.lg.na + 1 ≤ 3000000; omega) (by show 0 + 1 < 1000000000; omega))
  have hF3 : ∀ y, lm3.F y → V.lm.F y ∨ w.heap.size ≤ y := fun y h => by
    rcases unhide HC2 y h with h | h
    · exact unhide HFb y h
    · exact .inr (Nat.le_trans (unhide HKF).size h)
  have kF3 : Chg (fun y => y = bv ∨ V.lm.F y) w w3 := (unhide HKF).drew.from ((unhide HC3).mono (fun y h => by
    rcases h with h | h
    · exact .inl (.inl h)
    · exact (unhide HFb y (.inr (.inl (.inl h)))).imp_left .inr))
  have HF3 := hide hF3
  have HKF3 := hide kF3
  clear hF3 kF3
  go_wp2_with fail
  refine (unhide HNt).mono ?_
  rintro e w4 ⟨rfl, lm4, c1, c2, c3, -⟩
  change IsLog w4 bv bm bo (V.lg.busting k tb x.t) lm4 at c1
  have act4 : ∀ {b c t}, Blk w3 b c t → t ≠ 109 → t ≠ 1 → Blk w4 b c t := fun h h0 h1 => c3.blk h (fun e => by
    obtain ⟨c', t', hc, ht'⟩ := (unhide HC1).log.act.typ e
    exact Blk.ne h hc (by rcases ht' with rfl | rfl; exact h0; exact h1) rfl)
  have bv4 := act4 (unhide HV3) (by decide) (by decide)
  have bt4 := act4 (unhide HT3) (by decide) (by decide)
  have tb4 := act4 (unhide HTB3) (by decide) (by decide)
  have kF4 : Chg (fun y => y = bv ∨ V.lm.F y) w w4 := (unhide HKF3).from (c3.mono (fun y h => (unhide HF3 y (.inr (.inr (.inr h)))).imp_left .inr))
  have hF4 : ∀ y, lm4.F y → V.lm.F y ∨ w.heap.size ≤ y := fun y h => by
    rcases c2 y h with h | h
    · exact unhide HF3 y h
    · exact .inr (Nat.le_trans (unhide HKF3).size h)
  have R4 : Rep w4 bv bm bo { V with lg := V.lg.busting k tb x.t, lm := lm4 } := (unhide HR).turnLog c1 kF4
  have R4d := R4.kept0 (Chg.refl Non w4).drew
  have L1 := R4d.lookO (id := x.t.buy) hw1
  simp only [hbuy, ptrO] at L1
  have H2 := hide (unhide HH2 w4.drew lm4 R4d)
  have c1' : w4.cell? ⟨bv, 1, none⟩ = some (.map (some bo)) := R4.ven.cell 1
  have x4 : w4.cell? ⟨w.heap.size, 0, none⟩ = some (.pointer (some ⟨bv, 0, none⟩)) := bv4.cell 0
  have y4 : w4.cell? ⟨w1.heap.size, 0, none⟩ = some (.pointer (some ⟨tb, 0, none⟩)) := bt4.cell 0
  have d3 : w4.cell? ⟨tb, 3, none⟩ = some (.int .i64 x.t.qty) := tb4.cell 3
  have d4 : w4.cell? ⟨tb, 4, none⟩ = some (.int .i64 x.t.buy) := tb4.cell 4
  have HBv4 := hide bv4
  have HBt4 := hide bt4
  have HTb4 := hide tb4
  have HKF4 := hide kF4
  have HF4 := hide hF4
  clear c1 c2 c3 act4 bv4 bt4 tb4 kF4 hF4 R4 R4d a0 a1 b0 b1 b2 b3 b4 b5 b6 HNt HC1 HC2 HC3 HV3 HT3 HTB3 HK3 HBv HBt HTb HKF HFb HF3 HKF3 HL2 HW2
  go_wp2
  go_region_held3 (fun w' => w'.cell? ⟨w.heap.size, 0, none⟩ = some (.pointer (some ⟨bv, 0, none⟩)) ∧ w'.cell? ⟨w1.heap.size, 0, none⟩ = some (.pointer (some ⟨tb, 0, none⟩)) ∧ w'.cell? ⟨bv, 1, none⟩ = some (.map (some bo)) ∧ w'.cell? ⟨tb, 4, none⟩ = some (.int .i64 x.t.buy) ∧ w'.cell? ⟨tb, 3, none⟩ = some (.int .i64 x.t.qty)) (go_keep)
    (first | (go_at_call 75; refine (unhide H2).mono ?_; rintro e w5 ⟨rfl, V5, R5, q5, l5, p5, o5, k5, f5⟩; have bv5 := p5 _ _ _ (unhide HBv4).drew (by simp); have bt5 := p5 _ _ _ (unhide HBt4).drew (by simp); have tb5 := p5 _ _ _ (unhide HTb4).drew (by simp); have g0 : w5.cell? ⟨w.heap.size, 0, none⟩ = some (.pointer (some ⟨bv, 0, none⟩)) := bv5.cell 0; have g1 : w5.cell? ⟨w1.heap.size, 0, none⟩ = some (.pointer (some ⟨tb, 0, none⟩)) := bt5.cell 0; have g2 : w5.cell? ⟨bv, 1, none⟩ = some (.map (some bo)) := R5.ven.cell 1; have g3 : w5.cell? ⟨tb, 3, none⟩ = some (.int .i64 x.t.qty) := tb5.cell 3; have g4 : w5.cell? ⟨tb, 4, none⟩ = some (.int .i64 x.t.buy) := tb5.cell 4; have g5 : w5.cell? ⟨tb, 5, none⟩ = some (.int .i64 x.t.sell) := tb5.cell 5; have HR5 := hide R5; have HQ5 := hide q5; have HL5 := hide l5; have HO5 := hide o5; have HK5 := hide k5; have HF5 := hide f5; have HBv5 := hide bv5; have HBt5 := hide bt5; have HTb5 := hide tb5; clear R5 q5 l5 p5 o5 k5 f5 bv5 bt5 tb5))
  rename_i hSk
  clear hSk c1' x4 y4 d3 d4 L1 H2
  have R5d := (unhide HR5).kept0 (Chg.refl Non w5).drew
  have L2 := R5d.lookO (id := x.t.sell) hw2
  have hs5 : V5.oid x.t.sell = some by' := by rw [unhide HO5]; exact hsell
  simp only [hs5, ptrO] at L2
  have H3 := hide (unhide HH3 V5 w5.drew (unhide HQ5) R5d (unhide HO5) (by rw [(unhide HL5).2.2.2.1]; rfl) (by have := (unhide HL5).2.2.2.2; simp only [Lg.busting, Lg.noted, Lg.told, Lg.unhold, Lg.begun, List.nil_append, List.length_cons, List.length_nil] at this; omega))
  clear R5d hs5
  go_wp2
  go_region_held3 (fun w' => w'.cell? ⟨w.heap.size, 0, none⟩ = some (.pointer (some ⟨bv, 0, none⟩)) ∧ w'.cell? ⟨w1.heap.size, 0, none⟩ = some (.pointer (some ⟨tb, 0, none⟩)) ∧ w'.cell? ⟨bv, 1, none⟩ = some (.map (some bo)) ∧ w'.cell? ⟨tb, 5, none⟩ = some (.int .i64 x.t.sell) ∧ w'.cell? ⟨tb, 3, none⟩ = some (.int .i64 x.t.qty)) (go_keep)
    (first | (go_at_call 75; refine (unhide H3).mono ?_; rintro e w6 ⟨rfl, V6, R6, q6, l6, p6, o6, k6, f6⟩; have bv6 := p6 _ _ _ (unhide HBv5).drew (by simp); have bt6 := p6 _ _ _ (unhide HBt5).drew (by simp); have tb6 := p6 _ _ _ (unhide HTb5).drew (by simp); have j0 : w6.cell? ⟨w.heap.size, 0, none⟩ = some (.pointer (some ⟨bv, 0, none⟩)) := bv6.cell 0; have j1 : w6.cell? ⟨w1.heap.size, 0, none⟩ = some (.pointer (some ⟨tb, 0, none⟩)) := bt6.cell 0; have j2 : w6.cell? ⟨bv, 1, none⟩ = some (.map (some bo)) := R6.ven.cell 1; have j3 : w6.cell? ⟨tb, 3, none⟩ = some (.int .i64 x.t.qty) := tb6.cell 3; have j5 : w6.cell? ⟨tb, 5, none⟩ = some (.int .i64 x.t.sell) := tb6.cell 5; have HR6 := hide R6; have HQ6 := hide q6; have HL6 := hide l6; have HO6 := hide o6; have HK6 := hide k6; have HF6 := hide f6; clear R6 q6 l6 p6 o6 k6 f6 bv6 bt6 tb6))
  clear g0 g1 g2 g3 g4 g5 L2 H3
  go_wp2
  go_ret
  have hft : ∀ y, Foot bv bm bo { V with lg := V.lg.busting k tb x.t, lm := lm4 } y → Foot bv bm bo V y ∨ w.heap.size ≤ y := fun y hy => by
    rcases hy with h | h | h | h | h | h
    · exact .inl (.inl h)
    · exact .inl (.inr (.inl h))
    · exact .inl (.inr (.inr (.inl h)))
    · exact .inl (.inr (.inr (.inr (.inl h))))
    · exact .inl (.inr (.inr (.inr (.inr (.inl h)))))
    · exact (unhide HF4 y h).imp_left (fun h => .inr (.inr (.inr (.inr (.inr h)))))
  have kk4 : Chg (Foot bv bm bo V) w w4 := (unhide HKF4).mono (fun y h => h.elim (fun h => .inl h) (fun h => .inr (.inr (.inr (.inr (.inr h))))))
  have kk5 : Chg (Foot bv bm bo V) w w5 := kk4.drew.from ((unhide HK5).mono hft)
  have f5 : ∀ y, Foot bv bm bo V5 y → Foot bv bm bo V y ∨ w.heap.size ≤ y := fun y h => by
    rcases unhide HF5 y h with h | h
    · exact hft y h
    · exact .inr (Nat.le_trans kk4.size h)
  have kk6 : Chg (Foot bv bm bo V) w w6 := kk5.drew.from ((unhide HK6).mono f5)
  obtain ⟨a1, a2, a3, a4, a5⟩ := unhide HL5
  obtain ⟨b1, b2, b3, b4, b5⟩ := unhide HL6
  refine ⟨rfl, V6, unhide HQ6, (unhide HO6).trans (unhide HO5), unhide HR6, ⟨b1.trans a1, b2.trans a2, b3.trans a3, b4.trans a4, by omega⟩, kk6, fun y hy => ?_⟩
  rcases unhide HF6 y hy with h | h
  · exact f5 y h
  · exact .inr (Nat.le_trans kk5.size h)

#print axioms bust_ok
end Go.Proofs.YtigaphnafnpfnaaGreatDoor

