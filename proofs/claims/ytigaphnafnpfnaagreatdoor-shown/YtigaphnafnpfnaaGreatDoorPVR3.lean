import Derived.Test.YtigaphnafnpfnaaGreatDoorPVQ4
set_option linter.unusedVariables false
set_option linter.unusedSimpArgs false
/- venuelaw.acts. -/
namespace Go.Proofs.YtigaphnafnpfnaaGreatDoor
open Go.RowKit Go.Maps
attribute [local go_sem ↓] Go.wp_at_zero Go.wp_at_succ

set_option maxRecDepth 100000 in
set_option maxHeartbeats 8000000 in
theorem acts_enter (x : Pr) (o : Opx) (w : World) (h : PrOK w x) (hT : Tab w) (hN : x.N < 2000000) (hk : o.kind = 3) (hO : OpOK o) :
    Calls Tryz.prog 60 #[.agg #[.pointer (some ⟨x.bv, 0, none⟩), .pointer (some ⟨x.rb, 0, none⟩)], o.val] w fun e w' => e = .returned (.bool true) ∧ PrN x w w' := by
  obtain ⟨kind, m, a, b, c, s, ⟨id, owner, sym, side, okind, price, qty⟩⟩ := o
  simp only at hk
  subst hk
  obtain ⟨W1, hW1⟩ : ∃ W1, W1 = ((((w.alloc (.cells #[.pointer (some ⟨x.bv, 0, none⟩), .pointer (some ⟨x.rb, 0, none⟩)] 131)).alloc (.cells #[.int .i64 3, .int .i64 m, .int .i64 a, .int .i64 b, .int .i64 c, .string s, .int .i64 id, .int .i64 owner, .string sym, .int .i64 side, .int .i64 okind, .int .i64 price, .int .i64 qty] 81)).alloc (.cells zero5 87)).alloc (.cells zero5 87)) := ⟨_, rfl⟩
  have k1 : Chg Non w W1 := by rw [hW1]; exact ((((Chg.refl Non w).alloc _).alloc _).alloc _).alloc _
  have hs1 : W1.heap.size = w.heap.size + 4 := by rw [hW1]; simp
  have hp1 := h.kept0 k1
  have bp1 : Blk W1 w.heap.size #[.pointer (some ⟨x.bv, 0, none⟩), .pointer (some ⟨x.rb, 0, none⟩)] 131 := by rw [hW1]; exact (((Blk.new w _ _).alloc _).alloc _).alloc _
  have bo1 : Blk W1 (w.heap.size + 1) #[.int .i64 3, .int .i64 m, .int .i64 a, .int .i64 b, .int .i64 c, .string s, .int .i64 id, .int .i64 owner, .string sym, .int .i64 side, .int .i64 okind, .int .i64 price, .int .i64 qty] 81 := by rw [hW1]; exact ((Blk.new1 w _ _ _).alloc _).alloc _
  have bz1 : Blk W1 (w.heap.size + 2) zero5 87 := by rw [hW1]; exact (Blk.new2' w _ _ _ _).alloc _
  have by1 : Blk W1 (w.heap.size + 3) zero5 87 := by
    rw [hW1]
    have := Blk.new (((w.alloc (.cells #[.pointer (some ⟨x.bv, 0, none⟩), .pointer (some ⟨x.rb, 0, none⟩)] 131)).alloc (.cells #[.int .i64 3, .int .i64 m, .int .i64 a, .int .i64 b, .int .i64 c, .string s, .int .i64 id, .int .i64 owner, .string sym, .int .i64 side, .int .i64 okind, .int .i64 price, .int .i64 qty] 81)).alloc (.cells zero5 87)) zero5 87
    simpa using this
  have HC := hide (out_enter x.bv x.bm x.bo x.N x.V x.p x.S ⟨id, owner, sym, side, okind, price, qty⟩ W1 hp1.rep (hT.kept0 k1) hp1.sim (by omega) hp1.sz (by have := hO.sym; simp only at this; show sym.size ≤ _; omega) (i64_wf hO.id) hO.own hO.kd hO.pr)
  have nf : ∀ b, w.heap.size ≤ b → ¬ PF x b := fun b hb hf => by have := h.lt hf; omega
  have HNF := hide nf
  have HP1 := hide hp1
  have HBP := hide bp1
  have HBO := hide bo1
  have HBZ := hide bz1
  have HBY := hide by1
  have HK1 := hide k1
  have HS1 := hide hs1
  have HW1 := hide hW1
  simp only [Opx.val, Opx.cells]
  simp only [zero5] at HW1
  simp only [Ask.val] at HC
  clear h hT hO k1 hs1 hp1 bp1 bo1 bz1 by1 nf hW1
  go_enter Tryz.func60, Tryz.ntmps60
  go_wp2_with fail
  rw [← unhide HW1]
  refine (unhide HC).mono ?_
  rintro e w2 ⟨rf, rr, rn, ra, rk, E, rfl, hout⟩
  have kF := hout.chg
  have nF : ∀ b, w.heap.size ≤ b → ¬ Foot x.bv x.bm x.bo x.V b := fun b hb hf => unhide HNF b hb (.inl hf)
  have bp2 := kF.blk (unhide HBP) (nF _ (by omega))
  have bo2 := kF.blk (unhide HBO) (nF _ (by omega))
  have zb := kF.blk (unhide HBZ) (nF _ (by omega))
  have yb := kF.blk (unhide HBY) (nF _ (by omega))
  have q0 : w2.cell? ⟨w.heap.size, 0, none⟩ = some (.pointer (some ⟨x.bv, 0, none⟩)) := bp2.cell 0
  have q1 : w2.cell? ⟨w.heap.size, 1, none⟩ = some (.pointer (some ⟨x.rb, 0, none⟩)) := bp2.cell 1
  have o0 : w2.cell? ⟨w.heap.size + 1, 0, none⟩ = some (.int .i64 3) := bo2.cell 0
  have o1 : w2.cell? ⟨w.heap.size + 1, 1, none⟩ = some (.int .i64 m) := bo2.cell 1
  have o2 : w2.cell? ⟨w.heap.size + 1, 2, none⟩ = some (.int .i64 a) := bo2.cell 2
  have o3 : w2.cell? ⟨w.heap.size + 1, 3, none⟩ = some (.int .i64 b) := bo2.cell 3
  have o4 : w2.cell? ⟨w.heap.size + 1, 4, none⟩ = some (.int .i64 c) := bo2.cell 4
  have o5 : w2.cell? ⟨w.heap.size + 1, 5, none⟩ = some (.string s) := bo2.cell 5
  have o6 : w2.cell? ⟨w.heap.size + 1, 6, none⟩ = some (.int .i64 id) := bo2.cell 6
  have o7 : w2.cell? ⟨w.heap.size + 1, 7, none⟩ = some (.int .i64 owner) := bo2.cell 7
  have o8 : w2.cell? ⟨w.heap.size + 1, 8, none⟩ = some (.string sym) := bo2.cell 8
  have o9 : w2.cell? ⟨w.heap.size + 1, 9, none⟩ = some (.int .i64 side) := bo2.cell 9
  have o10 : w2.cell? ⟨w.heap.size + 1, 10, none⟩ = some (.int .i64 okind) := bo2.cell 10
  have o11 : w2.cell? ⟨w.heap.size + 1, 11, none⟩ = some (.int .i64 price) := bo2.cell 11
  have o12 : w2.cell? ⟨w.heap.size + 1, 12, none⟩ = some (.int .i64 qty) := bo2.cell 12
  have z0 : w2.cell? ⟨w.heap.size + 2, 0, none⟩ = some (.int .i64 0) := zb.cell 0
  have fz0 := zb.frozen 0
  have z1 : w2.cell? ⟨w.heap.size + 2, 1, none⟩ = some (.int .i64 0) := zb.cell 1
  have fz1 := zb.frozen 1
  have z2 : w2.cell? ⟨w.heap.size + 2, 2, none⟩ = some (.int .i64 0) := zb.cell 2
  have fz2 := zb.frozen 2
  have z3 : w2.cell? ⟨w.heap.size + 2, 3, none⟩ = some (.int .i64 0) := zb.cell 3
  have fz3 := zb.frozen 3
  have z4 : w2.cell? ⟨w.heap.size + 2, 4, none⟩ = some (.int .i64 0) := zb.cell 4
  have fz4 := zb.frozen 4
  have y0 : w2.cell? ⟨w.heap.size + 3, 0, none⟩ = some (.int .i64 0) := yb.cell 0
  have fy0 := yb.frozen 0
  have y1 : w2.cell? ⟨w.heap.size + 3, 1, none⟩ = some (.int .i64 0) := yb.cell 1
  have fy1 := yb.frozen 1
  have y2 : w2.cell? ⟨w.heap.size + 3, 2, none⟩ = some (.int .i64 0) := yb.cell 2
  have fy2 := yb.frozen 2
  have y3 : w2.cell? ⟨w.heap.size + 3, 3, none⟩ = some (.int .i64 0) := yb.cell 3
  have fy3 := yb.frozen 3
  have y4 : w2.cell? ⟨w.heap.size + 3, 4, none⟩ = some (.int .i64 0) := yb.cell 4
  have fy4 := yb.frozen 4
  have lzb := zb.lt
  have lyb := yb.lt
  have HOUT := hide hout
  have HZ := hide zb
  have HY := hide yb
  have HKF := hide kF
  clear hout kF nF bp2 bo2 zb yb HC
  simp only [repV]
  go_wp2_with fail
  have kS : Chg (fun b => b = w.heap.size + 2) w2 (((((w2.setCell ⟨w.heap.size + 2, 0, none⟩ (.int .i64 rf)).setCell ⟨w.heap.size + 2, 1, none⟩ (.int .i64 rr)).setCell ⟨w.heap.size + 2, 2, none⟩ (.int .i64 rn)).setCell ⟨w.heap.size + 2, 3, none⟩ (.int .i64 ra)).setCell ⟨w.heap.size + 2, 4, none⟩ (.int .i64 rk)) := chg5 _ _ _ _ _
  refine (pr_doK (unhide HP1) hN (unhide HOUT) kS (fun b hb => ⟨unhide HNF b (by omega), by have := unhide HS1; omega⟩)).mono ?_
  rintro e w3 ⟨rfl, hk3, kd⟩
  have bS := kd.blk (set5 (unhide HZ) (.int .i64 rf) (.int .i64 rr) (.int .i64 rn) (.int .i64 ra) (.int .i64 rk)) (fun hr => unhide HNF _ (by omega) (.inr hr))
  have yS := kd.blk (kS.blk (unhide HY) (by omega)) (fun hr => unhide HNF _ (by omega) (.inr hr))
  have u0 : w3.cell? ⟨w.heap.size + 2, 0, none⟩ = some (.int .i64 rf) := bS.cell 0
  have u1 : w3.cell? ⟨w.heap.size + 2, 1, none⟩ = some (.int .i64 rr) := bS.cell 1
  have u2 : w3.cell? ⟨w.heap.size + 2, 2, none⟩ = some (.int .i64 rn) := bS.cell 2
  have u3 : w3.cell? ⟨w.heap.size + 2, 3, none⟩ = some (.int .i64 ra) := bS.cell 3
  have u4 : w3.cell? ⟨w.heap.size + 2, 4, none⟩ = some (.int .i64 rk) := bS.cell 4
  have v0 : w3.cell? ⟨w.heap.size + 3, 0, none⟩ = some (.int .i64 0) := yS.cell 0
  have v1 : w3.cell? ⟨w.heap.size + 3, 1, none⟩ = some (.int .i64 0) := yS.cell 1
  have v2 : w3.cell? ⟨w.heap.size + 3, 2, none⟩ = some (.int .i64 0) := yS.cell 2
  have v3 : w3.cell? ⟨w.heap.size + 3, 3, none⟩ = some (.int .i64 0) := yS.cell 3
  have v4 : w3.cell? ⟨w.heap.size + 3, 4, none⟩ = some (.int .i64 0) := yS.cell 4
  have fv0 := yS.frozen 0
  have fv1 := yS.frozen 1
  have fv2 := yS.frozen 2
  have fv3 := yS.frozen 3
  have fv4 := yS.frozen 4
  have lu := bS.lt
  have lv := yS.lt
  have HK3 := hide hk3
  have HYS := hide yS
  simp only [repV]
  clear hk3 kd bS yS kS q0 q1 o0 o1 o2 o3 o4 o5 o6 o7 o8 o9 o10 o11 o12 z0 z1 z2 z3 z4 fz0 fz1 fz2 fz3 fz4 y0 y1 y2 y3 y4 fy0 fy1 fy2 fy3 fy4 lzb lyb
  go_wp2
  go_ret
  refine ⟨by first | rfl | simp, ?_⟩
  refine PrK.of (unhide HK1) ((unhide HK3).more (K' := fun b => b = w.heap.size + 3) (chg5 _ _ _ _ _) (fun b hb => ⟨unhide HNF b (by omega), by have := unhide HS1; omega⟩)) (fun b hb => by omega)

set_option maxRecDepth 100000 in
set_option maxHeartbeats 8000000 in
theorem acts_replace (x : Pr) (o : Opx) (w : World) (h : PrOK w x) (hT : Tab w) (hN : x.N < 2000000) (hk : o.kind = 5) (hO : OpOK o) :
    Calls Tryz.prog 60 #[.agg #[.pointer (some ⟨x.bv, 0, none⟩), .pointer (some ⟨x.rb, 0, none⟩)], o.val] w fun e w' => e = .returned (.bool true) ∧ PrN x w w' := by
  obtain ⟨kind, m, a, b, c, s, ⟨id, owner, sym, side, okind, price, qty⟩⟩ := o
  simp only at hk
  subst hk
  obtain ⟨W1, hW1⟩ : ∃ W1, W1 = ((((w.alloc (.cells #[.pointer (some ⟨x.bv, 0, none⟩), .pointer (some ⟨x.rb, 0, none⟩)] 131)).alloc (.cells #[.int .i64 5, .int .i64 m, .int .i64 a, .int .i64 b, .int .i64 c, .string s, .int .i64 id, .int .i64 owner, .string sym, .int .i64 side, .int .i64 okind, .int .i64 price, .int .i64 qty] 81)).alloc (.cells zero5 87)).alloc (.cells zero5 87)) := ⟨_, rfl⟩
  have k1 : Chg Non w W1 := by rw [hW1]; exact ((((Chg.refl Non w).alloc _).alloc _).alloc _).alloc _
  have hs1 : W1.heap.size = w.heap.size + 4 := by rw [hW1]; simp
  have hp1 := h.kept0 k1
  have bp1 : Blk W1 w.heap.size #[.pointer (some ⟨x.bv, 0, none⟩), .pointer (some ⟨x.rb, 0, none⟩)] 131 := by rw [hW1]; exact (((Blk.new w _ _).alloc _).alloc _).alloc _
  have bo1 : Blk W1 (w.heap.size + 1) #[.int .i64 5, .int .i64 m, .int .i64 a, .int .i64 b, .int .i64 c, .string s, .int .i64 id, .int .i64 owner, .string sym, .int .i64 side, .int .i64 okind, .int .i64 price, .int .i64 qty] 81 := by rw [hW1]; exact ((Blk.new1 w _ _ _).alloc _).alloc _
  have bz1 : Blk W1 (w.heap.size + 2) zero5 87 := by rw [hW1]; exact (Blk.new2' w _ _ _ _).alloc _
  have by1 : Blk W1 (w.heap.size + 3) zero5 87 := by
    rw [hW1]
    have := Blk.new (((w.alloc (.cells #[.pointer (some ⟨x.bv, 0, none⟩), .pointer (some ⟨x.rb, 0, none⟩)] 131)).alloc (.cells #[.int .i64 5, .int .i64 m, .int .i64 a, .int .i64 b, .int .i64 c, .string s, .int .i64 id, .int .i64 owner, .string sym, .int .i64 side, .int .i64 okind, .int .i64 price, .int .i64 qty] 81)).alloc (.cells zero5 87)) zero5 87
    simpa using this
  have HC := hide (out_replace x.bv x.bm x.bo x.N x.V x.p x.S a b c W1 hp1.rep (hT.kept0 k1) hp1.sim (by omega) hp1.sz (i64_wf hO.a))
  have nf : ∀ b, w.heap.size ≤ b → ¬ PF x b := fun b hb hf => by have := h.lt hf; omega
  have HNF := hide nf
  have HP1 := hide hp1
  have HBP := hide bp1
  have HBO := hide bo1
  have HBZ := hide bz1
  have HBY := hide by1
  have HK1 := hide k1
  have HS1 := hide hs1
  have HW1 := hide hW1
  simp only [Opx.val, Opx.cells]
  simp only [zero5] at HW1
  clear h hT hO k1 hs1 hp1 bp1 bo1 bz1 by1 nf hW1
  go_enter Tryz.func60, Tryz.ntmps60
  go_wp2_with fail
  rw [← unhide HW1]
  refine (unhide HC).mono ?_
  rintro e w2 ⟨rf, rr, rn, ra, rk, E, rfl, hout⟩
  have kF := hout.chg
  have nF : ∀ b, w.heap.size ≤ b → ¬ Foot x.bv x.bm x.bo x.V b := fun b hb hf => unhide HNF b hb (.inl hf)
  have bp2 := kF.blk (unhide HBP) (nF _ (by omega))
  have bo2 := kF.blk (unhide HBO) (nF _ (by omega))
  have zb := kF.blk (unhide HBZ) (nF _ (by omega))
  have yb := kF.blk (unhide HBY) (nF _ (by omega))
  have q0 : w2.cell? ⟨w.heap.size, 0, none⟩ = some (.pointer (some ⟨x.bv, 0, none⟩)) := bp2.cell 0
  have q1 : w2.cell? ⟨w.heap.size, 1, none⟩ = some (.pointer (some ⟨x.rb, 0, none⟩)) := bp2.cell 1
  have o0 : w2.cell? ⟨w.heap.size + 1, 0, none⟩ = some (.int .i64 5) := bo2.cell 0
  have o1 : w2.cell? ⟨w.heap.size + 1, 1, none⟩ = some (.int .i64 m) := bo2.cell 1
  have o2 : w2.cell? ⟨w.heap.size + 1, 2, none⟩ = some (.int .i64 a) := bo2.cell 2
  have o3 : w2.cell? ⟨w.heap.size + 1, 3, none⟩ = some (.int .i64 b) := bo2.cell 3
  have o4 : w2.cell? ⟨w.heap.size + 1, 4, none⟩ = some (.int .i64 c) := bo2.cell 4
  have o5 : w2.cell? ⟨w.heap.size + 1, 5, none⟩ = some (.string s) := bo2.cell 5
  have o6 : w2.cell? ⟨w.heap.size + 1, 6, none⟩ = some (.int .i64 id) := bo2.cell 6
  have o7 : w2.cell? ⟨w.heap.size + 1, 7, none⟩ = some (.int .i64 owner) := bo2.cell 7
  have o8 : w2.cell? ⟨w.heap.size + 1, 8, none⟩ = some (.string sym) := bo2.cell 8
  have o9 : w2.cell? ⟨w.heap.size + 1, 9, none⟩ = some (.int .i64 side) := bo2.cell 9
  have o10 : w2.cell? ⟨w.heap.size + 1, 10, none⟩ = some (.int .i64 okind) := bo2.cell 10
  have o11 : w2.cell? ⟨w.heap.size + 1, 11, none⟩ = some (.int .i64 price) := bo2.cell 11
  have o12 : w2.cell? ⟨w.heap.size + 1, 12, none⟩ = some (.int .i64 qty) := bo2.cell 12
  have z0 : w2.cell? ⟨w.heap.size + 2, 0, none⟩ = some (.int .i64 0) := zb.cell 0
  have fz0 := zb.frozen 0
  have z1 : w2.cell? ⟨w.heap.size + 2, 1, none⟩ = some (.int .i64 0) := zb.cell 1
  have fz1 := zb.frozen 1
  have z2 : w2.cell? ⟨w.heap.size + 2, 2, none⟩ = some (.int .i64 0) := zb.cell 2
  have fz2 := zb.frozen 2
  have z3 : w2.cell? ⟨w.heap.size + 2, 3, none⟩ = some (.int .i64 0) := zb.cell 3
  have fz3 := zb.frozen 3
  have z4 : w2.cell? ⟨w.heap.size + 2, 4, none⟩ = some (.int .i64 0) := zb.cell 4
  have fz4 := zb.frozen 4
  have y0 : w2.cell? ⟨w.heap.size + 3, 0, none⟩ = some (.int .i64 0) := yb.cell 0
  have fy0 := yb.frozen 0
  have y1 : w2.cell? ⟨w.heap.size + 3, 1, none⟩ = some (.int .i64 0) := yb.cell 1
  have fy1 := yb.frozen 1
  have y2 : w2.cell? ⟨w.heap.size + 3, 2, none⟩ = some (.int .i64 0) := yb.cell 2
  have fy2 := yb.frozen 2
  have y3 : w2.cell? ⟨w.heap.size + 3, 3, none⟩ = some (.int .i64 0) := yb.cell 3
  have fy3 := yb.frozen 3
  have y4 : w2.cell? ⟨w.heap.size + 3, 4, none⟩ = some (.int .i64 0) := yb.cell 4
  have fy4 := yb.frozen 4
  have lzb := zb.lt
  have lyb := yb.lt
  have HOUT := hide hout
  have HZ := hide zb
  have HY := hide yb
  have HKF := hide kF
  clear hout kF nF bp2 bo2 zb yb HC
  simp only [repV]
  go_wp2_with fail
  have kS : Chg (fun b => b = w.heap.size + 2) w2 (((((w2.setCell ⟨w.heap.size + 2, 0, none⟩ (.int .i64 rf)).setCell ⟨w.heap.size + 2, 1, none⟩ (.int .i64 rr)).setCell ⟨w.heap.size + 2, 2, none⟩ (.int .i64 rn)).setCell ⟨w.heap.size + 2, 3, none⟩ (.int .i64 ra)).setCell ⟨w.heap.size + 2, 4, none⟩ (.int .i64 rk)) := chg5 _ _ _ _ _
  refine (pr_doK (unhide HP1) hN (unhide HOUT) kS (fun b hb => ⟨unhide HNF b (by omega), by have := unhide HS1; omega⟩)).mono ?_
  rintro e w3 ⟨rfl, hk3, kd⟩
  have bS := kd.blk (set5 (unhide HZ) (.int .i64 rf) (.int .i64 rr) (.int .i64 rn) (.int .i64 ra) (.int .i64 rk)) (fun hr => unhide HNF _ (by omega) (.inr hr))
  have yS := kd.blk (kS.blk (unhide HY) (by omega)) (fun hr => unhide HNF _ (by omega) (.inr hr))
  have u0 : w3.cell? ⟨w.heap.size + 2, 0, none⟩ = some (.int .i64 rf) := bS.cell 0
  have u1 : w3.cell? ⟨w.heap.size + 2, 1, none⟩ = some (.int .i64 rr) := bS.cell 1
  have u2 : w3.cell? ⟨w.heap.size + 2, 2, none⟩ = some (.int .i64 rn) := bS.cell 2
  have u3 : w3.cell? ⟨w.heap.size + 2, 3, none⟩ = some (.int .i64 ra) := bS.cell 3
  have u4 : w3.cell? ⟨w.heap.size + 2, 4, none⟩ = some (.int .i64 rk) := bS.cell 4
  have v0 : w3.cell? ⟨w.heap.size + 3, 0, none⟩ = some (.int .i64 0) := yS.cell 0
  have v1 : w3.cell? ⟨w.heap.size + 3, 1, none⟩ = some (.int .i64 0) := yS.cell 1
  have v2 : w3.cell? ⟨w.heap.size + 3, 2, none⟩ = some (.int .i64 0) := yS.cell 2
  have v3 : w3.cell? ⟨w.heap.size + 3, 3, none⟩ = some (.int .i64 0) := yS.cell 3
  have v4 : w3.cell? ⟨w.heap.size + 3, 4, none⟩ = some (.int .i64 0) := yS.cell 4
  have fv0 := yS.frozen 0
  have fv1 := yS.frozen 1
  have fv2 := yS.frozen 2
  have fv3 := yS.frozen 3
  have fv4 := yS.frozen 4
  have lu := bS.lt
  have lv := yS.lt
  have HK3 := hide hk3
  have HYS := hide yS
  simp only [repV]
  clear hk3 kd bS yS kS q0 q1 o0 o1 o2 o3 o4 o5 o6 o7 o8 o9 o10 o11 o12 z0 z1 z2 z3 z4 fz0 fz1 fz2 fz3 fz4 y0 y1 y2 y3 y4 fy0 fy1 fy2 fy3 fy4 lzb lyb
  go_wp2
  go_ret
  refine ⟨by first | rfl | simp, ?_⟩
  refine PrK.of (unhide HK1) ((unhide HK3).more (K' := fun b => b = w.heap.size + 3) (chg5 _ _ _ _ _) (fun b hb => ⟨unhide HNF b (by omega), by have := unhide HS1; omega⟩)) (fun b hb => by omega)

end Go.Proofs.YtigaphnafnpfnaaGreatDoor

