import Derived.Test.YtigaphnafnpfnaaGreatDoorPVC1
set_option linter.unusedVariables false
set_option linter.unusedSimpArgs false
namespace Go.Proofs.YtigaphnafnpfnaaGreatDoor
open Go.RowKit
attribute [local go_sem ↓] Go.wp_at_zero Go.wp_at_succ

def RS.setO (S : RS) (i : Nat) (o : Ord) : RS := { S with l := S.l.set i o }
theorem nthO_set_same {l : List Ord} {i : Nat} {o : Ord} (h : i < l.length) : nthO (l.set i o) i = o := nthO_eq (by rw [List.getElem?_set_self h])
theorem nthO_set_ne {l : List Ord} {i k : Nat} {o : Ord} (h : i ≠ k) : nthO (l.set i o) k = nthO l k := by
  unfold nthO; rw [List.getD_eq_getElem?_getD, List.getD_eq_getElem?_getD, List.getElem?_set_ne h]

/-- so much of the order i, that comes, with the order k -/
def RS.tr (S : RS) (i k : Nat) (n : Int) : Tr :=
  { num := (S.t.length : Int) + 1, sym := (nthO S.l i).sym, price := (nthO S.l k).price, qty := n, buy := if (nthO S.l i).side = 1 then (nthO S.l k).id else (nthO S.l i).id, sell := if (nthO S.l i).side = 1 then (nthO S.l i).id else (nthO S.l k).id, day := S.day }
def RS.fills (S : RS) (i k : Nat) (n : Int) : RS :=
  (S.setO k { nthO S.l k with opn := wrap64 ((nthO S.l k).opn - n), filled := wrap64 ((nthO S.l k).filled + n) }).setO i { nthO S.l i with filled := wrap64 ((nthO S.l i).filled + n) }
def RS.trades (S : RS) (i k : Nat) (n : Int) : RS := { S.fills i k n with t := S.t ++ [⟨S.tr i k n, true⟩], told := S.told ++ [⟨0, 1, S.tr i k n⟩] }

theorem info210 : (Tryz.prog.info? 210).map (fun i => (i.zero.map (fun z => z.cells.size), i.size, i.bytes)) = some (some 8, 8, 72) := by kernel_rfl
theorem info210_parts : ∃ i z, Tryz.prog.info? 210 = some i ∧ i.zero = some z ∧ i.size = 8 ∧ i.bytes = 72 ∧ z.cells.size = 8 := by
  have h := info210
  cases hi : Tryz.prog.info? 210 with
  | none => rw [hi] at h; simp at h
  | some i =>
    rw [hi] at h
    simp at h
    obtain ⟨⟨z, hz, hs⟩, h2, h3⟩ := h
    exact ⟨i, z, rfl, hz, h2, h3, hs⟩

theorem news8 (w : World) (g : Tg) : ∀ j u, (tgL g)[j]? = some u → (w.alloc (.cells #[.int .i64 g.t.num, .string g.t.sym, .int .i64 g.t.price, .int .i64 g.t.qty, .int .i64 g.t.buy, .int .i64 g.t.sell, .int .i64 g.t.day, .bool g.holds] 210)).cell? (Addr.add ⟨w.heap.size, 0, none⟩ j) = some u := by
  intro j u hj
  have hb := Blk.new w #[.int .i64 g.t.num, .string g.t.sym, .int .i64 g.t.price, .int .i64 g.t.qty, .int .i64 g.t.buy, .int .i64 g.t.sell, .int .i64 g.t.day, .bool g.holds] 210
  have e : Addr.add ⟨w.heap.size, 0, none⟩ j = ⟨w.heap.size, j, none⟩ := by simp [Addr.add]; omega
  rw [e, hb.cell, ← hj]
  simp [tgL]

theorem StV.tGrown {w1 w2 : World} {base sb n H g cap : Nat} {S : RS} {m : SM} {r : Tg} (h : StV w1 base sb S m) (hn : S.t.length = n) (hown : w2.ownsRow base 210 8 (.slice (some ⟨g, 0, none⟩) (n + 1) cap) (n + 1) (flatG S.t ++ tgL r)) (hgrow : w1.grownBy w2 m.tv.ownBlock) (hat : m.tv.ownBlock = some g ∨ g = H) (hH : w1.heap.size = H) :
    StN base sb { S with t := S.t ++ [r] } m w1 (w2.setCell ⟨sb, 2, none⟩ (.slice (some ⟨g, 0, none⟩) (n + 1) cap)) := by
  have hne : m.tv.ownBlock ≠ some sb := fun e => by obtain ⟨cs, hc⟩ := own_blk h.trow e; exact Blk.ne hc h.blk (by decide) rfl
  have hb2 : Blk w2 sb _ 207 := (hgrow.block sb h.blk.lt (fun e => hne e.symm)).trans h.blk
  have k1 : Chg (fun b => m.tv.ownBlock = some b) w1 w2 := (Chg.refl _ w1).grown hgrow (fun k e => .inl e)
  have k2 : Chg (fun b => b = sb) w2 (w2.setCell ⟨sb, 2, none⟩ (.slice (some ⟨g, 0, none⟩) (n + 1) cap)) := (Chg.refl (fun b => b = sb) w2).setCell (p := ⟨sb, 2, none⟩) (.inl rfl) _
  have keep2 : ∀ {e size n' : Nat} {v : Value} {xs : List Value}, w1.ownsRow base e size v n' xs → e ≠ 210 → e ≠ 207 → (w2.setCell ⟨sb, 2, none⟩ (.slice (some ⟨g, 0, none⟩) (n + 1) cap)).ownsRow base e size v n' xs := fun {e size n' v xs} r h1 h2 => by
    have r1 := own_typ (t := 0) r k1 (fun b hb => by obtain ⟨cs, hc⟩ := own_blk h.trow hb; exact ⟨cs, _, hc, fun x => h1 x.symm⟩)
    exact own_typ (t := 0) r1 k2 (fun b hb => by subst hb; exact ⟨_, _, hb2, fun x => h2 x.symm⟩)
  refine ⟨{ m with tv := .slice (some ⟨g, 0, none⟩) (n + 1) cap }, ⟨h.ge, hb2.set 2 _, keep2 h.yrow (by decide) (by decide), keep2 h.lrow (by decide) (by decide), ?_, keep2 h.orow (by decide) (by decide)⟩, ?_, ?_⟩
  · simp only [List.length_append, List.length_cons, List.length_nil, hn, flatG, flat_snoc]
    exact own_typ (t := 0) hown k2 (fun b hb => by subst hb; exact ⟨_, _, hb2, by decide⟩)
  · rintro b (rfl | hb | hb | hb | hb)
    · exact .inl (.inl rfl)
    · exact .inl (.inr (.inl hb))
    · exact .inl (.inr (.inr (.inl hb)))
    · simp only [Value.ownBlock, Option.some.injEq] at hb
      rcases hat with e | e
      · exact .inl (.inr (.inr (.inr (.inl (by rw [e, hb])))))
      · right; omega
    · exact .inl (.inr (.inr (.inr (.inr hb))))
  · exact (k1.mono (fun b hb => .inr (.inr (.inr (.inl hb))))).trans (k2.mono (fun b hb => .inl hb))

set_option maxRecDepth 100000 in
set_option maxHeartbeats 4000000 in
theorem rtrades_any (base sb i k : Nat) (S : RS) (m : SM) (n : Int) (w : World) (h : StV w base sb S m) (hlen : S.l.length ≤ 1000) (hi : i < S.l.length) (hk : k < S.l.length) (hik : i ≠ k) (ht : S.t.length < 1000000000) (ho : S.told.length < 1000000000) :
    Calls Tryz.prog 201 #[.pointer (some ⟨sb, 0, none⟩), .int .i64 (i : Int), .int .i64 (k : Int), .int .i64 n] w fun e w' => e = .returned (.tuple #[]) ∧ StN base sb (S.trades i k n) m w w' := by
  obtain ⟨N, hN⟩ : ∃ N, S.l.length = N := ⟨_, rfl⟩
  obtain ⟨a, c, hv⟩ := row_slice h.lrow
  obtain ⟨g, rfl, hgb, hc, hf⟩ := h.ordc hv hi
  obtain ⟨g', e', _, hd, _⟩ := h.ordc hv hk
  obtain rfl : g = g' := by simpa using e'
  clear e'
  have HV := hide hv
  have HI : Hid (i < S.l.length ∧ k < S.l.length) := ⟨hi, hk⟩
  rw [hN] at hv hlen hi hk
  have v1 : w.cell? ⟨sb, 1, none⟩ = some (.slice (some ⟨g, 0, none⟩) N c) := by rw [← hv]; exact h.blk.cell 1
  have lsb := h.blk.lt
  obtain ⟨x, hx⟩ : ∃ x, nthO S.l i = x := ⟨_, rfl⟩
  obtain ⟨y, hy⟩ : ∃ y, nthO S.l k = y := ⟨_, rfl⟩
  rw [hx] at hc
  rw [hy] at hd
  have c9 : w.cell? ⟨g, i * 13 + 9, none⟩ = some (.int .i64 x.filled) := hc 9 _ rfl
  have d8 : w.cell? ⟨g, k * 13 + 8, none⟩ = some (.int .i64 y.opn) := hd 8 _ rfl
  have d9 : w.cell? ⟨g, k * 13 + 9, none⟩ = some (.int .i64 y.filled) := hd 9 _ rfl
  have f1 := hf (k * 13 + 8)
  have f2 := hf (k * 13 + 9)
  have f3 := hf (i * 13 + 9)
  have hsg : sb ≠ g := fun e => by
    have r := h.lrow
    rw [unhide HV] at r
    obtain ⟨cs, hcs⟩ := own_blk r (b := g) rfl
    exact Blk.ne h.blk hcs (by decide) e
  have hgs := hsg.symm
  have n1 : ¬ k * 13 + 9 = k * 13 + 8 := by omega
  have n2 : ¬ i * 13 + 9 = k * 13 + 8 := by omega
  have n3 : ¬ i * 13 + 9 = k * 13 + 9 := by omega
  obtain ⟨w3, hw3⟩ : ∃ w3, w3 = (((w.setCell ⟨g, k * 13 + 8, none⟩ (.int .i64 (wrap64 (y.opn - n)))).setCell ⟨g, k * 13 + 9, none⟩ (.int .i64 (wrap64 (y.filled + n)))).setCell ⟨g, i * 13 + 9, none⟩ (.int .i64 (wrap64 (x.filled + n)))).drew.drew.drew := ⟨_, rfl⟩
  have h3 : StV w3 base sb (S.fills i k n) m ∧ Chg (SF sb m) w w3 := by
    obtain ⟨p1, q1⟩ := h.setOrd (unhide HV) (unhide HI).2 (j := 8) (by omega) (.int .i64 (wrap64 (y.opn - n))) { y with opn := wrap64 (y.opn - n) } (by rw [hy]; rfl)
    obtain ⟨p2, q2⟩ := p1.setOrd (i := k) (by simp only [List.length_set]; exact unhide HV) (by simp only [List.length_set]; exact (unhide HI).2) (j := 9) (by omega) (.int .i64 (wrap64 (y.filled + n))) { y with opn := wrap64 (y.opn - n), filled := wrap64 (y.filled + n) } (by simp only; rw [nthO_set_same (unhide HI).2]; rfl)
    obtain ⟨p3, q3⟩ := p2.setOrd (i := i) (by simp only [List.length_set]; exact unhide HV) (by simp only [List.length_set]; exact (unhide HI).1) (j := 9) (by omega) (.int .i64 (wrap64 (x.filled + n))) { x with filled := wrap64 (x.filled + n) } (by simp only; rw [nthO_set_ne hik.symm, nthO_set_ne hik.symm, hx]; rfl)
    rw [hw3]
    refine ⟨?_, ((q1.trans q2).trans q3).drew.drew.drew⟩
    have e : ({ S with l := ((S.l.set k { y with opn := wrap64 (y.opn - n) }).set k { y with opn := wrap64 (y.opn - n), filled := wrap64 (y.filled + n) }).set i { x with filled := wrap64 (x.filled + n) } } : RS) = S.fills i k n := by
      unfold RS.fills RS.setO
      rw [hx, hy, List.set_set]
    rw [← e]
    exact ((p3.kept0 (Chg.refl Non _).drew).kept0 (Chg.refl Non _).drew).kept0 (Chg.refl Non _).drew
  obtain ⟨h3, k3⟩ := h3
  obtain ⟨nt, hnt⟩ : ∃ N, S.t.length = N := ⟨_, rfl⟩
  obtain ⟨ta, tc, htv⟩ := row_slice h3.trow
  change m.tv = .slice ta S.t.length tc at htv
  rw [hnt] at htv
  have hi3 : i < (S.fills i k n).l.length := by simp only [RS.fills, RS.setO, List.length_set]; exact (unhide HI).1
  have hk3 : k < (S.fills i k n).l.length := by simp only [RS.fills, RS.setO, List.length_set]; exact (unhide HI).2
  have hv3 : m.lv = .slice (some ⟨g, 0, none⟩) (S.fills i k n).l.length c := by simp only [RS.fills, RS.setO, List.length_set]; exact unhide HV
  have ei : nthO (S.fills i k n).l i = { x with filled := wrap64 (x.filled + n) } := by simp only [RS.fills, RS.setO]; rw [nthO_set_same (by simp only [List.length_set]; exact (unhide HI).1), hx]
  have ek : nthO (S.fills i k n).l k = { y with opn := wrap64 (y.opn - n), filled := wrap64 (y.filled + n) } := by simp only [RS.fills, RS.setO]; rw [nthO_set_ne hik, nthO_set_same (unhide HI).2, hy]
  obtain ⟨g1, e1, _, hc3, _⟩ := h3.ordc hv3 hi3
  obtain rfl : g = g1 := by simpa using e1
  obtain ⟨g2, e2, _, hd3, _⟩ := h3.ordc hv3 hk3
  obtain rfl : g = g2 := by simpa using e2
  rw [ei] at hc3
  rw [ek] at hd3
  have u1 : w3.cell? ⟨sb, 1, none⟩ = some (.slice (some ⟨g, 0, none⟩) N c) := by rw [← hv]; exact h3.blk.cell 1
  have u2 : w3.cell? ⟨sb, 2, none⟩ = some (.slice ta nt tc) := by rw [← htv]; exact h3.blk.cell 2
  have u3 : w3.cell? ⟨sb, 3, none⟩ = some (.int .i64 S.day) := h3.blk.cell 3
  have x0 : w3.cell? ⟨g, i * 13, none⟩ = some (.int .i64 x.id) := hc3 0 _ rfl
  have x2 : w3.cell? ⟨g, i * 13 + 2, none⟩ = some (.string x.sym) := hc3 2 _ rfl
  have x3 : w3.cell? ⟨g, i * 13 + 3, none⟩ = some (.int .i64 x.side) := hc3 3 _ rfl
  have y0 : w3.cell? ⟨g, k * 13, none⟩ = some (.int .i64 y.id) := hd3 0 _ rfl
  have y5 : w3.cell? ⟨g, k * 13 + 5, none⟩ = some (.int .i64 y.price) := hd3 5 _ rfl
  have hs3 : w3.heap.size = w.heap.size := by rw [hw3]; simp
  have HW3 := hide hw3
  have H3 := hide h3
  have HK3 := hide k3
  have HT := hide hnt
  have HTV := hide htv
  have lsb3 : sb < w3.heap.size := h3.blk.lt
  have lg3 : g < w3.heap.size := World.block_lt_of_cell? _ _ x0
  have HS3 := hide hs3
  clear hw3 h3 k3 hnt htv hi3 hk3 hv3 ei ek hc3 hd3 e1 e2 hs3
  rw [show S.t.length = nt from unhide HT] at ht
  have HS := hide h
  have HX := hide hx
  have HY := hide hy
  have HN := hide hN
  clear hc hd hf h hv hx hy hN
  go_enter Tryz.func201, Tryz.ntmps201
  go_wp2
  go_region
  go_wp2
  go_region
  go_wp2
  go_region
  rw [← unhide HW3]
  clear c9 d8 d9 f1 f2 f3 v1 n1 n2 n3
  go_wp2
  go_region_held3 (fun w' => w'.cell? ⟨sb, 1, none⟩ = some (.slice (some ⟨g, 0, none⟩) N c) ∧ w'.cell? ⟨sb, 2, none⟩ = some (.slice ta nt tc) ∧ w'.cell? ⟨sb, 3, none⟩ = some (.int .i64 S.day) ∧ w'.cell? ⟨g, i * 13, none⟩ = some (.int .i64 x.id) ∧ w'.cell? ⟨g, i * 13 + 2, none⟩ = some (.string x.sym) ∧ w'.cell? ⟨g, k * 13, none⟩ = some (.int .i64 y.id) ∧ w'.cell? ⟨g, k * 13 + 5, none⟩ = some (.int .i64 y.price)) (go_keep) (first | fail)
  obtain ⟨tr, htr⟩ : ∃ tr, S.tr i k n = tr := ⟨_, rfl⟩
  have hwr : IntKind.i64.wrap ((nt : Int) + 1) = (nt : Int) + 1 := by rw [IntKind.wrap_i64]; omega
  obtain ⟨w4, hw4⟩ : ∃ w4, w4 = (w3.alloc (.cells #[.int .i64 (IntKind.i64.wrap ((nt : Int) + 1)), .string x.sym, .int .i64 y.price, .int .i64 n, .int .i64 x.id, .int .i64 y.id, .int .i64 S.day] 56)).drew := ⟨_, rfl⟩
  rw [← hw4]
  have k4 : Chg Non w3 w4 := by rw [hw4]; exact ((Chg.refl Non w3).alloc _).drew
  have b4 : Blk w4 w3.heap.size #[.int .i64 (IntKind.i64.wrap ((nt : Int) + 1)), .string x.sym, .int .i64 y.price, .int .i64 n, .int .i64 x.id, .int .i64 y.id, .int .i64 S.day] 56 := by rw [hw4]; exact (Blk.new _ _ _).drew
  have hs4 : w4.heap.size = w3.heap.size + 1 := by rw [hw4]; simp
  have v4 := k4.cell x3 (fun x => x)
  have v41 := k4.cell u1 (fun x => x)
  have vx0 := k4.cell x0 (fun x => x)
  have vy0 := k4.cell y0 (fun x => x)
  have q4 : w4.cell? ⟨w3.heap.size, 4, none⟩ = some (.int .i64 x.id) := b4.cell 4
  have q5 : w4.cell? ⟨w3.heap.size, 5, none⟩ = some (.int .i64 y.id) := b4.cell 5
  have g4 := b4.frozen 4
  have g5 := b4.frozen 5
  have HTR : Hid (S.tr i k n = ⟨(nt : Int) + 1, x.sym, y.price, n, if x.side = 1 then y.id else x.id, if x.side = 1 then x.id else y.id, S.day⟩) := by
    show _ = _
    unfold RS.tr
    rw [unhide HX, unhide HY, unhide HT]
  have h4 := (unhide H3).kept0 k4
  have HB4 := hide b4
  have HK4 := hide k4
  have HS4 := hide hs4
  have HWR := hide hwr
  clear b4 hs4 hwr hw4 k4 htr tr
  -- both ways: the trade as it is, in some world
  obtain ⟨i0, z0, hi0, hz0, hz1, hz2, hz3⟩ := info210_parts
  have hmx : nt + 1 ≤ maxLen := by unfold maxLen; omega
  have hm24 : (nt + 1) * 72 ≤ 140737488355328 := by omega
  have hge := h4.ge
  by_cases hsd : x.side = 1
  · have es : (x.side == 1) = true := by simp [hsd]
    have HSD := hide hsd
    clear hsd
    obtain ⟨w5, hw5⟩ : ∃ w5, w5 = (w4.setCell ⟨w3.heap.size, 4, none⟩ (.int .i64 y.id)).setCell ⟨w3.heap.size, 5, none⟩ (.int .i64 x.id) := ⟨_, rfl⟩
    have kb : Chg (fun b => b = w3.heap.size) w4 w5 := by rw [hw5]; exact ((Chg.refl (fun b => b = w3.heap.size) w4).setCell (p := ⟨w3.heap.size, 4, none⟩) (.inl rfl) _).setCell (p := ⟨w3.heap.size, 5, none⟩) (.inl rfl) _
    have b5 : Blk w5 w3.heap.size #[.int .i64 (IntKind.i64.wrap ((nt : Int) + 1)), .string x.sym, .int .i64 y.price, .int .i64 n, .int .i64 y.id, .int .i64 x.id, .int .i64 S.day] 56 := by rw [hw5]; exact ((unhide HB4).set 4 _).set 5 _
    have h5 : StV w5 base sb (S.fills i k n) m := by
      have nb : ∀ b, SF sb m b → b ≠ w3.heap.size := fun b hb e => by have := ((unhide H3).lt hb).2; omega
      have hr : ∀ {e size n : Nat} {v : Value} {xs : List Value}, w4.ownsRow base e size v n xs → (∀ b, v.ownBlock = some b → SF sb m b) → w5.ownsRow base e size v n xs := fun r hs => own_kept r kb (fun b hb => nb b (hs b hb))
      exact ⟨h4.ge, kb.blk h4.blk (nb _ (.inl rfl)), hr h4.yrow (fun b hb => .inr (.inl hb)), hr h4.lrow (fun b hb => .inr (.inr (.inl hb))), hr h4.trow (fun b hb => .inr (.inr (.inr (.inl hb)))), hr h4.orow (fun b hb => .inr (.inr (.inr (.inr hb))))⟩
    have k5 : Chg Non w3 w5 := (unhide HK4).from (kb.mono (fun b hb => .inr (by omega)))
    have hs5 : w5.heap.size = w3.heap.size + 1 := by rw [hw5]; simp [unhide HS4]
    have HW5 := hide hw5
    clear hw5 kb h4
    go_wp2
    rw [← unhide HW5]
    have HTS : Hid (S.tr i k n = ⟨(nt : Int) + 1, x.sym, y.price, n, y.id, x.id, S.day⟩) := by show _ = _; rw [unhide HTR, if_pos (unhide HSD), if_pos (unhide HSD)]
    have t0 : w5.cell? ⟨w3.heap.size, 0, none⟩ = some (.int .i64 (IntKind.i64.wrap ((nt : Int) + 1))) := b5.cell 0
    have t1 : w5.cell? ⟨w3.heap.size, 1, none⟩ = some (.string x.sym) := b5.cell 1
    have t2 : w5.cell? ⟨w3.heap.size, 2, none⟩ = some (.int .i64 y.price) := b5.cell 2
    have t3 : w5.cell? ⟨w3.heap.size, 3, none⟩ = some (.int .i64 n) := b5.cell 3
    have t4 : w5.cell? ⟨w3.heap.size, 4, none⟩ = some (.int .i64 y.id) := b5.cell 4
    have t5 : w5.cell? ⟨w3.heap.size, 5, none⟩ = some (.int .i64 x.id) := b5.cell 5
    have t6 : w5.cell? ⟨w3.heap.size, 6, none⟩ = some (.int .i64 S.day) := b5.cell 6
    have u5 : w5.cell? ⟨sb, 2, none⟩ = some (.slice ta nt tc) := by rw [← unhide HTV]; exact h5.blk.cell 2
    obtain ⟨w7, hw7⟩ : ∃ w7, w7 = (w5.alloc (.cells #[.int .i64 (IntKind.i64.wrap ((nt : Int) + 1)), .string x.sym, .int .i64 y.price, .int .i64 n, .int .i64 y.id, .int .i64 x.id, .int .i64 S.day, .bool true] 210)).drew := ⟨_, rfl⟩
    have k7 : Chg Non w5 w7 := by rw [hw7]; exact ((Chg.refl Non w5).alloc _).drew
    have hsz7 : w7.heap.size = w3.heap.size + 2 := by rw [hw7]; simp [hs5]
    have h7 := h5.kept0 k7
    have hrow7 : w7.ownsRow base 210 8 (.slice ta nt tc) nt (flatG S.t) := by
      have r := h7.trow
      change w7.ownsRow base 210 8 m.tv S.t.length (flatG S.t) at r
      rw [unhide HTV, unhide HT] at r
      exact r
    have hnews : ∀ j u, (tgL ⟨⟨IntKind.i64.wrap ((nt : Int) + 1), x.sym, y.price, n, y.id, x.id, S.day⟩, true⟩)[j]? = some u → w7.cell? (Addr.add ⟨w5.heap.size, 0, none⟩ j) = some u := by
      intro j u hj
      have := news8 w5 ⟨⟨IntKind.i64.wrap ((nt : Int) + 1), x.sym, y.price, n, y.id, x.id, S.day⟩, true⟩ j u hj
      rw [hw7]
      exact this
    have hone : ∀ u ∈ tgL ⟨⟨IntKind.i64.wrap ((nt : Int) + 1), x.sym, y.price, n, y.id, x.id, S.day⟩, true⟩, u.oneCell' = true := by simp [tgL, Value.oneCell']
    have b7 := k7.blk b5 (fun x => x)
    have HC : Hid (∀ W m9, StV W base sb { S.fills i k n with t := S.t ++ [⟨⟨IntKind.i64.wrap ((nt : Int) + 1), x.sym, y.price, n, y.id, x.id, S.day⟩, true⟩] } m9 → Calls Tryz.prog 205 #[.pointer (some ⟨sb, 0, none⟩), .int .i64 1, .agg #[.int .i64 (IntKind.i64.wrap ((nt : Int) + 1)), .string x.sym, .int .i64 y.price, .int .i64 n, .int .i64 y.id, .int .i64 x.id, .int .i64 S.day]] W fun e w' => e = .returned (.tuple #[]) ∧ StN base sb (S.trades i k n) m9 W w') := by
      intro W m9 h9
      have := rtells_any base sb _ m9 1 ⟨IntKind.i64.wrap ((nt : Int) + 1), x.sym, y.price, n, y.id, x.id, S.day⟩ W h9 ho
      have e9 : S.trades i k n = RS.tell { S.fills i k n with t := S.t ++ [⟨⟨IntKind.i64.wrap ((nt : Int) + 1), x.sym, y.price, n, y.id, x.id, S.day⟩, true⟩] } 1 ⟨IntKind.i64.wrap ((nt : Int) + 1), x.sym, y.price, n, y.id, x.id, S.day⟩ := by
        unfold RS.trades RS.tell
        rw [unhide HTS, unhide HWR]
        rfl
      rw [e9]
      exact this
    have HN5 : Hid (StV w5 base sb (S.fills i k n) m ∧ Chg (SF sb m) w w5) := ⟨h5, (unhide HK3).trans k5.of_non⟩
    have HLE : Hid (w.heap.size ≤ w3.heap.size) := (unhide HK3).size
    have HK7 := hide k7
    have H7 := hide h7
    have HSZ7 := hide hsz7
    have HR7 := hide hrow7
    have HNW := hide hnews
    have HON := hide hone
    have HW7 := hide hw7
    have HB7 := hide b7
    have HFL : Hid ((S.fills i k n).t.length = nt) := unhide HT
    have lsb5 : sb < w3.heap.size := lsb3
    have ne8 : w3.heap.size ≠ sb := by omega
    have ls5 : sb < w5.heap.size := by omega
    have lh5 : w3.heap.size < w5.heap.size := by omega
    clear b5 h5 k5 hs5 hw7 k7 hsz7 h7 hrow7 hnews hone b7
    go_region_law (first | (rw [← unhide HW7]; refine step_append_lies _ rfl (.tmp 142) (.tmp 145) 205 rfl base 210 i0 z0 8 72 Tryz.underlying205 hi0 hz0 hz1 hz2 hz3 (by decide) (.slice ta nt tc) nt (flatG S.t) rfl (unhide HR7) ⟨w5.heap.size, 0, none⟩ 1 1 (tgL ⟨⟨IntKind.i64.wrap ((nt : Int) + 1), x.sym, y.price, n, y.id, x.id, S.day⟩, true⟩) rfl rfl (unhide HNW) (unhide HON) (by omega) hmx hm24 (by have := unhide HSZ7; omega) (w3.heap.size + 2) (unhide HSZ7) ?_; intro g8 cap8 w8 hown2 hgrow hat hlt; have HO2 := hide hown2; have HG2 := hide hgrow; have HA2 := hide hat; have b2 : Blk w8 sb _ 207 := (hgrow.block sb (unhide H7).blk.lt (fun e => by obtain ⟨cs, hc⟩ := own_blk (unhide H7).trow (b := sb) (by rw [unhide HTV]; exact e.symm); exact Blk.ne hc (unhide H7).blk (by decide) rfl)).trans (unhide H7).blk; have v82 := b2.cell 2; have f82 := b2.frozen 2; simp at v82; have b3 : Blk w8 w3.heap.size _ 56 := (hgrow.block w3.heap.size (by have := unhide HSZ7; omega) (fun e => by obtain ⟨cs, hc⟩ := own_blk (unhide H7).trow (b := w3.heap.size) (by rw [unhide HTV]; exact e.symm); exact Blk.ne hc (unhide HB7) (by decide) rfl)).trans (unhide HB7); have HB3 := hide b3; clear hown2 hgrow hat b2 b3))
    all_goals
      have a1 := (unhide H7).tGrown (r := ⟨⟨IntKind.i64.wrap ((nt : Int) + 1), x.sym, y.price, n, y.id, x.id, S.day⟩, true⟩) (unhide HFL) (unhide HO2) (by rw [unhide HTV]; exact unhide HG2) (by rw [unhide HTV]; exact unhide HA2) (unhide HSZ7)
      have b9 := (unhide HB3).other (a := ⟨sb, 2, none⟩) ne8 (.slice (some ⟨g8, 0, none⟩) (nt + 1) cap8)
      have s0 := b9.cell 0
      have s1 := b9.cell 1
      have s2 := b9.cell 2
      have s3 := b9.cell 3
      have s4 := b9.cell 4
      have s5 := b9.cell 5
      have s6 := b9.cell 6
      simp at s0 s1 s2 s3 s4 s5 s6
      obtain ⟨m9, p9, q9, r9⟩ := a1
      have HC9 := hide (unhide HC _ m9 p9)
      rw [unhide HWR] at HC9
      have HQ9 : Hid (∀ b, SF sb m9 b → SF sb m b ∨ w.heap.size ≤ b) := fun b hb => (q9 b hb).imp_right (fun h => by have := unhide HSZ7; have := unhide HLE; omega)
      have HR9 := hide (((unhide HN5).2.trans (unhide HK7).of_non).trans r9)
      clear p9 q9 r9 b9
      go_wp2_with fail
      refine (unhide HC9).mono ?_
      rintro e w' ⟨rfl, hn'⟩
      go_wp2
      go_end0
      refine ⟨rfl, ?_⟩
      obtain ⟨m10, p10, q10, r10⟩ := hn'
      refine ⟨m10, p10, fun b hb => ?_, (unhide HR9).from (r10.mono (unhide HQ9))⟩
      rcases q10 b hb with h | h
      · exact unhide HQ9 b h
      · exact .inr (Nat.le_trans (unhide HR9).size h)
  · have es : (x.side == 1) = false := by simp [hsd]
    have HSD := hide hsd
    clear hsd
    go_wp2
    obtain ⟨w5, hw5⟩ : ∃ w5, w5 = w4 := ⟨_, rfl⟩
    have b5 := unhide HB4
    have h5 := h4
    have k5 := unhide HK4
    have hs5 := unhide HS4
    rw [← hw5] at b5 h5 k5 hs5 ⊢
    clear hw5 h4
    have HTS : Hid (S.tr i k n = ⟨(nt : Int) + 1, x.sym, y.price, n, x.id, y.id, S.day⟩) := by show _ = _; rw [unhide HTR, if_neg (unhide HSD), if_neg (unhide HSD)]
    have t0 : w5.cell? ⟨w3.heap.size, 0, none⟩ = some (.int .i64 (IntKind.i64.wrap ((nt : Int) + 1))) := b5.cell 0
    have t1 : w5.cell? ⟨w3.heap.size, 1, none⟩ = some (.string x.sym) := b5.cell 1
    have t2 : w5.cell? ⟨w3.heap.size, 2, none⟩ = some (.int .i64 y.price) := b5.cell 2
    have t3 : w5.cell? ⟨w3.heap.size, 3, none⟩ = some (.int .i64 n) := b5.cell 3
    have t4 : w5.cell? ⟨w3.heap.size, 4, none⟩ = some (.int .i64 x.id) := b5.cell 4
    have t5 : w5.cell? ⟨w3.heap.size, 5, none⟩ = some (.int .i64 y.id) := b5.cell 5
    have t6 : w5.cell? ⟨w3.heap.size, 6, none⟩ = some (.int .i64 S.day) := b5.cell 6
    have u5 : w5.cell? ⟨sb, 2, none⟩ = some (.slice ta nt tc) := by rw [← unhide HTV]; exact h5.blk.cell 2
    obtain ⟨w7, hw7⟩ : ∃ w7, w7 = (w5.alloc (.cells #[.int .i64 (IntKind.i64.wrap ((nt : Int) + 1)), .string x.sym, .int .i64 y.price, .int .i64 n, .int .i64 x.id, .int .i64 y.id, .int .i64 S.day, .bool true] 210)).drew := ⟨_, rfl⟩
    have k7 : Chg Non w5 w7 := by rw [hw7]; exact ((Chg.refl Non w5).alloc _).drew
    have hsz7 : w7.heap.size = w3.heap.size + 2 := by rw [hw7]; simp [hs5]
    have h7 := h5.kept0 k7
    have hrow7 : w7.ownsRow base 210 8 (.slice ta nt tc) nt (flatG S.t) := by
      have r := h7.trow
      change w7.ownsRow base 210 8 m.tv S.t.length (flatG S.t) at r
      rw [unhide HTV, unhide HT] at r
      exact r
    have hnews : ∀ j u, (tgL ⟨⟨IntKind.i64.wrap ((nt : Int) + 1), x.sym, y.price, n, x.id, y.id, S.day⟩, true⟩)[j]? = some u → w7.cell? (Addr.add ⟨w5.heap.size, 0, none⟩ j) = some u := by
      intro j u hj
      have := news8 w5 ⟨⟨IntKind.i64.wrap ((nt : Int) + 1), x.sym, y.price, n, x.id, y.id, S.day⟩, true⟩ j u hj
      rw [hw7]
      exact this
    have hone : ∀ u ∈ tgL ⟨⟨IntKind.i64.wrap ((nt : Int) + 1), x.sym, y.price, n, x.id, y.id, S.day⟩, true⟩, u.oneCell' = true := by simp [tgL, Value.oneCell']
    have b7 := k7.blk b5 (fun x => x)
    have HC : Hid (∀ W m9, StV W base sb { S.fills i k n with t := S.t ++ [⟨⟨IntKind.i64.wrap ((nt : Int) + 1), x.sym, y.price, n, x.id, y.id, S.day⟩, true⟩] } m9 → Calls Tryz.prog 205 #[.pointer (some ⟨sb, 0, none⟩), .int .i64 1, .agg #[.int .i64 (IntKind.i64.wrap ((nt : Int) + 1)), .string x.sym, .int .i64 y.price, .int .i64 n, .int .i64 x.id, .int .i64 y.id, .int .i64 S.day]] W fun e w' => e = .returned (.tuple #[]) ∧ StN base sb (S.trades i k n) m9 W w') := by
      intro W m9 h9
      have := rtells_any base sb _ m9 1 ⟨IntKind.i64.wrap ((nt : Int) + 1), x.sym, y.price, n, x.id, y.id, S.day⟩ W h9 ho
      have e9 : S.trades i k n = RS.tell { S.fills i k n with t := S.t ++ [⟨⟨IntKind.i64.wrap ((nt : Int) + 1), x.sym, y.price, n, x.id, y.id, S.day⟩, true⟩] } 1 ⟨IntKind.i64.wrap ((nt : Int) + 1), x.sym, y.price, n, x.id, y.id, S.day⟩ := by
        unfold RS.trades RS.tell
        rw [unhide HTS, unhide HWR]
        rfl
      rw [e9]
      exact this
    have HN5 : Hid (StV w5 base sb (S.fills i k n) m ∧ Chg (SF sb m) w w5) := ⟨h5, (unhide HK3).trans k5.of_non⟩
    have HLE : Hid (w.heap.size ≤ w3.heap.size) := (unhide HK3).size
    have HK7 := hide k7
    have H7 := hide h7
    have HSZ7 := hide hsz7
    have HR7 := hide hrow7
    have HNW := hide hnews
    have HON := hide hone
    have HW7 := hide hw7
    have HB7 := hide b7
    have HFL : Hid ((S.fills i k n).t.length = nt) := unhide HT
    have lsb5 : sb < w3.heap.size := lsb3
    have ne8 : w3.heap.size ≠ sb := by omega
    have ls5 : sb < w5.heap.size := by omega
    have lh5 : w3.heap.size < w5.heap.size := by omega
    clear b5 h5 k5 hs5 hw7 k7 hsz7 h7 hrow7 hnews hone b7
    go_region_law (first | (rw [← unhide HW7]; refine step_append_lies _ rfl (.tmp 142) (.tmp 145) 205 rfl base 210 i0 z0 8 72 Tryz.underlying205 hi0 hz0 hz1 hz2 hz3 (by decide) (.slice ta nt tc) nt (flatG S.t) rfl (unhide HR7) ⟨w5.heap.size, 0, none⟩ 1 1 (tgL ⟨⟨IntKind.i64.wrap ((nt : Int) + 1), x.sym, y.price, n, x.id, y.id, S.day⟩, true⟩) rfl rfl (unhide HNW) (unhide HON) (by omega) hmx hm24 (by have := unhide HSZ7; omega) (w3.heap.size + 2) (unhide HSZ7) ?_; intro g8 cap8 w8 hown2 hgrow hat hlt; have HO2 := hide hown2; have HG2 := hide hgrow; have HA2 := hide hat; have b2 : Blk w8 sb _ 207 := (hgrow.block sb (unhide H7).blk.lt (fun e => by obtain ⟨cs, hc⟩ := own_blk (unhide H7).trow (b := sb) (by rw [unhide HTV]; exact e.symm); exact Blk.ne hc (unhide H7).blk (by decide) rfl)).trans (unhide H7).blk; have v82 := b2.cell 2; have f82 := b2.frozen 2; simp at v82; have b3 : Blk w8 w3.heap.size _ 56 := (hgrow.block w3.heap.size (by have := unhide HSZ7; omega) (fun e => by obtain ⟨cs, hc⟩ := own_blk (unhide H7).trow (b := w3.heap.size) (by rw [unhide HTV]; exact e.symm); exact Blk.ne hc (unhide HB7) (by decide) rfl)).trans (unhide HB7); have HB3 := hide b3; clear hown2 hgrow hat b2 b3))
    all_goals
      have a1 := (unhide H7).tGrown (r := ⟨⟨IntKind.i64.wrap ((nt : Int) + 1), x.sym, y.price, n, x.id, y.id, S.day⟩, true⟩) (unhide HFL) (unhide HO2) (by rw [unhide HTV]; exact unhide HG2) (by rw [unhide HTV]; exact unhide HA2) (unhide HSZ7)
      have b9 := (unhide HB3).other (a := ⟨sb, 2, none⟩) ne8 (.slice (some ⟨g8, 0, none⟩) (nt + 1) cap8)
      have s0 := b9.cell 0
      have s1 := b9.cell 1
      have s2 := b9.cell 2
      have s3 := b9.cell 3
      have s4 := b9.cell 4
      have s5 := b9.cell 5
      have s6 := b9.cell 6
      simp at s0 s1 s2 s3 s4 s5 s6
      obtain ⟨m9, p9, q9, r9⟩ := a1
      have HC9 := hide (unhide HC _ m9 p9)
      rw [unhide HWR] at HC9
      have HQ9 : Hid (∀ b, SF sb m9 b → SF sb m b ∨ w.heap.size ≤ b) := fun b hb => (q9 b hb).imp_right (fun h => by have := unhide HSZ7; have := unhide HLE; omega)
      have HR9 := hide (((unhide HN5).2.trans (unhide HK7).of_non).trans r9)
      clear p9 q9 r9 b9
      go_wp2_with fail
      refine (unhide HC9).mono ?_
      rintro e w' ⟨rfl, hn'⟩
      go_wp2
      go_end0
      refine ⟨rfl, ?_⟩
      obtain ⟨m10, p10, q10, r10⟩ := hn'
      refine ⟨m10, p10, fun b hb => ?_, (unhide HR9).from (r10.mono (unhide HQ9))⟩
      rcases q10 b hb with h | h
      · exact unhide HQ9 b h
      · exact .inr (Nat.le_trans (unhide HR9).size h)

end Go.Proofs.YtigaphnafnpfnaaGreatDoor

