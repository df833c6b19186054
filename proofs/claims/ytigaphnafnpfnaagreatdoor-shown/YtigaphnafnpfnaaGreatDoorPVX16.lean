import Derived.Test.YtigaphnafnpfnaaGreatDoorPVX15
import Derived.Deep.CutRange
set_option linter.unusedVariables false
set_option linter.unusedSimpArgs false
namespace Go.Proofs.YtigaphnafnpfnaaGreatDoor
open Go.RowKit
attribute [local go_sem ↓] Go.wp_at_zero Go.wp_at_succ

theorem StN.pre {base sb : Nat} {S' : RS} {m : SM} {w0 w w' : World} (k : Chg Non w0 w) (h : StN base sb S' m w w') : StN base sb S' m w0 w' := by
  obtain ⟨m', p, q, kk⟩ := h
  exact ⟨m', p, fun b hb => (q b hb).imp_right (fun x => Nat.le_trans k.size x), k.of_non.trans kk⟩

theorem StN.thenAt {base sb : Nat} {S' : RS} {m m6 : SM} {w w' w'' : World} (h2 : ∀ b, SF sb m6 b → SF sb m b ∨ w.heap.size ≤ b) (h3 : Chg (SF sb m) w w') (k : StN base sb S' m6 w' w'') : StN base sb S' m w w'' := by
  obtain ⟨m'', k1, k2, k3⟩ := k
  refine ⟨m'', k1, fun b hb => ?_, h3.from (k3.mono (fun b hb => h2 b hb))⟩
  rcases k2 b hb with hb | hb
  · exact h2 b hb
  · exact .inr (Nat.le_trans h3.size hb)

theorem StV.al {w : World} {base sb : Nat} {S : RS} {m : SM} (h : StV w base sb S m) (o : Obj) : StV (w.alloc o) base sb S m := h.kept0 ((Chg.refl Non w).alloc o)

set_option maxRecDepth 100000 in
set_option maxHeartbeats 8000000 in
theorem rdoes_enter (base sb f : Nat) (S : RS) (m : SM) (x : RAct) (c' : RC) (w : World) (h : StV w base sb S m) (hx : x.kind = 101) (hlen : S.l.length < 1000) (hsy : S.sy.length ≤ 1000) (hop : ∀ k, k < S.l.length → 0 ≤ (nthO S.l k).opn ∧ (nthO S.l k).opn ≤ 1000000000000000) (he : rentE S x.o = 0)
    (hE : Ends S.l.length f ⟨S.fresh.add x.o, x.o.qty, 0, 0, 0⟩ c') (ht : S.t.length + f < 1000000000) (hf : f < 1000000000) :
    Calls Tryz.prog 138 #[.pointer (some ⟨sb, 0, none⟩), x.val] w fun e w' => e = .returned (.tuple #[rcV S.l.length c', .int .i64 0]) ∧ StN base sb (rcS S.l.length c') m w w' := by
  have lsb := h.blk.lt
  have hge := h.ge
  have v5 : w.cell? ⟨sb, 5, none⟩ = some m.ov := h.blk.cell 5
  have f5 := h.blk.frozen 5
  have sz : sb ≠ w.heap.size := by omega
  have sr : sb ≠ w.heap.size + 1 := by omega
  have sz' := sz.symm
  have sr' := sr.symm
  have lsb1 : sb < w.heap.size + 1 := by omega
  have HO : Hid (∀ W m', StV W base sb S.fresh m' → Calls Tryz.prog 167 #[.pointer (some ⟨sb, 0, none⟩), x.o.val] W fun e w' => e = .returned (.int .i64 0) ∧ Chg Non W w') := fun W m' hW => by
    have := rentering_any base sb S.fresh m' x.o W hW (by show S.l.length ≤ 1000; omega) hsy hop
    rw [show rentE S.fresh x.o = 0 from he] at this
    exact this
  obtain ⟨N, hN⟩ : ∃ N, S.l.length = N := ⟨_, rfl⟩
  have hCO : ∀ W m', StV W base sb (S.fresh.add x.o) m' → Calls Tryz.prog 168 #[.pointer (some ⟨sb, 0, none⟩), .int .i64 (N : Int), .int .i64 x.o.qty] W fun e w' => e = .returned (rcV N c') ∧ StN base sb (rcS N c') m' W w' := fun W m' hW => by
    rw [hN] at hE
    exact rcome_any base sb N f _ m' x.o.qty c' W hW (by simp only [RS.add, RS.fresh, List.length_append, List.length_cons, List.length_nil]; omega) (by simp only [RS.add, RS.fresh, List.length_append, List.length_cons, List.length_nil]; omega) hE ht (by show 0 + f < _; omega)
  have HCO := hide hCO
  clear hCO
  rw [hN]
  obtain ⟨rf, rr, rn, ra, rk, hrv⟩ := rcV_form N c'
  rw [hrv] at HCO ⊢
  simp only [repV] at HCO
  obtain ⟨kind, s, ⟨id, owner, sym, side, okind, price, qty⟩, a, b, c, again⟩ := x
  simp only at hx
  subst hx
  simp only [RAct.val, RAct.cells, Ask.val] at HO HCO ⊢
  have HS := hide h
  obtain ⟨p1, q1, b1, b0⟩ := h.starts #[.int .u8 101, .string s, .int .i64 id, .int .i64 owner, .string sym, .int .i64 side, .int .i64 okind, .int .i64 price, .int .i64 qty, .int .i64 a, .int .i64 b, .int .i64 c, .bool again]
  obtain ⟨W1, hW1⟩ : ∃ W1, W1 = (((w.setCell ⟨sb, 5, none⟩ (.slice none 0 0)).alloc (.cells #[.int .u8 101, .string s, .int .i64 id, .int .i64 owner, .string sym, .int .i64 side, .int .i64 okind, .int .i64 price, .int .i64 qty, .int .i64 a, .int .i64 b, .int .i64 c, .bool again] 169)).alloc (.cells zero5 87)) := ⟨_, rfl⟩
  rw [← hW1] at p1 q1 b1 b0
  have HC := hide (unhide HO _ _ p1)
  have H1 : Hid (StV W1 base sb S.fresh m.fresh ∧ Chg (SF sb m) w W1 ∧ Blk W1 (w.heap.size + 1) zero5 87 ∧ Blk W1 w.heap.size #[.int .u8 101, .string s, .int .i64 id, .int .i64 owner, .string sym, .int .i64 side, .int .i64 okind, .int .i64 price, .int .i64 qty, .int .i64 a, .int .i64 b, .int .i64 c, .bool again] 169) := ⟨p1, q1, b1, b0⟩
  have HW1 := hide hW1
  have HN := hide hN
  simp only [zero5] at HW1
  clear p1 q1 b1 b0 HO hW1 h he hE hop hrv hN
  obtain ⟨i0, z0, hi0, hz0, hz1, hz2, hz3⟩ := info212_parts
  have hmx : N + 1 ≤ maxLen := by have := unhide HN; unfold maxLen; omega
  have hm24 : (N + 1) * 112 ≤ 140737488355328 := by have := unhide HN; omega
  go_enter Tryz.func138, Tryz.ntmps138
  go_wp2_with fail
  rw [← unhide HW1]
  refine (unhide HC).mono ?_
  rintro e w3 ⟨rfl, k3⟩
  -- behind entering
  obtain ⟨p1, q1, b1, b0⟩ := unhide H1
  have p3 := p1.kept0 k3
  have b13 := k3.blk b1 (fun x => x)
  have b03 := k3.blk b0 (fun x => x)
  obtain ⟨la, lc, hlv⟩ := row_slice p3.lrow
  change m.fresh.lv = .slice la S.l.length lc at hlv
  rw [unhide HN] at hlv
  have u1 : w3.cell? ⟨sb, 1, none⟩ = some (.slice la N lc) := by rw [← hlv]; exact p3.blk.cell 1
  have x2 : w3.cell? ⟨w.heap.size, 2, none⟩ = some (.int .i64 id) := b03.cell 2
  have x3 : w3.cell? ⟨w.heap.size, 3, none⟩ = some (.int .i64 owner) := b03.cell 3
  have x4 : w3.cell? ⟨w.heap.size, 4, none⟩ = some (.string sym) := b03.cell 4
  have x5 : w3.cell? ⟨w.heap.size, 5, none⟩ = some (.int .i64 side) := b03.cell 5
  have x6 : w3.cell? ⟨w.heap.size, 6, none⟩ = some (.int .i64 okind) := b03.cell 6
  have x7 : w3.cell? ⟨w.heap.size, 7, none⟩ = some (.int .i64 price) := b03.cell 7
  have x8 : w3.cell? ⟨w.heap.size, 8, none⟩ = some (.int .i64 qty) := b03.cell 8
  have l03 : w.heap.size < w3.heap.size := b03.lt
  have lsb3 : sb < w3.heap.size := p3.blk.lt
  obtain ⟨w4, hw4⟩ : ∃ w4, w4 = (w3.alloc (.cells #[.int .i64 id, .int .i64 owner, .string sym, .int .i64 side, .int .i64 okind, .int .i64 price, .int .i64 qty, .int .i64 qty, .int .i64 0, .int .i64 0, .int .i64 0, .int .i64 0, .int .i64 0] 212)).drew := ⟨_, rfl⟩
  have k4 : Chg Non w3 w4 := by rw [hw4]; exact ((Chg.refl Non w3).alloc _).drew
  have p4 := p3.kept0 k4
  have hs4 : w4.heap.size = w3.heap.size + 1 := by rw [hw4]; simp
  have r4 : w4.ownsRow base 212 13 (.slice la N lc) N (flatO S.l) := by
    have r := p4.lrow
    change w4.ownsRow base 212 13 m.fresh.lv S.l.length (flatO S.l) at r
    rw [hlv, unhide HN] at r
    exact r
  have hnews : ∀ j u, (ordL (newR ⟨id, owner, sym, side, okind, price, qty⟩))[j]? = some u → w4.cell? (Addr.add ⟨w3.heap.size, 0, none⟩ j) = some u := by
    intro j u hj
    have := news13 w3 (newR ⟨id, owner, sym, side, okind, price, qty⟩) j u hj
    rw [hw4]
    exact this
  have hone : ∀ u ∈ ordL (newR ⟨id, owner, sym, side, okind, price, qty⟩), u.oneCell' = true := by simp [ordL, Value.oneCell']
  have HW4 := hide hw4
  have H4 := hide p4
  have HR4 := hide r4
  have HNW := hide hnews
  have HON := hide hone
  have HS4 := hide hs4
  have HLV := hide hlv
  have HB4 := hide (k4.blk b13 (fun x => x))
  have HB04 := hide (k4.blk b03 (fun x => x))
  have HQ4 := hide ((q1.trans k3.of_non).trans k4.of_non)
  clear hw4 p4 r4 hnews hone hs4 hlv k4 p1 q1 b1 b0 p3 b13 b03 k3
  go_upto_region 18 with fail
  go_cut [] from 64 (fun wc => ∃ m6, StV wc base sb (S.fresh.add ⟨id, owner, sym, side, okind, price, qty⟩) m6 ∧ (∀ b, SF sb m6 b → SF sb m b ∨ w.heap.size ≤ b) ∧ Chg (SF sb m) w wc ∧ Blk wc (w.heap.size + 1) zero5 87 ∧ Blk wc w.heap.size #[.int .u8 101, .string s, .int .i64 id, .int .i64 owner, .string sym, .int .i64 side, .int .i64 okind, .int .i64 price, .int .i64 qty, .int .i64 a, .int .i64 b, .int .i64 c, .bool again] 169)
  case first JJ KK hJ hK =>
    go_region_law (first | (rw [← unhide HW4]; refine step_append_lies _ rfl (.tmp 68) (.tmp 75) 204 rfl base 212 i0 z0 13 112 Tryz.underlying204 hi0 hz0 hz1 hz2 hz3 (by decide) (.slice la N lc) N (flatO S.l) rfl (unhide HR4) ⟨w3.heap.size, 0, none⟩ 1 1 (ordL (newR ⟨id, owner, sym, side, okind, price, qty⟩)) rfl rfl (unhide HNW) (unhide HON) (by omega) hmx hm24 (by have := unhide HS4; omega) (w3.heap.size + 1) (unhide HS4) ?_; intro g5 cap5 w5 hown2 hgrow hat hlt; have HO2 := hide hown2; have HG2 := hide hgrow; have HA2 := hide hat; have b2 : Blk w5 sb _ 207 := (hgrow.block sb (unhide H4).blk.lt (fun e => by obtain ⟨cs, hc⟩ := own_blk (unhide H4).lrow (b := sb) (by rw [unhide HLV]; exact e.symm); exact Blk.ne hc (unhide H4).blk (by decide) rfl)).trans (unhide H4).blk; have v52 := b2.cell 1; have f52 := b2.frozen 1; simp at v52; have bb0 : Blk w5 w.heap.size _ 169 := (hgrow.block w.heap.size (unhide HB04).lt (fun e => by obtain ⟨cs, hc⟩ := own_blk (unhide H4).lrow (b := w.heap.size) (by rw [unhide HLV]; exact e.symm); exact Blk.ne hc (unhide HB04) (by decide) rfl)).trans (unhide HB04); have bb1 : Blk w5 (w.heap.size + 1) _ 87 := (hgrow.block (w.heap.size + 1) (unhide HB4).lt (fun e => by obtain ⟨cs, hc⟩ := own_blk (unhide H4).lrow (b := w.heap.size + 1) (by rw [unhide HLV]; exact e.symm); exact Blk.ne hc (unhide HB4) (by decide) rfl)).trans (unhide HB4); have HBB0 := hide bb0; have HBB1 := hide bb1; clear hown2 hgrow hat b2 bb0 bb1))
    all_goals
      refine hK _ _ (Met.intro (hJ _ _ ?_))
      repeat apply Exists.intro
      refine ⟨?rel, rfl⟩
      case rel =>
        obtain ⟨m6, p6, q6, r6⟩ := (unhide H4).lGrown (r := newR ⟨id, owner, sym, side, okind, price, qty⟩) (unhide HN) (unhide HO2) (by rw [unhide HLV]; exact unhide HG2) (by rw [unhide HLV]; exact unhide HA2) (unhide HS4)
        refine ⟨m6, p6, fun b hb => ?_, (unhide HQ4).trans (r6.mono (unhide HS).fresh.2.2), (unhide HBB1).other (a := ⟨sb, 1, none⟩) sr' _, (unhide HBB0).other (a := ⟨sb, 1, none⟩) sz' _⟩
        rcases q6 b hb with x | x
        · exact .inl ((unhide HS).fresh.2.2 b x)
        · exact .inr (Nat.le_trans (unhide HQ4).size x)
  case rest =>
    clear HW4 H4 HR4 HNW HON HS4 HLV HB4 HB04 HQ4 u1 x2 x3 x4 x5 x6 x7 x8 l03 lsb3
    obtain ⟨m6, p6, q6, r6, b6, b06⟩ := hcut
    obtain ⟨la, lc, hlv⟩ := row_slice p6.lrow
    have hl1 : (S.fresh.add ⟨id, owner, sym, side, okind, price, qty⟩).l.length = N + 1 := by simp only [RS.add, RS.fresh, List.length_append, List.length_cons, List.length_nil]; rw [unhide HN]
    rw [hl1] at hlv
    have v1 : wc.cell? ⟨sb, 1, none⟩ = some (.slice la (N + 1) lc) := by rw [← hlv]; exact p6.blk.cell 1
    have y8 : wc.cell? ⟨w.heap.size, 8, none⟩ = some (.int .i64 qty) := b06.cell 8
    have ls6 : sb < wc.heap.size := p6.blk.lt
    have l06 : w.heap.size < wc.heap.size := b06.lt
    have l16 : w.heap.size + 1 < wc.heap.size := b6.lt
    have hwr : IntKind.i64.wrap (N : Int) = (N : Int) := by have := unhide HN; rw [IntKind.wrap_i64]; omega
    have HC6 : Hid (∀ W m', StV W base sb (S.fresh.add ⟨id, owner, sym, side, okind, price, qty⟩) m' → Calls Tryz.prog 168 #[.pointer (some ⟨sb, 0, none⟩), .int .i64 (IntKind.i64.wrap (N : Int)), .int .i64 qty] W fun e w' => e = .returned (.agg #[.int .i64 rf, .int .i64 rr, .int .i64 rn, .int .i64 ra, .int .i64 rk]) ∧ StN base sb (rcS N c') m' W w') := by rw [hwr]; exact unhide HCO
    clear hwr
    have HP6 := hide p6
    have HQ6 := hide q6
    have HR6 := hide r6
    have HB6 := hide b6
    have h1N : (N : Int) + 1 - 1 = (N : Int) := by omega
    clear p6 q6 r6 b6 b06 hlv
    go_upto_region 19 with fail
    go_cut [9] from 79 (fun s9 wd => ∃ p, s9 = .pointer (some ⟨p, 0, none⟩) ∧ p ≠ w.heap.size + 1 ∧ Blk wd p #[.int .i64 rf, .int .i64 rr, .int .i64 rn, .int .i64 ra, .int .i64 rk] 87 ∧ Blk wd (w.heap.size + 1) zero5 87 ∧ StN base sb (rcS N c') m w wd)
    case first JJ KK hJ hK =>
      go_region_with (first
        | (go_at_call 168; refine (unhide HC6 _ m6 ?st).mono ?_; (case st => repeat (first | exact unhide HP6 | refine StV.dr ?_ | refine StV.al ?_ _)); rintro e w7 ⟨rfl, hn7⟩; (try (have bt : Blk w7 wc.heap.size zero5 87 := hn7.blk87 (S := S.fresh.add ⟨id, owner, sym, side, okind, price, qty⟩) (by repeat (first | exact unhide HP6 | refine StV.dr ?_ | refine StV.al ?_ _)) (by first | exact Blk.new wc zero5 87 | exact (Blk.new wc zero5 87).drew) (by decide); have t0 := bt.cell 0; have t1 := bt.cell 1; have t2 := bt.cell 2; have t3 := bt.cell 3; have t4 := bt.cell 4; simp [zero5] at t0 t1 t2 t3 t4; have ft0 := bt.frozen 0; have ft1 := bt.frozen 1; have ft2 := bt.frozen 2; have ft3 := bt.frozen 3; have ft4 := bt.frozen 4; have HBT := hide bt; clear bt)); have b7 : Blk w7 (w.heap.size + 1) zero5 87 := hn7.blk87 (S := S.fresh.add ⟨id, owner, sym, side, okind, price, qty⟩) (by repeat (first | exact unhide HP6 | refine StV.dr ?_ | refine StV.al ?_ _)) (by repeat (first | exact unhide HB6 | refine Blk.drew ?_ | refine Blk.alloc ?_ _)) (by decide); have l7 := b7.lt; have HB7 := hide b7; have HN7 := hide hn7; clear hn7 b7))
      all_goals
        refine hK _ _ (Met.intro (hJ _ _ ?_))
        repeat apply Exists.intro
        refine ⟨?rel, rfl⟩
        case rel =>
          first
          | (have hbt := unhide HBT
             exact ⟨wc.heap.size, rfl, by omega, set5 hbt _ _ _ _ _, (chg5 _ _ _ _ _).blk (unhide HB7) (by omega), StN.thenAt (unhide HQ6) (unhide HR6) ((StN.pre (by first | exact ((Chg.refl Non wc).alloc _).drew | exact ((Chg.refl Non wc).drew).alloc _) (unhide HN7)).off hbt (Nat.le_refl _) (chg5 _ _ _ _ _))⟩)
          | exact ⟨w7.heap.size, rfl, by omega, Blk.new _ _ _, (unhide HB7).alloc _, StN.thenAt (unhide HQ6) (unhide HR6) ((StN.pre ((Chg.refl Non wc).drew) (unhide HN7)).ext ((Chg.refl _ _).alloc _))⟩
    case rest =>
      clear HP6 HQ6 HR6 HB6 HC6 v1 y8 ls6 l06 l16 h1N
      obtain ⟨p, rfl, hp, bp, b7, hn⟩ := hcut
      have q0 : wc.cell? ⟨p, 0, none⟩ = some (.int .i64 rf) := bp.cell 0
      have q1 : wc.cell? ⟨p, 1, none⟩ = some (.int .i64 rr) := bp.cell 1
      have q2 : wc.cell? ⟨p, 2, none⟩ = some (.int .i64 rn) := bp.cell 2
      have q3 : wc.cell? ⟨p, 3, none⟩ = some (.int .i64 ra) := bp.cell 3
      have q4 : wc.cell? ⟨p, 4, none⟩ = some (.int .i64 rk) := bp.cell 4
      have s0 : wc.cell? ⟨w.heap.size + 1, 0, none⟩ = some (.int .i64 0) := b7.cell 0
      have s1 : wc.cell? ⟨w.heap.size + 1, 1, none⟩ = some (.int .i64 0) := b7.cell 1
      have s2 : wc.cell? ⟨w.heap.size + 1, 2, none⟩ = some (.int .i64 0) := b7.cell 2
      have s3 : wc.cell? ⟨w.heap.size + 1, 3, none⟩ = some (.int .i64 0) := b7.cell 3
      have s4 : wc.cell? ⟨w.heap.size + 1, 4, none⟩ = some (.int .i64 0) := b7.cell 4
      have fs0 := b7.frozen 0
      have fs1 := b7.frozen 1
      have fs2 := b7.frozen 2
      have fs3 := b7.frozen 3
      have fs4 := b7.frozen 4
      have HB7 := hide b7
      have HN7 := hide hn
      clear bp b7 hn
      go_wp2
      refine bodyPost_ret (res138 _ (w.heap.size + 1) _ rf rr rn ra rk 0 rfl rfl ?_) rfl ⟨rfl, ?_⟩
      · exact set5 (unhide HB7) _ _ _ _ _
      · exact (unhide HN7).off (unhide HB7) (by omega) (chg5 _ _ _ _ _)

end Go.Proofs.YtigaphnafnpfnaaGreatDoor

