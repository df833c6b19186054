import Derived.Test.YtigaphnafnpfnaaGreatDoorPVX11
set_option linter.unusedVariables false
set_option linter.unusedSimpArgs false
namespace Go.Proofs.YtigaphnafnpfnaaGreatDoor
open Go.RowKit
attribute [local go_sem ↓] Go.wp_at_zero Go.wp_at_succ

theorem rcV_form (i : Nat) (c : RC) : ∃ f r n a k, rcV i c = repV f r n a k := by
  unfold rcV
  split
  · exact ⟨_, _, _, _, _, rfl⟩
  · split <;> exact ⟨_, _, _, _, _, rfl⟩

/-- a report that lay beside a state is still there -/
theorem StN.blk87 {base sb : Nat} {S S' : RS} {m : SM} {w W1 : World} (h : StN base sb S' m w W1) (h0 : StV w base sb S m) {r : Nat} {c : Array Value} {t : TypeId} (hb : Blk w r c t) (ht : t ≠ 207 ∧ t ≠ 9 ∧ t ≠ 212 ∧ t ≠ 210 ∧ t ≠ 62) : Blk W1 r c t := by
  obtain ⟨m', p, q, kk⟩ := h
  exact kk.blk hb (h0.ne hb ht)

set_option maxRecDepth 100000 in
set_option maxHeartbeats 8000000 in
theorem rreplace_anew (base sb k f : Nat) (S : RS) (m : SM) (x : RAct) (c' : RC) (w : World) (h : StV w base sb S m) (hlen : S.l.length ≤ 1000) (hk : ordX S.l x.a = some k) (ho : (nthO S.l k).opn ≠ 0) (hb : numB x.b = true) (hc : numB x.c = true) (hpq : ¬ (x.b = (nthO S.l k).price ∧ x.c ≤ (nthO S.l k).opn))
    (hE : Ends k f ⟨S.setO k (repA (nthO S.l k) x.b x.c), x.c, 0, 0, 0⟩ c') (ht : S.t.length + f < 1000000000) (hto : S.told.length + f < 1000000000) :
    Calls Tryz.prog 170 #[.pointer (some ⟨sb, 0, none⟩), x.val] w fun e w' => e = .returned (.tuple #[rcV k c', .int .i64 0]) ∧ StN base sb (rcS k c') m w w' := by
  have he : openE S.l x.a = 0 := by unfold openE; rw [hk]; simp [ho]
  have HO : Hid (∀ W, Chg Non w W → Calls Tryz.prog 169 #[.pointer (some ⟨sb, 0, none⟩), .int .i64 x.a] W fun e w' => e = .returned (.tuple #[.int .i64 (k : Int), .int .i64 0]) ∧ w' = W) := fun W kk => by
    have := ropen_any base sb S m x.a W (h.kept0 kk) hlen
    rw [he, hk] at this
    exact this
  have HN : Hid (∀ n w, Calls Tryz.prog 198 #[.int .i64 n] w fun e w' => e = .returned (.bool (numB n)) ∧ w' = w) := rnumber_any
  obtain ⟨N, hN⟩ : ∃ N, S.l.length = N := ⟨_, rfl⟩
  have hkl := (ordX_lt hk).1
  have hkN : k < N := by rw [← hN]; exact hkl
  obtain ⟨g, cc, v1, hlv, hsg, lg, hg212, hcl, hf⟩ := h.see hN (by omega)
  have y5 : w.cell? ⟨g, k * 13 + 5, none⟩ = some (.int .i64 (nthO S.l k).price) := hcl k hkN 5 _ rfl
  have y7 : w.cell? ⟨g, k * 13 + 7, none⟩ = some (.int .i64 (nthO S.l k).entered) := hcl k hkN 7 _ rfl
  have y8 : w.cell? ⟨g, k * 13 + 8, none⟩ = some (.int .i64 (nthO S.l k).opn) := hcl k hkN 8 _ rfl
  have f5 := hf (k * 13 + 5)
  have f7 := hf (k * 13 + 7)
  have f8 := hf (k * 13 + 8)
  have lsb := h.blk.lt
  have n1 : ¬ k * 13 + 8 = k * 13 + 7 := by omega
  have n2 : ¬ k * 13 + 5 = k * 13 + 7 := by omega
  have n3 : ¬ k * 13 + 5 = k * 13 + 8 := by omega
  have gz : g ≠ w.heap.size := by omega
  have gr : g ≠ w.heap.size + 1 := by omega
  have gz' := gz.symm
  have gr' := gr.symm
  have lg1 : g < w.heap.size + 1 := by omega
  have lsb1 : sb < w.heap.size + 1 := by omega
  have hlN : N ≤ 1000 := by omega
  obtain ⟨o, hoo⟩ : ∃ o, nthO S.l k = o := ⟨_, rfl⟩
  rw [hoo] at y5 y7 y8 hpq hE
  have HST : Hid (∀ W, Chg Non w W → StV (((W.setCell ⟨g, k * 13 + 7, none⟩ (.int .i64 (wrap64 (wrap64 (o.entered + x.c) - o.opn)))).setCell ⟨g, k * 13 + 8, none⟩ (.int .i64 0)).setCell ⟨g, k * 13 + 5, none⟩ (.int .i64 x.b)) base sb (S.setO k (repA o x.b x.c)) m ∧ Chg (SF sb m) w (((W.setCell ⟨g, k * 13 + 7, none⟩ (.int .i64 (wrap64 (wrap64 (o.entered + x.c) - o.opn)))).setCell ⟨g, k * 13 + 8, none⟩ (.int .i64 0)).setCell ⟨g, k * 13 + 5, none⟩ (.int .i64 x.b))) := by
    intro W kW
    obtain ⟨p1, q1⟩ := (h.kept0 kW).setOrd hlv hkl (j := 7) (by omega) (.int .i64 (wrap64 (wrap64 (o.entered + x.c) - o.opn))) { o with entered := wrap64 (wrap64 (o.entered + x.c) - o.opn) } (by rw [hoo]; rfl)
    obtain ⟨p2, q2⟩ := p1.setOrd (i := k) (by simp only [List.length_set]; exact hlv) (by simp only [List.length_set]; exact hkl) (j := 8) (by omega) (.int .i64 0) { o with entered := wrap64 (wrap64 (o.entered + x.c) - o.opn), opn := 0 } (by simp only; rw [nthO_set_same hkl]; rfl)
    obtain ⟨p3, q3⟩ := p2.setOrd (i := k) (by simp only [List.length_set]; exact hlv) (by simp only [List.length_set]; exact hkl) (j := 5) (by omega) (.int .i64 x.b) (repA o x.b x.c) (by simp only; rw [nthO_set_same (by simp only [List.length_set]; exact hkl)]; rfl)
    simp only [List.set_set] at p3
    exact ⟨p3, ((kW.of_non.trans q1).trans q2).trans q3⟩
  have HCO : Hid (∀ W, StV W base sb (S.setO k (repA o x.b x.c)) m → Calls Tryz.prog 168 #[.pointer (some ⟨sb, 0, none⟩), .int .i64 (k : Int), .int .i64 x.c] W fun e w' => e = .returned (rcV k c') ∧ StN base sb (rcS k c') m W w') := fun W hW => rcome_any base sb k f _ m x.c c' W hW (by simp only [RS.setO, List.length_set]; omega) (by simp only [RS.setO, List.length_set]; exact hkl) hE ht hto
  obtain ⟨rf, rr, rn, ra, rk, hrv⟩ := rcV_form k c'
  rw [hrv] at HCO ⊢
  simp only [repV] at HCO
  have HS := hide h
  have hd : ((x.b == o.price) = false) ∨ ((x.b == o.price) = true ∧ decide (x.c ≤ o.opn) = false) := by
    by_cases hp : x.b = o.price
    · right; exact ⟨by simp [hp], by have := fun h => hpq ⟨hp, h⟩; simpa using this⟩
    · left; simpa using hp
  obtain ⟨kind, s, ⟨id, owner, sym, side, okind, price, qty⟩, a, b, c, again⟩ := x
  simp only [RAct.val, RAct.cells] at HO hb hc hd HST HCO ⊢
  clear h hk ho he hN hkl hlv hg212 hcl hf hpq hoo hlen hE hrv
  rcases hd with e1 | ⟨e1, e2⟩
  all_goals
    go_enter Tryz.func170, Tryz.ntmps170
    go_wp2_with (first
      | (go_at_call 169; refine (unhide HO _ ?cc).mono ?_; (case cc => exact ((Chg.refl _ _).alloc _).alloc _); rintro e w' ⟨rfl, rfl⟩)
      | (go_at_call 198; refine (unhide HN _ _).mono ?_; rintro e w' ⟨rfl, rfl⟩))
    go_quiet (fail)
    go_wp2
    go_region
    go_wp2_with fail
    obtain ⟨p9, q9⟩ := unhide HST _ ((((Chg.refl Non w).alloc (.cells #[.int .u8 kind, .string s, .int .i64 id, .int .i64 owner, .string sym, .int .i64 side, .int .i64 okind, .int .i64 price, .int .i64 qty, .int .i64 a, .int .i64 b, .int .i64 c, .bool again] 169)).alloc (.cells zero5 87)).drewN (nq + 1))
    have bz := ((((Blk.new1 w (.cells #[.int .u8 kind, .string s, .int .i64 id, .int .i64 owner, .string sym, .int .i64 side, .int .i64 okind, .int .i64 price, .int .i64 qty, .int .i64 a, .int .i64 b, .int .i64 c, .bool again] 169) zero5 87).drewN (nq + 1)).other (a := ⟨g, k * 13 + 7, none⟩) gr' (.int .i64 (wrap64 (wrap64 (o.entered + c) - o.opn)))).other (a := ⟨g, k * 13 + 8, none⟩) gr' (.int .i64 0)).other (a := ⟨g, k * 13 + 5, none⟩) gr' (.int .i64 b)
    refine (unhide HCO _ p9).mono ?_
    rintro e w3 ⟨rfl, hn3⟩
    have b3 := hn3.blk87 p9 bz (by decide)
    have HN3 : Hid (StN base sb (rcS k c') m w w3) := by
      obtain ⟨m3, p3, q3, k3⟩ := hn3
      refine ⟨m3, p3, fun b hb => (q3 b hb).imp_right (fun h => Nat.le_trans q9.size h), q9.trans k3⟩
    have z0 := b3.cell 0
    have z1 := b3.cell 1
    have z2 := b3.cell 2
    have z3 := b3.cell 3
    have z4 := b3.cell 4
    simp [zero5] at z0 z1 z2 z3 z4
    have fz0 := b3.frozen 0
    have fz1 := b3.frozen 1
    have fz2 := b3.frozen 2
    have fz3 := b3.frozen 3
    have fz4 := b3.frozen 4
    have l3 := b3.lt
    have HB3 := hide b3
    clear p9 q9 bz hn3 b3
    go_wp2
    refine bodyPost_ret (res170 _ (w.heap.size + 1) _ rf rr rn ra rk 0 rfl rfl ?_) rfl ⟨rfl, ?_⟩
    · exact (set5 (unhide HB3) _ _ _ _ _).alloc _
    · exact ((unhide HN3).off (unhide HB3) (by omega) (chg5 _ _ _ _ _)).ext ((Chg.refl _ _).alloc _)

end Go.Proofs.YtigaphnafnpfnaaGreatDoor

