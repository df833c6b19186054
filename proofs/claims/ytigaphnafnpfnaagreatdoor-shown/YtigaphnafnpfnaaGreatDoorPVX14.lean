import Derived.Test.YtigaphnafnpfnaaGreatDoorPVC4
set_option linter.unusedVariables false
set_option linter.unusedSimpArgs false
namespace Go.Proofs.YtigaphnafnpfnaaGreatDoor
open Go.RowKit
attribute [local go_sem ↓] Go.wp_at_zero Go.wp_at_succ

/-- all that is open of the order k is cancelled -/
def RS.cancel (S : RS) (k : Nat) : RS := S.setO k { nthO S.l k with canc := wrap64 ((nthO S.l k).canc + (nthO S.l k).opn), opn := 0 }

set_option maxRecDepth 100000 in
set_option maxHeartbeats 4000000 in
theorem rdoes_cancel_err (base sb : Nat) (S : RS) (m : SM) (x : RAct) (w : World) (h : StV w base sb S m) (hx : x.kind = 99) (hlen : S.l.length ≤ 1000) (he : openE S.l x.a ≠ 0) :
    Calls Tryz.prog 138 #[.pointer (some ⟨sb, 0, none⟩), x.val] w fun e w' => e = .returned (.tuple #[repV 0 0 0 0 0, .int .i64 (openE S.l x.a)]) ∧ StN base sb S.fresh m w w' := by
  have lsb := h.blk.lt
  have v5 : w.cell? ⟨sb, 5, none⟩ = some m.ov := h.blk.cell 5
  have f5 := h.blk.frozen 5
  have sz : sb ≠ w.heap.size := by omega
  have sr : sb ≠ w.heap.size + 1 := by omega
  have sz' := sz.symm
  have sr' := sr.symm
  have lsb1 : sb < w.heap.size + 1 := by omega
  have HO : Hid (∀ W m', StV W base sb S.fresh m' → Calls Tryz.prog 169 #[.pointer (some ⟨sb, 0, none⟩), .int .i64 x.a] W fun e w' => e = .returned (.tuple #[.int .i64 (oi (ordX S.l x.a)), .int .i64 (openE S.l x.a)]) ∧ w' = W) := fun W m' hW => ropen_any base sb S.fresh m' x.a W hW hlen
  obtain ⟨E, hE⟩ : ∃ E, openE S.l x.a = E := ⟨_, rfl⟩
  rw [hE] at HO he ⊢
  have e0 : (E == 0) = false := by simpa using he
  obtain ⟨kind, s, ⟨id, owner, sym, side, okind, price, qty⟩, a, b, c, again⟩ := x
  simp only at hx
  subst hx
  simp only [RAct.val, RAct.cells] at HO ⊢
  have HS := hide h
  clear h hE he
  obtain ⟨p1, q1, b1, _⟩ := (unhide HS).starts #[.int .u8 99, .string s, .int .i64 id, .int .i64 owner, .string sym, .int .i64 side, .int .i64 okind, .int .i64 price, .int .i64 qty, .int .i64 a, .int .i64 b, .int .i64 c, .bool again]
  obtain ⟨W1, hW1⟩ : ∃ W1, W1 = (((w.setCell ⟨sb, 5, none⟩ (.slice none 0 0)).alloc (.cells #[.int .u8 99, .string s, .int .i64 id, .int .i64 owner, .string sym, .int .i64 side, .int .i64 okind, .int .i64 price, .int .i64 qty, .int .i64 a, .int .i64 b, .int .i64 c, .bool again] 169)).alloc (.cells zero5 87)) := ⟨_, rfl⟩
  rw [← hW1] at p1 q1 b1
  have HC := hide (unhide HO _ _ p1)
  have HN : Hid (StN base sb S.fresh m w W1) := StN.ofFresh (unhide HS) q1 (StN.refl p1)
  have z0 : W1.cell? ⟨w.heap.size + 1, 0, none⟩ = some (.int .i64 0) := b1.cell 0
  have z1 : W1.cell? ⟨w.heap.size + 1, 1, none⟩ = some (.int .i64 0) := b1.cell 1
  have z2 : W1.cell? ⟨w.heap.size + 1, 2, none⟩ = some (.int .i64 0) := b1.cell 2
  have z3 : W1.cell? ⟨w.heap.size + 1, 3, none⟩ = some (.int .i64 0) := b1.cell 3
  have z4 : W1.cell? ⟨w.heap.size + 1, 4, none⟩ = some (.int .i64 0) := b1.cell 4
  have fz0 := b1.frozen 0
  have fz1 := b1.frozen 1
  have fz2 := b1.frozen 2
  have fz3 := b1.frozen 3
  have fz4 := b1.frozen 4
  have HB := hide b1
  have HW1 := hide hW1
  simp only [zero5] at HW1
  clear p1 q1 b1 HO hW1
  go_enter Tryz.func138, Tryz.ntmps138
  go_wp2_with fail
  rw [← unhide HW1]
  refine (unhide HC).mono ?_
  rintro e w3 ⟨rfl, hw3⟩
  rw [hw3]
  clear hw3 w3
  go_wp2
  refine bodyPost_ret (res138 _ (w.heap.size + 1) _ 0 0 0 0 0 E rfl rfl ?_) rfl ⟨rfl, ?_⟩
  · exact set5 (unhide HB) _ _ _ _ _
  · exact (unhide HN).off (unhide HB) (by omega) (chg5 _ _ _ _ _)

set_option maxRecDepth 100000 in
set_option maxHeartbeats 4000000 in
theorem rdoes_cancel (base sb k : Nat) (S : RS) (m : SM) (x : RAct) (w : World) (h : StV w base sb S m) (hx : x.kind = 99) (hlen : S.l.length ≤ 1000) (hk : ordX S.l x.a = some k) (ho : (nthO S.l k).opn ≠ 0) :
    Calls Tryz.prog 138 #[.pointer (some ⟨sb, 0, none⟩), x.val] w fun e w' => e = .returned (.tuple #[repV 0 0 0 0 0, .int .i64 0]) ∧ StN base sb (S.fresh.cancel k) m w w' := by
  have he : openE S.l x.a = 0 := by unfold openE; rw [hk]; simp [ho]
  have lsb := h.blk.lt
  have v5 : w.cell? ⟨sb, 5, none⟩ = some m.ov := h.blk.cell 5
  have f5 := h.blk.frozen 5
  have sz : sb ≠ w.heap.size := by omega
  have sr : sb ≠ w.heap.size + 1 := by omega
  have sz' := sz.symm
  have sr' := sr.symm
  have lsb1 : sb < w.heap.size + 1 := by omega
  have HO : Hid (∀ W m', StV W base sb S.fresh m' → Calls Tryz.prog 169 #[.pointer (some ⟨sb, 0, none⟩), .int .i64 x.a] W fun e w' => e = .returned (.tuple #[.int .i64 (k : Int), .int .i64 0]) ∧ w' = W) := fun W m' hW => by
    have := ropen_any base sb S.fresh m' x.a W hW hlen
    rw [show openE S.fresh.l x.a = 0 from he, show ordX S.fresh.l x.a = some k from hk] at this
    exact this
  obtain ⟨N, hN⟩ : ∃ N, S.l.length = N := ⟨_, rfl⟩
  have hkl := (ordX_lt hk).1
  have hkN : k < N := by rw [← hN]; exact hkl
  have hlN : N ≤ 1000 := by omega
  obtain ⟨kind, s, ⟨id, owner, sym, side, okind, price, qty⟩, a, b, c, again⟩ := x
  simp only at hx
  subst hx
  simp only [RAct.val, RAct.cells] at HO ⊢
  have HS := hide h
  clear h he hk ho hlen
  obtain ⟨p1, q1, b1, _⟩ := (unhide HS).starts #[.int .u8 99, .string s, .int .i64 id, .int .i64 owner, .string sym, .int .i64 side, .int .i64 okind, .int .i64 price, .int .i64 qty, .int .i64 a, .int .i64 b, .int .i64 c, .bool again]
  obtain ⟨g, cc, v1, hlv, hsg, lg, hg212, hcl, hf⟩ := p1.see hN (by omega)
  obtain ⟨o, hoo⟩ : ∃ o, nthO S.l k = o := ⟨_, rfl⟩
  have HC := hide (unhide HO _ _ p1)
  have HW : ∃ W1, W1 = (((w.setCell ⟨sb, 5, none⟩ (.slice none 0 0)).alloc (.cells #[.int .u8 99, .string s, .int .i64 id, .int .i64 owner, .string sym, .int .i64 side, .int .i64 okind, .int .i64 price, .int .i64 qty, .int .i64 a, .int .i64 b, .int .i64 c, .bool again] 169)).alloc (.cells zero5 87)) := ⟨_, rfl⟩
  obtain ⟨W1, hW1⟩ := HW
  rw [← hW1] at p1 q1 b1 v1 lg hcl hf HC
  have hcl' := hcl k hkN
  rw [show nthO S.fresh.l k = o from hoo] at hcl'
  have y8 : W1.cell? ⟨g, k * 13 + 8, none⟩ = some (.int .i64 o.opn) := hcl' 8 _ rfl
  have y10 : W1.cell? ⟨g, k * 13 + 10, none⟩ = some (.int .i64 o.canc) := hcl' 10 _ rfl
  have f8 := hf (k * 13 + 8)
  have f10 := hf (k * 13 + 10)
  have n1 : ¬ k * 13 + 8 = k * 13 + 10 := by omega
  have gr : w.heap.size + 1 ≠ g := by
    intro e
    rw [← hW1] at hg212
    obtain ⟨cs, hcs⟩ := hg212
    exact Blk.ne hcs b1 (by decide) e.symm
  have gr' := gr.symm
  have z0 : W1.cell? ⟨w.heap.size + 1, 0, none⟩ = some (.int .i64 0) := b1.cell 0
  have z1 : W1.cell? ⟨w.heap.size + 1, 1, none⟩ = some (.int .i64 0) := b1.cell 1
  have z2 : W1.cell? ⟨w.heap.size + 1, 2, none⟩ = some (.int .i64 0) := b1.cell 2
  have z3 : W1.cell? ⟨w.heap.size + 1, 3, none⟩ = some (.int .i64 0) := b1.cell 3
  have z4 : W1.cell? ⟨w.heap.size + 1, 4, none⟩ = some (.int .i64 0) := b1.cell 4
  have fz0 := b1.frozen 0
  have fz1 := b1.frozen 1
  have fz2 := b1.frozen 2
  have fz3 := b1.frozen 3
  have fz4 := b1.frozen 4
  have HST : Hid (StN base sb (S.fresh.cancel k) m w ((W1.setCell ⟨g, k * 13 + 10, none⟩ (.int .i64 (wrap64 (o.canc + o.opn)))).setCell ⟨g, k * 13 + 8, none⟩ (.int .i64 0))) := by
    obtain ⟨p2, q2⟩ := p1.setOrd hlv hkl (j := 10) (by omega) (.int .i64 (wrap64 (o.canc + o.opn))) { o with canc := wrap64 (o.canc + o.opn) } (by rw [show nthO S.fresh.l k = o from hoo]; rfl)
    obtain ⟨p3, q3⟩ := p2.setOrd (i := k) (by simp only [List.length_set]; exact hlv) (by simp only [List.length_set]; exact hkl) (j := 8) (by omega) (.int .i64 0) { o with canc := wrap64 (o.canc + o.opn), opn := 0 } (by simp only; rw [nthO_set_same (l := S.fresh.l) hkl]; rfl)
    simp only [List.set_set] at p3
    have e : S.fresh.cancel k = S.fresh.setO k { o with canc := wrap64 (o.canc + o.opn), opn := 0 } := by unfold RS.cancel; rw [show nthO S.fresh.l k = o from hoo]
    rw [e]
    exact StN.ofFresh (unhide HS) q1 ⟨m.fresh, p3, fun b hb => .inl hb, q2.trans q3⟩
  have HB := hide b1
  have HW1 := hide hW1
  simp only [zero5] at HW1
  clear p1 q1 b1 HO hlv hg212 hcl hcl' hf hoo hkl hN hW1
  go_enter Tryz.func138, Tryz.ntmps138
  go_wp2_with fail
  rw [← unhide HW1]
  refine (unhide HC).mono ?_
  rintro e w3 ⟨rfl, hw3⟩
  rw [hw3]
  clear hw3 w3
  go_wp2
  go_region
  go_wp2
  refine bodyPost_ret (res138 _ (w.heap.size + 1) _ 0 0 0 0 0 0 rfl rfl ?_) rfl ⟨rfl, ?_⟩
  · exact (set5 (((unhide HB).other (a := ⟨g, k * 13 + 10, none⟩) gr _).other (a := ⟨g, k * 13 + 8, none⟩) gr _) _ _ _ _ _).drew
  · exact ((unhide HST).off (((unhide HB).other (a := ⟨g, k * 13 + 10, none⟩) gr _).other (a := ⟨g, k * 13 + 8, none⟩) gr _) (by omega) (chg5 _ _ _ _ _)).ext (Chg.refl _ _).drew

end Go.Proofs.YtigaphnafnpfnaaGreatDoor

