import Derived.Test.YtigaphnafnpfnaaGreatDoorPVX10
set_option linter.unusedVariables false
set_option linter.unusedSimpArgs false
namespace Go.Proofs.YtigaphnafnpfnaaGreatDoor
open Go.RowKit
attribute [local go_sem ↓] Go.wp_at_zero Go.wp_at_succ

/-- an act, as the document's answer keeps it -/
structure RAct where
  kind : Int
  s : ByteArray
  o : Ask
  a : Int
  b : Int
  c : Int
  again : Bool

def RAct.cells (x : RAct) : Array Value := #[.int .u8 x.kind, .string x.s, .int .i64 x.o.id, .int .i64 x.o.owner, .string x.o.sym, .int .i64 x.o.side, .int .i64 x.o.kind, .int .i64 x.o.price, .int .i64 x.o.qty, .int .i64 x.a, .int .i64 x.b, .int .i64 x.c, .bool x.again]
def RAct.val (x : RAct) : Value := .agg x.cells

def zeroR : Value := .agg zero5

theorem res170 (tmps : Array Value) (H : Nat) (w : World) (a b c d e E : Int) (ht : tmps.getD 4 undef = .pointer (some ⟨H, 0, none⟩)) (hu : tmps.getD 5 undef = .int .i64 E) (hb : Blk w H #[.int .i64 a, .int .i64 b, .int .i64 c, .int .i64 d, .int .i64 e] 87) :
    (results Tryz.f170 tmps).run Tryz.prog w = .ok (.tuple #[repV a b c d e, .int .i64 E]) w := by
  have c0 : w.cell? ⟨H, 0, none⟩ = some (.int .i64 a) := hb.cell 0
  have c1 : w.cell? ⟨H, 1, none⟩ = some (.int .i64 b) := hb.cell 1
  have c2 : w.cell? ⟨H, 2, none⟩ = some (.int .i64 c) := hb.cell 2
  have c3 : w.cell? ⟨H, 3, none⟩ = some (.int .i64 d) := hb.cell 3
  have c4 : w.cell? ⟨H, 4, none⟩ = some (.int .i64 e) := hb.cell 4
  simp only [Array.getD_eq_getD_getElem?] at ht hu
  simp [results, Tryz.results170, go_sem, ht, hu, c0, c1, c2, c3, c4, repV]

set_option maxHeartbeats 2000000 in
theorem rreplace_err (base sb : Nat) (S : RS) (m : SM) (x : RAct) (w : World) (h : StV w base sb S m) (hlen : S.l.length ≤ 1000) (he : openE S.l x.a ≠ 0) :
    Calls Tryz.prog 170 #[.pointer (some ⟨sb, 0, none⟩), x.val] w fun e w' => e = .returned (.tuple #[repV 0 0 0 0 0, .int .i64 (openE S.l x.a)]) ∧ Chg Non w w' := by
  have HO : Hid (∀ W, Chg Non w W → Calls Tryz.prog 169 #[.pointer (some ⟨sb, 0, none⟩), .int .i64 x.a] W fun e w' => e = .returned (.tuple #[.int .i64 (oi (ordX S.l x.a)), .int .i64 (openE S.l x.a)]) ∧ w' = W) := fun W k => ropen_any base sb S m x.a W (h.kept0 k) hlen
  obtain ⟨E, hE⟩ : ∃ E, openE S.l x.a = E := ⟨_, rfl⟩
  rw [hE] at HO he ⊢
  have e0 : (E == 0) = false := by simpa using he
  have lsb := h.blk.lt
  clear h hE he hlen
  obtain ⟨kind, s, ⟨id, owner, sym, side, okind, price, qty⟩, a, b, c, again⟩ := x
  simp only [RAct.val, RAct.cells] at HO ⊢
  go_enter Tryz.func170, Tryz.ntmps170
  go_wp2_with (first | (go_at_call 169; refine (unhide HO _ ?cc).mono ?_; (case cc => exact ((Chg.refl _ _).alloc _).alloc _); rintro e w' ⟨rfl, rfl⟩))
  refine bodyPost_ret (res170 _ (w.heap.size + 1) _ 0 0 0 0 0 E rfl rfl ?_) rfl ⟨rfl, ?_⟩
  · exact Blk.new1 w _ _ 87
  · exact ((Chg.refl _ _).alloc _).alloc _

set_option maxHeartbeats 2000000 in
theorem rreplace_range (base sb : Nat) (S : RS) (m : SM) (x : RAct) (w : World) (h : StV w base sb S m) (hlen : S.l.length ≤ 1000) (he : openE S.l x.a = 0) (hr : numB x.b = false ∨ numB x.c = false) :
    Calls Tryz.prog 170 #[.pointer (some ⟨sb, 0, none⟩), x.val] w fun e w' => e = .returned (.tuple #[repV 0 0 0 0 0, .int .i64 4]) ∧ Chg Non w w' := by
  have HO : Hid (∀ W, Chg Non w W → Calls Tryz.prog 169 #[.pointer (some ⟨sb, 0, none⟩), .int .i64 x.a] W fun e w' => e = .returned (.tuple #[.int .i64 (oi (ordX S.l x.a)), .int .i64 0]) ∧ w' = W) := fun W k => by
    have := ropen_any base sb S m x.a W (h.kept0 k) hlen
    rw [he] at this
    exact this
  have HN : Hid (∀ n w, Calls Tryz.prog 198 #[.int .i64 n] w fun e w' => e = .returned (.bool (numB n)) ∧ w' = w) := rnumber_any
  have lsb := h.blk.lt
  have hr' : numB x.b = false ∨ (numB x.b = true ∧ numB x.c = false) := by
    cases h1 : numB x.b
    · exact .inl rfl
    · right; rw [h1] at hr; simpa using hr
  clear h he hlen hr
  obtain ⟨kind, s, ⟨id, owner, sym, side, okind, price, qty⟩, a, b, c, again⟩ := x
  simp only [RAct.val, RAct.cells] at HO hr' ⊢
  rcases hr' with r1 | ⟨r1, r2⟩
  all_goals
    go_enter Tryz.func170, Tryz.ntmps170
    go_wp2_with (first
      | (go_at_call 169; refine (unhide HO _ ?cc).mono ?_; (case cc => exact ((Chg.refl _ _).alloc _).alloc _); rintro e w' ⟨rfl, rfl⟩)
      | (go_at_call 198; refine (unhide HN _ _).mono ?_; rintro e w' ⟨rfl, rfl⟩))
    refine bodyPost_ret (res170 _ (w.heap.size + 1) _ 0 0 0 0 0 4 rfl rfl ?_) rfl ⟨rfl, ?_⟩
    · exact Blk.new1 w _ _ 87
    · exact ((Chg.refl _ _).alloc _).alloc _

/-- a report beside a state is written -/
theorem StN.off {base sb : Nat} {S' : RS} {m : SM} {w W1 W2 : World} (h : StN base sb S' m w W1) {r : Nat} {c : Array Value} (hb : Blk W1 r c 87) (hr : w.heap.size ≤ r) (k : Chg (fun b => b = r) W1 W2) : StN base sb S' m w W2 := by
  obtain ⟨m', p, q, kk⟩ := h
  have nb : ∀ b, SF sb m' b → ¬ b = r := fun b hb' e => by subst e; exact p.ne hb (by decide) hb'
  have hr' : ∀ {e size n : Nat} {v : Value} {xs : List Value}, W1.ownsRow base e size v n xs → (∀ b, v.ownBlock = some b → SF sb m' b) → W2.ownsRow base e size v n xs := fun r hs => own_kept r k (fun b hb => nb b (hs b hb))
  exact ⟨m', ⟨p.ge, k.blk p.blk (nb _ (.inl rfl)), hr' p.yrow (fun b hb => .inr (.inl hb)), hr' p.lrow (fun b hb => .inr (.inr (.inl hb))), hr' p.trow (fun b hb => .inr (.inr (.inr (.inl hb)))), hr' p.orow (fun b hb => .inr (.inr (.inr (.inr hb))))⟩, q, kk.from (k.mono (fun b hb => .inr (by omega)))⟩

/-- the five numbers of a report -/
theorem chg5 {W : World} {r : Nat} (a b c d e : Value) : Chg (fun x => x = r) W (((((W.setCell ⟨r, 0, none⟩ a).setCell ⟨r, 1, none⟩ b).setCell ⟨r, 2, none⟩ c).setCell ⟨r, 3, none⟩ d).setCell ⟨r, 4, none⟩ e) :=
  (((((Chg.refl (fun x => x = r) W).setCell (p := ⟨r, 0, none⟩) (.inl rfl) _).setCell (p := ⟨r, 1, none⟩) (.inl rfl) _).setCell (p := ⟨r, 2, none⟩) (.inl rfl) _).setCell (p := ⟨r, 3, none⟩) (.inl rfl) _).setCell (p := ⟨r, 4, none⟩) (.inl rfl) _
theorem set5 {W : World} {r : Nat} (h : Blk W r zero5 87) (a b c d e : Value) : Blk (((((W.setCell ⟨r, 0, none⟩ a).setCell ⟨r, 1, none⟩ b).setCell ⟨r, 2, none⟩ c).setCell ⟨r, 3, none⟩ d).setCell ⟨r, 4, none⟩ e) r #[a, b, c, d, e] 87 := ((((h.set 0 _).set 1 _).set 2 _).set 3 _).set 4 _

/-- the order, where it keeps its place -/
def repK (o : Ord) (c : Int) : Ord := { o with entered := wrap64 (wrap64 (o.entered + c) - o.opn), opn := c }
def repA (o : Ord) (b c : Int) : Ord := { o with entered := wrap64 (wrap64 (o.entered + c) - o.opn), opn := 0, price := b }

set_option maxRecDepth 100000 in
set_option maxHeartbeats 4000000 in
theorem rreplace_keep (base sb k : Nat) (S : RS) (m : SM) (x : RAct) (w : World) (h : StV w base sb S m) (hlen : S.l.length ≤ 1000) (hk : ordX S.l x.a = some k) (ho : (nthO S.l k).opn ≠ 0) (hb : numB x.b = true) (hc : numB x.c = true) (hp : x.b = (nthO S.l k).price) (hq : x.c ≤ (nthO S.l k).opn) :
    Calls Tryz.prog 170 #[.pointer (some ⟨sb, 0, none⟩), x.val] w fun e w' => e = .returned (.tuple #[repV 0 x.c 0 0 0, .int .i64 0]) ∧ StN base sb (S.setO k (repK (nthO S.l k) x.c)) m w w' := by
  have he : openE S.l x.a = 0 := by unfold openE; rw [hk]; simp [ho]
  have HO : Hid (∀ W, Chg Non w W → Calls Tryz.prog 169 #[.pointer (some ⟨sb, 0, none⟩), .int .i64 x.a] W fun e w' => e = .returned (.tuple #[.int .i64 (k : Int), .int .i64 0]) ∧ w' = W) := fun W kk => by
    have := ropen_any base sb S m x.a W (h.kept0 kk) hlen
    rw [he, hk] at this
    exact this
  have HN : Hid (∀ n w, Calls Tryz.prog 198 #[.int .i64 n] w fun e w' => e = .returned (.bool (numB n)) ∧ w' = w) := rnumber_any
  obtain ⟨N, hN⟩ : ∃ N, S.l.length = N := ⟨_, rfl⟩
  have hkl := (ordX_lt hk).1
  have hkN : k < N := by rw [← hN]; exact hkl
  obtain ⟨g, cc, v1, hlv, hsg, lg, hg212, hcl, hf⟩ := h.see hN (by omega)
  have y5 : w.cell? ⟨g, k * 13 + 5, none⟩ = some (.int .i64 (nthO S.l k).price) := hcl k hkN 5 _ rfl
  have y7 : w.cell? ⟨g, k * 13 + 7, none⟩ = some (.int .i64 (nthO S.l k).entered) := hcl k hkN 7 _ rfl
  have y8 : w.cell? ⟨g, k * 13 + 8, none⟩ = some (.int .i64 (nthO S.l k).opn) := hcl k hkN 8 _ rfl
  have f7 := hf (k * 13 + 7)
  have f8 := hf (k * 13 + 8)
  have lsb := h.blk.lt
  have n1 : ¬ k * 13 + 8 = k * 13 + 7 := by omega
  have gz : g ≠ w.heap.size := by omega
  have gr : g ≠ w.heap.size + 1 := by omega
  have gz' := gz.symm
  have gr' := gr.symm
  have lg1 : g < w.heap.size + 1 := by omega
  have lsb1 : sb < w.heap.size + 1 := by omega
  have hlN : N ≤ 1000 := by omega
  obtain ⟨o, hoo⟩ : ∃ o, nthO S.l k = o := ⟨_, rfl⟩
  have HST : Hid (∀ W, Chg Non w W → StN base sb (S.setO k (repK o x.c)) m w ((W.setCell ⟨g, k * 13 + 7, none⟩ (.int .i64 (wrap64 (wrap64 (o.entered + x.c) - o.opn)))).setCell ⟨g, k * 13 + 8, none⟩ (.int .i64 x.c))) := by
    intro W kW
    obtain ⟨p1, q1⟩ := (h.kept0 kW).setOrd hlv hkl (j := 7) (by omega) (.int .i64 (wrap64 (wrap64 (o.entered + x.c) - o.opn))) { o with entered := wrap64 (wrap64 (o.entered + x.c) - o.opn) } (by rw [hoo]; rfl)
    obtain ⟨p2, q2⟩ := p1.setOrd (i := k) (by simp only [List.length_set]; exact hlv) (by simp only [List.length_set]; exact hkl) (j := 8) (by omega) (.int .i64 x.c) (repK o x.c) (by simp only; rw [nthO_set_same hkl]; rfl)
    simp only [List.set_set] at p2
    exact ⟨m, p2, fun b hb => .inl hb, (kW.of_non.trans q1).trans q2⟩
  have HS := hide h
  have HLV := hide hlv
  have HKL := hide hkl
  rw [hoo] at y5 y7 y8 hp hq ⊢
  have HOO := hide hoo
  obtain ⟨kind, s, ⟨id, owner, sym, side, okind, price, qty⟩, a, b, c, again⟩ := x
  simp only [RAct.val, RAct.cells] at HO hb hc hp hq HST ⊢
  have e1 : (b == o.price) = true := by simp [hp]
  have e2 : decide (c ≤ o.opn) = true := by simpa using hq
  clear h hk ho he hN hkl hlv hg212 hcl hf hp hq hoo hlen
  go_enter Tryz.func170, Tryz.ntmps170
  go_wp2_with (first
    | (go_at_call 169; refine (unhide HO _ ?cc).mono ?_; (case cc => exact ((Chg.refl _ _).alloc _).alloc _); rintro e w' ⟨rfl, rfl⟩)
    | (go_at_call 198; refine (unhide HN _ _).mono ?_; rintro e w' ⟨rfl, rfl⟩))
  go_quiet (fail)
  go_wp2
  go_region
  go_wp2
  have bz : Blk (((((w.alloc (.cells #[.int .u8 kind, .string s, .int .i64 id, .int .i64 owner, .string sym, .int .i64 side, .int .i64 okind, .int .i64 price, .int .i64 qty, .int .i64 a, .int .i64 b, .int .i64 c, .bool again] 169)).alloc (.cells zero5 87)).drewN (nq + 1)).setCell ⟨g, k * 13 + 7, none⟩ (.int .i64 (wrap64 (wrap64 (o.entered + c) - o.opn)))).setCell ⟨g, k * 13 + 8, none⟩ (.int .i64 c)) (w.heap.size + 1) zero5 87 :=
    (((Blk.new1 w _ zero5 87).drewN _).other (a := ⟨g, k * 13 + 7, none⟩) gr' _).other (a := ⟨g, k * 13 + 8, none⟩) gr' _
  refine bodyPost_ret (res170 _ (w.heap.size + 1) _ 0 c 0 0 0 0 rfl rfl ?_) rfl ⟨rfl, ?_⟩
  · exact set5 bz _ _ _ _ _
  · exact (unhide HST _ ((((Chg.refl _ _).alloc _).alloc _).drewN _)).off bz (by omega) (chg5 _ _ _ _ _)

end Go.Proofs.YtigaphnafnpfnaaGreatDoor

