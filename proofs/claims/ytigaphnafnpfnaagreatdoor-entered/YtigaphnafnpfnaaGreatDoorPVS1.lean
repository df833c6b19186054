import Derived.Test.YtigaphnafnpfnaaGreatDoorPVQ4
set_option linter.unusedVariables false
set_option linter.unusedSimpArgs false
/- The player's world: a list more, a venue more. -/
namespace Go.Proofs.YtigaphnafnpfnaaGreatDoor
open Go.RowKit Go.Maps

theorem own_base {w : World} {B B' e k : Nat} {v : Value} {n : Nat} {xs : List Value} (h : w.ownsRow B e k v n xs) (hB : B' ≤ B) : w.ownsRow B' e k v n xs :=
  ⟨h.1, h.2.imp_right (fun ⟨g, cap, cs, e1, e2, e3⟩ => ⟨g, cap, cs, e1, Nat.le_trans hB e2, e3⟩)⟩

theorem PW.held {w0 w w1 w3 w' : World} {wb n : Nat} {X : List Pr} {Hs : List Hd} {pv hv hv' v c lv : Value} {sls : List Value} {mk : Int} {N : Nat} (h : PW w0 w wb X Hs pv hv N) (k1 : Chg Non w w1) (kl : KL w.heap.size w1.heap.size mk v w1 c n sls lv w3) (hn : n ≤ 2000) (hsl : sls.length ≤ 100)
    (k3 : Chg (fun b => b = wb ∨ hv.ownBlock = some b) w3 w') (hb : Blk w' wb #[pv, hv'] 78) (hrow : w'.ownsRow 0 133 1 hv' (Hs.length + 1) (Hs.map holdV ++ [.pointer (some ⟨w1.heap.size, 0, none⟩)])) (hnew : ∀ b, hv'.ownBlock = some b → hv.ownBlock = some b ∨ w3.heap.size ≤ b) :
    PW w0 w' wb X (Hs ++ [⟨w1.heap.size, lv, sls, mk⟩]) pv hv' (N + 1) := by
  have wbl := h.blk.lt
  have hvl : ∀ b, hv.ownBlock = some b → b < w.heap.size := fun b e => (h.hrow.lt b e).2
  have pvl : ∀ b, pv.ownBlock = some b → b < w.heap.size := fun b e => (h.prow.lt b e).2
  have s1 := k1.size
  have s3 := kl.chg.size
  have s' := k3.size
  have kk : Chg (fun b => b = wb ∨ hv.ownBlock = some b) w w' := by
    refine Chg.from (Chg.refl _ w) ?_
    refine (k1.of_non.trans (kl.chg.mono (fun b e => ?_))).trans (k3.mono (fun b e => .inl e))
    exact .inr (kl.v0B b e)
  have nf : ∀ b, HdF ⟨w1.heap.size, lv, sls, mk⟩ b → w.heap.size ≤ b ∧ b < w3.heap.size := by
    rintro b (e | e | ⟨y, hy, e⟩)
    · simp only at e; subst e; exact ⟨s1, kl.blk.lt⟩
    · simp only at e; exact ⟨Nat.le_trans s1 (kl.lnew b e), (kl.lrow.lt b e).2⟩
    · exact kl.ownB y hy b e
  have nf3 : ∀ b, HdF ⟨w1.heap.size, lv, sls, mk⟩ b → ¬ (b = wb ∨ hv.ownBlock = some b) := fun b hf e => by
    have := nf b hf
    rcases e with e | e
    · omega
    · have := hvl b e; omega
  have h3 : HdOK w3 ⟨w1.heap.size, lv, sls, mk⟩ := by
    refine ⟨kl.blk, own_base kl.lrow (Nat.zero_le _), fun y hy => ?_, by show sls.length ≤ 1000; omega⟩
    obtain ⟨a, k, cc, e, e1, e2⟩ := kl.each y hy
    exact ⟨a, k, cc, e, by omega, e2⟩
  refine ⟨hb, own_kept h.prow kk (fun b e f => ?_), ?_, fun x hx => ⟨(h.prs x hx).1.kept kk (fun b hf f => ?_), by have := (h.prs x hx).2; omega⟩, h.sep, fun x hx b hf => ?_, fun z hz => ?_, fun z hz b hf => ?_, ?_, ?_, h.tab, by have := h.xl; omega, by have := h.hl; simp; omega⟩
  · rcases f with f | f
    · subst f; obtain ⟨cs, hc⟩ := own_blk h.prow e; exact Blk.ne hc h.blk (by decide) rfl
    · obtain ⟨cs, hc⟩ := own_blk h.prow e
      obtain ⟨cs', hc'⟩ := own_blk h.hrow f
      exact Blk.ne hc hc' (by decide) rfl
  · simpa [holdV] using hrow
  · have := h.own x hx b hf
    rcases f with f | f
    · exact this.2.1 f
    · exact this.2.2.2.1 f
  · obtain ⟨a1, a2, a3, a4, a5⟩ := h.own x hx b hf
    have hlt := (h.prs x hx).1.lt hf
    refine ⟨a1, a2, a3, fun e => ?_, fun z hz hz2 => ?_⟩
    · rcases hnew b e with f | f
      · exact a4 f
      · omega
    · rw [List.mem_append, List.mem_singleton] at hz
      rcases hz with hz | hz
      · exact a5 z hz hz2
      · subst hz; have := nf b hz2; omega
  · rw [List.mem_append, List.mem_singleton] at hz
    rcases hz with hz | hz
    · refine (h.hds z hz).kept kk (fun b hf f => ?_)
      obtain ⟨a1, a2, a3, a4, a5⟩ := h.hown z hz b hf
      rcases f with f | f
      · exact a2 f
      · exact a4 f
    · subst hz; exact h3.kept k3 nf3
  · have sw := h.chg.size
    rw [List.mem_append, List.mem_singleton] at hz
    rcases hz with hz | hz
    · obtain ⟨a1, a2, a3, a4, a5⟩ := h.hown z hz b hf
      refine ⟨a1, a2, a3, fun e => ?_, by omega⟩
      rcases hnew b e with f | f
      · exact a4 f
      · omega
    · subst hz
      have := nf b hf
      refine ⟨by omega, by omega, fun e => ?_, fun e => ?_, by omega⟩
      · have := pvl b e; omega
      · rcases hnew b e with f | f
        · have := hvl b f; omega
        · omega
  · refine ⟨h.ge.1, h.ge.2.1, fun b e => ?_⟩
    rcases hnew b e with f | f
    · exact h.ge.2.2 b f
    · have := h.chg.size; omega
  · refine h.chg.from (kk.mono (fun b e => .inr ?_))
    rcases e with e | e
    · subst e; exact h.ge.1
    · exact h.ge.2.2 b e

theorem PW.born {w0 w w1 w' : World} {wb : Nat} {X : List Pr} {Hs : List Hd} {pv hv pv' : Value} {N : Nat} {x : Pr} (h : PW w0 w wb X Hs pv hv N) (k1 : Chg Non w w1) (px : PrOK w1 x) (xN : x.N ≤ N + 1) (xf : ∀ b, PF x b → w.heap.size ≤ b)
    (k3 : Chg (fun b => b = wb ∨ pv.ownBlock = some b) w1 w') (hb : Blk w' wb #[pv', hv] 78) (hrow : w'.ownsRow 0 131 2 pv' (X.length + 1) (flatP X ++ pairL x)) (hnew : ∀ b, pv'.ownBlock = some b → pv.ownBlock = some b ∨ w1.heap.size ≤ b) :
    PW w0 w' wb (X ++ [x]) Hs pv' hv (N + 1) := by
  have wbl := h.blk.lt
  have hvl : ∀ b, hv.ownBlock = some b → b < w.heap.size := fun b e => (h.hrow.lt b e).2
  have pvl : ∀ b, pv.ownBlock = some b → b < w.heap.size := fun b e => (h.prow.lt b e).2
  have s1 := k1.size
  have s' := k3.size
  have kk : Chg (fun b => b = wb ∨ pv.ownBlock = some b) w w' := k1.of_non.trans k3
  have xl : ∀ b, PF x b → b < w1.heap.size := fun b hf => px.lt hf
  have nfx : ∀ b, PF x b → ¬ (b = wb ∨ pv.ownBlock = some b) := fun b hf e => by
    have := xf b hf
    rcases e with e | e
    · omega
    · have := pvl b e; omega
  refine ⟨hb, ?_, own_kept h.hrow kk (fun b e f => ?_), fun y hy => ?_, ?_, fun y hy b hf => ?_, fun z hz => (h.hds z hz).kept kk (fun b hf f => ?_), fun z hz b hf => ?_, ?_, ?_, h.tab, by have := h.xl; simp; omega, by have := h.hl; omega⟩
  · have : flatP (X ++ [x]) = flatP X ++ pairL x := by simp [flatP]
    rw [this]; simpa using hrow
  · rcases f with f | f
    · subst f; obtain ⟨cs, hc⟩ := own_blk h.hrow e; exact Blk.ne hc h.blk (by decide) rfl
    · obtain ⟨cs, hc⟩ := own_blk h.hrow e
      obtain ⟨cs', hc'⟩ := own_blk h.prow f
      exact Blk.ne hc hc' (by decide) rfl
  · rw [List.mem_append, List.mem_singleton] at hy
    rcases hy with hy | hy
    · refine ⟨(h.prs y hy).1.kept kk (fun b hf f => ?_), by have := (h.prs y hy).2; omega⟩
      have := h.own y hy b hf
      rcases f with f | f
      · exact this.2.1 f
      · exact this.2.2.1 f
    · subst hy; exact ⟨px.kept k3 nfx, xN⟩
  · rw [List.pairwise_append]
    refine ⟨h.sep, List.pairwise_singleton _ _, fun y hy z hz b hf hg => ?_⟩
    rw [List.mem_singleton] at hz
    subst hz
    have := (h.prs y hy).1.lt hf
    have := xf b hg
    omega
  · have sw := h.chg.size
    rw [List.mem_append, List.mem_singleton] at hy
    rcases hy with hy | hy
    · obtain ⟨a1, a2, a3, a4, a5⟩ := h.own y hy b hf
      have hlt := (h.prs y hy).1.lt hf
      refine ⟨a1, a2, fun e => ?_, a4, a5⟩
      rcases hnew b e with f | f
      · exact a3 f
      · omega
    · subst hy
      have h1 := xf b hf
      have h2 := xl b hf
      refine ⟨by omega, by omega, fun e => ?_, fun e => ?_, fun z hz hz2 => ?_⟩
      · rcases hnew b e with f | f
        · have := pvl b f; omega
        · omega
      · have := hvl b e; omega
      · have := (h.hown z hz b hz2).2.2.2.2; omega
  · obtain ⟨a1, a2, a3, a4, a5⟩ := h.hown z hz b hf
    rcases f with f | f
    · exact a2 f
    · exact a3 f
  · obtain ⟨a1, a2, a3, a4, a5⟩ := h.hown z hz b hf
    refine ⟨a1, a2, fun e => ?_, a4, by omega⟩
    rcases hnew b e with f | f
    · exact a3 f
    · omega
  · refine ⟨h.ge.1, fun b e => ?_, h.ge.2.2⟩
    rcases hnew b e with f | f
    · exact h.ge.2.1 b f
    · have := h.chg.size; omega
  · refine h.chg.from (kk.mono (fun b e => .inr ?_))
    rcases e with e | e
    · subst e; exact h.ge.1
    · exact h.ge.2.1 b e

end Go.Proofs.YtigaphnafnpfnaaGreatDoor

set_option linter.unusedVariables false
set_option linter.unusedSimpArgs false
/- venuelaw.begin. -/
namespace Go.Proofs.YtigaphnafnpfnaaGreatDoor
open Go.RowKit Go.Maps
attribute [local go_sem ↓] Go.wp_at_zero Go.wp_at_succ

theorem info131 : (Tryz.prog.info? 131).map (fun i => (i.zero, i.size, i.bytes)) = some (some (.agg #[.pointer none, .pointer none]), 2, 16) := by kernel_rfl

theorem newsP (w : World) (a b : Value) (t : TypeId) : ∀ j u, ([a, b] : List Value)[j]? = some u → (w.alloc (.cells #[a, b] t)).cell? (Addr.add ⟨w.heap.size, 0, none⟩ j) = some u := by
  intro j u hj
  have hb := Blk.new w #[a, b] t
  match j, hj with
  | 0, hj => rw [← hj]; exact hb.cell 0
  | 1, hj => rw [← hj, Addr.add_lit]; exact hb.cell 1
  | j + 2, hj => simp at hj

theorem sim0 : SimV (fun _ => 0) ven0 RS.none 0 := by
  have nl : ∀ x, ¬ VL ven0 x := fun x hx => by obtain ⟨id, h⟩ := hx; simp [ven0] at h
  refine ⟨⟨fun i hi => absurd hi (Nat.not_lt_zero i), fun i j hi => absurd hi (Nat.not_lt_zero i), fun x hx => absurd hx (nl x), fun x hx => absurd hx (nl x), fun x hx => absurd hx (nl x)⟩, rfl, fun i hi => absurd hi (Nat.not_lt_zero i), rfl, fun k hk => absurd hk (Nat.not_lt_zero k), fun id b h => by simp [ven0] at h, fun a b ha => absurd ha (Nat.not_lt_zero a), fun k hk => absurd hk (Nat.not_lt_zero k), fun a b ha => absurd ha (Nat.not_lt_zero a), fun a b ha => absurd ha (Nat.not_lt_zero a), fun k hk => absurd hk (Nat.not_lt_zero k), fun k hk => absurd hk (Nat.not_lt_zero k), fun i hi => absurd hi (Nat.not_lt_zero i), ⟨Int.le_refl _, Int.le_refl _⟩, rfl, rfl, Nat.le_refl _, Nat.le_refl _, Nat.le_refl _, Nat.zero_le _, Nat.zero_le _, fun k hk => absurd hk (Nat.not_lt_zero k)⟩

def pr0 (bv bm bo rb : Nat) : Pr := ⟨bv, bm, bo, rb, ven0, [], [], ⟨#[]⟩, .slice none 0 0, .slice none 0 0, fun _ => 0, RS.none, 0⟩

theorem pf0 {bv bm bo rb b : Nat} (h : PF (pr0 bv bm bo rb) b) : b = bv ∨ b = bm ∨ b = bo ∨ b = rb := by
  rcases h with h | h
  · rcases h with h | h | h | ⟨i, hi, _⟩ | ⟨id, h⟩ | h
    · exact .inl h
    · exact .inr (.inl h)
    · exact .inr (.inr (.inl h))
    · exact absurd hi (Nat.not_lt_zero i)
    · simp [pr0, ven0] at h
    · exfalso
      simp [pr0, ven0, Lm.F, ActF, Value.ownBlock] at h
  · rcases h with h | h | h
    · exact .inr (.inr (.inr h))
    · simp [pr0, Value.ownBlock] at h
    · simp [pr0, Value.ownBlock] at h

theorem prOK0 {w w1 : World} {bv bm bo : Nat} (R : Rep w bv bm bo ven0) (k : Chg Non w w1) (hb : Blk w1 w.heap.size #[.slice none 0 0, .slice none 0 0, .string ⟨#[]⟩] 129) : PrOK w1 (pr0 bv bm bo w.heap.size) := by
  refine ⟨R.kept0 k, ⟨Nat.zero_le _, hb, World.ownsRow_nil _ _ _ _, World.ownsRow_nil _ _ _ _⟩, sim0, Hist.nil, fun b hf hr => ?_, Nat.le_refl _, rfl, Nat.le_refl _, fun i hi => absurd hi (Nat.not_lt_zero i)⟩
  have := R.foot_lt hf
  rcases hr with h | h | h
  · simp only [pr0] at h; omega
  · simp [pr0, Value.ownBlock] at h
  · simp [pr0, Value.ownBlock] at h

/-- what has become of the player's world -/
def PWN (w0 : World) (wb N : Nat) (w' : World) : Prop := ∃ X Hs pv hv, PW w0 w' wb X Hs pv hv N ∧ 0 < X.length

set_option maxRecDepth 100000 in
set_option maxHeartbeats 4000000 in
theorem law_begin {w0 w : World} {wb : Nat} {X : List Pr} {Hs : List Hd} {pv hv : Value} {N : Nat} (h : PW w0 w wb X Hs pv hv N) (hN : N ≤ 2000000) : Calls Tryz.prog 31 #[.pointer (some ⟨wb, 0, none⟩)] w fun e w' => e = .returned (.bool true) ∧ PWN w0 wb (N + 1) w' := by
  have hxl := h.xl
  have H := hide h
  have HN := hide (new_any w)
  clear h
  go_enter Tryz.func31, Tryz.ntmps31
  go_wp2_with fail
  refine (unhide HN).mono ?_
  rintro e w1 ⟨bv, bm, bo, rfl, R, k1, g1, g2, g3⟩
  obtain ⟨pa, pc, hpv⟩ := row_slice (unhide H).prow
  subst hpv
  have h1 := (unhide H).kept0 k1
  have b1 := h1.blk
  have v0 : w1.cell? ⟨wb, 0, none⟩ = some (.slice pa X.length pc) := b1.cell 0
  have lwb := b1.lt
  obtain ⟨w2, hw2⟩ : ∃ w2, w2 = w1.alloc (.cells #[.slice none 0 0, .slice none 0 0, .string ⟨#[]⟩] 129) := ⟨_, rfl⟩
  have k2 : Chg Non w1 w2 := by rw [hw2]; exact (Chg.refl Non w1).alloc _
  have b2 : Blk w2 w1.heap.size #[.slice none 0 0, .slice none 0 0, .string ⟨#[]⟩] 129 := by rw [hw2]; exact Blk.new _ _ _
  have px := prOK0 R k2 b2
  have HPX := hide px
  have HK1 := hide k1
  have HK2 := hide k2
  have HB1 := hide b1
  have h2 := h1.kept0 k2
  have HP2 := hide h2.prow
  have HH2 := hide h2
  obtain ⟨i0, hi0, hz0, hz1, hz2⟩ := info_parts info131
  have hm1 : X.length + 1 ≤ maxLen := by unfold maxLen; omega
  have HW2 := hide hw2
  have v02 : w2.cell? ⟨wb, 0, none⟩ = some (.slice pa X.length pc) := k2.cell v0 (fun z => z)
  have s2 : w2.heap.size = w1.heap.size + 1 := by rw [hw2]; simp
  have HR := hide R
  have HS2 := hide s2
  clear k1 k2 b1 b2 px h1 h2 R HN s2 hw2
  go_wp2_with (at_builtin; rw [← unhide HW2]; refine wpList_append_lies _ rfl _ _ 75 rfl 0 131 i0 (.agg #[.pointer none, .pointer none]) 2 16 Tryz.underlying75 hi0 hz0 hz1 hz2 rfl (by decide) (.slice pa X.length pc) X.length (flatP X) rfl (own_kept (unhide HP2) ((Chg.refl Non w2).alloc _) (fun _ _ z => z)) ⟨w1.heap.size + 1, 0, none⟩ 1 1 [.pointer (some ⟨bv, 0, none⟩), .pointer (some ⟨w1.heap.size, 0, none⟩)] rfl rfl (by have := newsP w2 (.pointer (some ⟨bv, 0, none⟩)) (.pointer (some ⟨w1.heap.size, 0, none⟩)) 131; rw [unhide HS2] at this; exact this) (by simp [Value.oneCell']) (by omega) hm1 (by omega) (by omega) (w2.heap.size + 1) (by simp) ?_; intro ga gc w5 hown' hgrow hat hlt2; have b5 : Blk w5 wb _ 78 := (((Chg.refl (fun b => (Value.slice pa X.length pc).ownBlock = some b) w2).alloc _).grown hgrow (fun k e => .inl e)).blk (unhide HH2).blk (fun e => by obtain ⟨cs, hc⟩ := own_blk (unhide HP2) e; exact Blk.ne hc (unhide HH2).blk (by decide) rfl); have c50 := b5.cell 0; have f50 := b5.frozen 0; have l50 := b5.lt; simp at c50; have HB5 := hide b5; have HO5 := hide hown'; have HG5 := hide hgrow; have HA5 := hide hat; clear b5 hown' hgrow hat v0 v02)
  go_ret
  have k5 : Chg (fun b => (Value.slice pa X.length pc).ownBlock = some b) w2 w5 := ((Chg.refl (fun b => (Value.slice pa X.length pc).ownBlock = some b) w2).alloc _).grown (unhide HG5) (fun k e => .inl e)
  have k6 : Chg (fun b => b = wb) w5 (w5.setCell ⟨wb, 0, none⟩ (.slice (some ⟨ga, 0, none⟩) (X.length + 1) gc)) := (Chg.refl (fun b => b = wb) w5).setCell (p := ⟨wb, 0, none⟩) (.inl rfl) _
  refine ⟨rfl, X ++ [pr0 bv bm bo w1.heap.size], Hs, .slice (some ⟨ga, 0, none⟩) (X.length + 1) gc, hv, ?_, by simp⟩
  refine (unhide H).born ((unhide HK1).trans (unhide HK2)) (unhide HPX) (Nat.zero_le _) (fun b hf => ?_) ((k5.mono (fun b h => .inr h)).trans (k6.mono (fun b h => .inl h))) ((unhide HB5).set 0 _) ?_ (fun b hb => ?_)
  · have := (unhide HK1).size
    rcases pf0 hf with e | e | e | e <;> omega
  · exact own_typ (t := 0) (unhide HO5) k6 (fun b hb2 => by subst hb2; exact ⟨_, _, unhide HB5, by decide⟩)
  · simp only [Value.ownBlock, Option.some.injEq] at hb
    rcases unhide HA5 with e | e
    · left; rw [e, hb]
    · right; omega

end Go.Proofs.YtigaphnafnpfnaaGreatDoor

set_option linter.unusedVariables false
set_option linter.unusedSimpArgs false
/- venuelaw.asks: Status. -/
namespace Go.Proofs.YtigaphnafnpfnaaGreatDoor
open Go.RowKit Go.Maps
attribute [local go_sem ↓] Go.wp_at_zero Go.wp_at_succ

theorem pr_status2 {x : Pr} {w : World} (h : PrOK w x) (hN : x.N < 2000000) (id : Int) (hwf : (Lit.int .i64 id).wf = true) : ∃ (o : Ord) (E : Int), (∀ W, Chg Non w W → Calls Tryz.prog 26 #[.pointer (some ⟨x.bv, 0, none⟩), .int .i64 id] W fun e w' => e = .returned (.tuple #[.agg (statC o), .int .i64 E]) ∧ Chg Non W w') ∧ (∀ W, Chg Non w W → Calls Tryz.prog 101 #[.pointer (some ⟨x.rb, 0, none⟩), .int .i64 id] W fun e w' => e = .returned (.tuple #[.agg (statC o), .int .i64 E]) ∧ Chg Non W w') := by
  have hlen : x.S.l.length ≤ 1000 := by have := h.sim.no; have := h.sim.no200; omega
  have hA := h.aN
  have hf := h.sim.found id
  cases hx : ordX x.S.l id with
  | none =>
    rw [hx] at hf
    exact ⟨⟨0, 0, ⟨#[]⟩, 0, 0, 0, 0, 0, 0, 0, 0, 0, 0⟩, 6, fun W k => status_none x.bv x.bm x.bo x.V id W (h.rep.kept0 k) hwf hf, fun W k => rstatus_none 0 x.rb x.A x.R x.L x.av x.rv x.S id W (h.doc.kept0 k) h.hist (by omega) hlen hx⟩
  | some j =>
    rw [hx] at hf
    have hj := (ordX_lt hx).1
    obtain ⟨e1, e2, e3, e4, e5, e6, e7, e8, e9, e10, e11, e12⟩ := noP_f (h.sim.same j hj)
    have hst : statC (x.V.om (x.p j)) = statC (nthO x.S.l j) := by simp only [statC, e1, e2, e3, e4, e5, e6, e7, e8, e9, e10, e11, e12]
    refine ⟨nthO x.S.l j, 0, fun W k => ?_, fun W k => rstatus_some 0 x.rb j x.A x.R x.L x.av x.rv x.S id W (h.doc.kept0 k) h.hist (by omega) hlen hx⟩
    rw [← hst]
    refine status_some x.bv x.bm x.bo (x.p j) x.V id W (h.rep.kept0 k) hwf hf ?_
    obtain ⟨i, hi, e⟩ := h.sim.gw.sym (x.p j) ⟨id, hf⟩
    rw [e]
    have := h.sz i hi
    omega

set_option maxRecDepth 100000 in
set_option maxHeartbeats 8000000 in
theorem asks_status (x : Pr) (o : Opx) (wv : Value) (w : World) (h : PrOK w x) (hN : x.N < 2000000) (hk : o.kind = 6) (hO : OpOK o) :
    Calls Tryz.prog 61 #[wv, .agg #[.pointer (some ⟨x.bv, 0, none⟩), .pointer (some ⟨x.rb, 0, none⟩)], o.val] w fun e w' => e = .returned (.bool true) ∧ Chg Non w w' := by
  obtain ⟨kind, m, a, b, c, s, ⟨id, owner, sym, side, okind, price, qty⟩⟩ := o
  simp only at hk
  subst hk
  obtain ⟨st, E, H1, H2⟩ := pr_status2 h hN a (i64_wf hO.a)
  obtain ⟨s0, s1, s2, s3, s4, s5, s6, s7, s8, s9, s10, s11, s12⟩ := st
  simp only [statC] at H1 H2
  obtain ⟨W1, hW1⟩ : ∃ W1, W1 = ((w.alloc (.cells #[.pointer (some ⟨x.bv, 0, none⟩), .pointer (some ⟨x.rb, 0, none⟩)] 131)).alloc (.cells #[.int .i64 6, .int .i64 m, .int .i64 a, .int .i64 b, .int .i64 c, .string s, .int .i64 id, .int .i64 owner, .string sym, .int .i64 side, .int .i64 okind, .int .i64 price, .int .i64 qty] 81)) := ⟨_, rfl⟩
  have k1 : Chg Non w W1 := by rw [hW1]; exact ((Chg.refl Non w).alloc _).alloc _
  have bp1 : Blk W1 w.heap.size #[.pointer (some ⟨x.bv, 0, none⟩), .pointer (some ⟨x.rb, 0, none⟩)] 131 := by rw [hW1]; exact (Blk.new w _ _).alloc _
  have bo1 : Blk W1 (w.heap.size + 1) #[.int .i64 6, .int .i64 m, .int .i64 a, .int .i64 b, .int .i64 c, .string s, .int .i64 id, .int .i64 owner, .string sym, .int .i64 side, .int .i64 okind, .int .i64 price, .int .i64 qty] 81 := by rw [hW1]; exact Blk.new1 w _ _ _
  have HC1 := hide (H1 W1 k1)
  have HC2 := hide H2
  have HBP := hide bp1
  have HBO := hide bo1
  have HK1 := hide k1
  have HW1 := hide hW1
  simp only [Opx.val, Opx.cells]
  clear h hO k1 bp1 bo1 hW1 H1 H2
  go_enter Tryz.func61, Tryz.ntmps61
  go_wp2_with fail
  rw [← unhide HW1]
  refine (unhide HC1).mono ?_
  rintro e w2 ⟨rfl, k2⟩
  have bp2 := k2.blk (unhide HBP) (fun z => z)
  have bo2 := k2.blk (unhide HBO) (fun z => z)
  have q1 : w2.cell? ⟨w.heap.size, 1, none⟩ = some (.pointer (some ⟨x.rb, 0, none⟩)) := bp2.cell 1
  have o2 : w2.cell? ⟨w.heap.size + 1, 2, none⟩ = some (.int .i64 a) := bo2.cell 2
  have lp := bp2.lt
  have lo := bo2.lt
  have HK2 := hide k2
  clear k2 bp2 bo2 HC1
  go_wp2_with fail
  have k3 : Chg Non w2 (w2.alloc (.cells #[.int .i64 s0, .int .i64 s1, .string s2, .int .i64 s3, .int .i64 s4, .int .i64 s5, .int .i64 s6, .int .i64 s7, .int .i64 s8, .int .i64 s9, .int .i64 s10, .int .i64 s11] 54)) := (Chg.refl Non w2).alloc _
  refine (unhide HC2 _ (((unhide HK1).trans (unhide HK2)).trans k3)).mono ?_
  rintro e w4 ⟨rfl, k4⟩
  have bs := k4.blk (Blk.new w2 _ _) (fun z => z)
  have d0 : w4.cell? ⟨w2.heap.size, 0, none⟩ = some (.int .i64 s0) := bs.cell 0
  have d1 : w4.cell? ⟨w2.heap.size, 1, none⟩ = some (.int .i64 s1) := bs.cell 1
  have d2 : w4.cell? ⟨w2.heap.size, 2, none⟩ = some (.string s2) := bs.cell 2
  have d3 : w4.cell? ⟨w2.heap.size, 3, none⟩ = some (.int .i64 s3) := bs.cell 3
  have d4 : w4.cell? ⟨w2.heap.size, 4, none⟩ = some (.int .i64 s4) := bs.cell 4
  have d5 : w4.cell? ⟨w2.heap.size, 5, none⟩ = some (.int .i64 s5) := bs.cell 5
  have d6 : w4.cell? ⟨w2.heap.size, 6, none⟩ = some (.int .i64 s6) := bs.cell 6
  have d7 : w4.cell? ⟨w2.heap.size, 7, none⟩ = some (.int .i64 s7) := bs.cell 7
  have d8 : w4.cell? ⟨w2.heap.size, 8, none⟩ = some (.int .i64 s8) := bs.cell 8
  have d9 : w4.cell? ⟨w2.heap.size, 9, none⟩ = some (.int .i64 s9) := bs.cell 9
  have d10 : w4.cell? ⟨w2.heap.size, 10, none⟩ = some (.int .i64 s10) := bs.cell 10
  have d11 : w4.cell? ⟨w2.heap.size, 11, none⟩ = some (.int .i64 s11) := bs.cell 11
  have ls := bs.lt
  have HK4 := hide (((unhide HK1).trans (unhide HK2)).trans (k3.trans k4))
  clear k3 k4 bs q1 o2 lp lo HC2 HBP HBO
  go_wp2
  go_ret
  exact ⟨by first | rfl | simp, (unhide HK4).trans ((Chg.refl Non w4).alloc _)⟩

end Go.Proofs.YtigaphnafnpfnaaGreatDoor

set_option linter.unusedVariables false
set_option linter.unusedSimpArgs false
/- venuelaw.asks: Book. -/
namespace Go.Proofs.YtigaphnafnpfnaaGreatDoor
open Go.RowKit Go.Maps
attribute [local go_sem ↓] Go.wp_at_zero Go.wp_at_succ

theorem BookIs.len {S : RS} {sym : ByteArray} {side : Int} {ls : List Lvl} {E : Int} (h : BookIs S sym side ls E) : ls.length ≤ 200 := by
  rcases h with ⟨_, rfl, _⟩ | ⟨_, rfl, _⟩ | ⟨_, _, _, _, h⟩
  · simp
  · simp
  · exact h

set_option maxRecDepth 100000 in
set_option maxHeartbeats 8000000 in
theorem asks_book {w0 w : World} {wb : Nat} {X : List Pr} {Hs : List Hd} {pv hv : Value} {N : Nat} (h : PW w0 w wb X Hs pv hv N) (x : Pr) (hx : x ∈ X) (hN : N < 2000000) (o : Opx) (hk : o.kind = 7) (hO : OpOK o) :
    Calls Tryz.prog 61 #[.pointer (some ⟨wb, 0, none⟩), .agg #[.pointer (some ⟨x.bv, 0, none⟩), .pointer (some ⟨x.rb, 0, none⟩)], o.val] w fun e w' => e = .returned (.bool true) ∧ PWN w0 wb (N + 1) w' := by
  obtain ⟨kind, m, a, b, c, s, ⟨id, owner, sym, side, okind, price, qty⟩⟩ := o
  simp only at hk
  subst hk
  have hs : s.size ≤ 1000000000 := by have := hO.s; simp only at this; omega
  have hx0 : 0 < X.length := List.length_pos_of_mem hx
  obtain ⟨W1, hW1⟩ : ∃ W1, W1 = ((w.alloc (.cells #[.pointer (some ⟨x.bv, 0, none⟩), .pointer (some ⟨x.rb, 0, none⟩)] 131)).alloc (.cells #[.int .i64 7, .int .i64 m, .int .i64 a, .int .i64 b, .int .i64 c, .string s, .int .i64 id, .int .i64 owner, .string sym, .int .i64 side, .int .i64 okind, .int .i64 price, .int .i64 qty] 81)) := ⟨_, rfl⟩
  have k1 : Chg Non w W1 := by rw [hW1]; exact ((Chg.refl Non w).alloc _).alloc _
  have bp1 : Blk W1 w.heap.size #[.pointer (some ⟨x.bv, 0, none⟩), .pointer (some ⟨x.rb, 0, none⟩)] 131 := by rw [hW1]; exact (Blk.new w _ _).alloc _
  have bo1 : Blk W1 (w.heap.size + 1) #[.int .i64 7, .int .i64 m, .int .i64 a, .int .i64 b, .int .i64 c, .string s, .int .i64 id, .int .i64 owner, .string sym, .int .i64 side, .int .i64 okind, .int .i64 price, .int .i64 qty] 81 := by rw [hW1]; exact Blk.new1 w _ _ _
  have h1 := h.kept0 k1
  have p1 := (h1.prs x hx)
  have HC1 := hide (pr_book p1.1 (by omega) s a hs)
  have HP1 := hide p1
  have HH1 := hide h1
  have HBP := hide bp1
  have HBO := hide bo1
  have HW1 := hide hW1
  simp only [Opx.val, Opx.cells]
  clear h hO k1 bp1 bo1 hW1 h1 p1
  go_enter Tryz.func61, Tryz.ntmps61
  go_wp2_with fail
  rw [← unhide HW1]
  refine (unhide HC1).mono ?_
  rintro e w2 ⟨v, ls, E, rfl, hlv, k2, hbk⟩
  have bp2 := k2.blk (unhide HBP) (fun z => z)
  have bo2 := k2.blk (unhide HBO) (fun z => z)
  have q1 : w2.cell? ⟨w.heap.size, 1, none⟩ = some (.pointer (some ⟨x.rb, 0, none⟩)) := bp2.cell 1
  have o2 : w2.cell? ⟨w.heap.size + 1, 2, none⟩ = some (.int .i64 a) := bo2.cell 2
  have o5 : w2.cell? ⟨w.heap.size + 1, 5, none⟩ = some (.string s) := bo2.cell 5
  have lp := bp2.lt
  have lo := bo2.lt
  have HK2 := hide k2
  have HC2 := hide (pr_rbook ((unhide HP1).1.kept0 k2) (by have := (unhide HP1).2; omega) hbk)
  have HROW := hide hlv.owns
  have HLEN := hide hbk.len
  clear k2 bp2 bo2 HC1 hlv hbk
  go_wp2_with fail
  refine (unhide HC2).mono ?_
  rintro e w3 ⟨v2, rfl, hr2, k3⟩
  have HR2 := hide hr2
  have HK3 := hide k3
  have hr1 := own_kept (unhide HROW) k3 (fun _ _ z => z)
  have HR1 := hide hr1
  have HC3 := hide (same_levels _ _ v v2 ls w3 hr1 hr2 (by have := unhide HLEN; omega))
  clear k3 hr1 hr2 HC2 q1 o2 o5 lp lo HROW
  go_wp2_with fail
  refine (unhide HC3).mono ?_
  rintro e w4 ⟨rfl, k4⟩
  have kk := (unhide HK2).trans ((unhide HK3).trans k4)
  have h4 := (unhide HH1).kept0 kk
  have HC4 := hide (keep_levels wb (unhide HH1 |> fun _ => W1.heap.size) pv hv v Hs ls w4 h4.blk h4.hrow (by have := h4.hl; omega) (own_kept (unhide HR1) k4 (fun _ _ z => z)) (by have := unhide HLEN; omega) kk.size (unhide HH1).blk.lt (fun b hb => ((unhide HH1).hrow.lt b hb).2))
  have HKK := hide kk
  clear k4 kk h4 HC3 HK2 HK3 HR1 HR2
  go_wp2_with fail
  refine (unhide HC4).mono ?_
  rintro e w5 ⟨rfl, sls, c5, n5, lv5, hv5, w6, kl, hn5, hs5, k6, b6, r6, n6⟩
  have hfin := (unhide HH1).held (unhide HKK) kl hn5 hs5 k6 b6 r6 n6
  have HF := hide hfin
  clear hfin kl k6 b6 r6 n6 HC4
  go_wp2
  go_ret
  exact ⟨by first | rfl | simp, X, _, _, _, unhide HF, hx0⟩

end Go.Proofs.YtigaphnafnpfnaaGreatDoor

set_option linter.unusedVariables false
set_option linter.unusedSimpArgs false
/- venuelaw.acts. -/
namespace Go.Proofs.YtigaphnafnpfnaaGreatDoor
open Go.RowKit Go.Maps
attribute [local go_sem ↓] Go.wp_at_zero Go.wp_at_succ

set_option maxRecDepth 100000 in
set_option maxHeartbeats 8000000 in
theorem acts_list (x : Pr) (o : Opx) (w : World) (h : PrOK w x) (hT : Tab w) (hN : x.N < 2000000) (hk : o.kind = 2) (hO : OpOK o) :
    Calls Tryz.prog 60 #[.agg #[.pointer (some ⟨x.bv, 0, none⟩), .pointer (some ⟨x.rb, 0, none⟩)], o.val] w fun e w' => e = .returned (.bool true) ∧ PrN x w w' := by
  obtain ⟨kind, m, a, b, c, s, ⟨id, owner, sym, side, okind, price, qty⟩⟩ := o
  simp only at hk
  subst hk
  obtain ⟨W1, hW1⟩ : ∃ W1, W1 = ((((w.alloc (.cells #[.pointer (some ⟨x.bv, 0, none⟩), .pointer (some ⟨x.rb, 0, none⟩)] 131)).alloc (.cells #[.int .i64 2, .int .i64 m, .int .i64 a, .int .i64 b, .int .i64 c, .string s, .int .i64 id, .int .i64 owner, .string sym, .int .i64 side, .int .i64 okind, .int .i64 price, .int .i64 qty] 81)).alloc (.cells zero5 87)).alloc (.cells zero5 87)) := ⟨_, rfl⟩
  have k1 : Chg Non w W1 := by rw [hW1]; exact ((((Chg.refl Non w).alloc _).alloc _).alloc _).alloc _
  have hs1 : W1.heap.size = w.heap.size + 4 := by rw [hW1]; simp
  have hp1 := h.kept0 k1
  have bp1 : Blk W1 w.heap.size #[.pointer (some ⟨x.bv, 0, none⟩), .pointer (some ⟨x.rb, 0, none⟩)] 131 := by rw [hW1]; exact (((Blk.new w _ _).alloc _).alloc _).alloc _
  have bo1 : Blk W1 (w.heap.size + 1) #[.int .i64 2, .int .i64 m, .int .i64 a, .int .i64 b, .int .i64 c, .string s, .int .i64 id, .int .i64 owner, .string sym, .int .i64 side, .int .i64 okind, .int .i64 price, .int .i64 qty] 81 := by rw [hW1]; exact ((Blk.new1 w _ _ _).alloc _).alloc _
  have bz1 : Blk W1 (w.heap.size + 2) zero5 87 := by rw [hW1]; exact (Blk.new2' w _ _ _ _).alloc _
  have by1 : Blk W1 (w.heap.size + 3) zero5 87 := by
    rw [hW1]
    have := Blk.new (((w.alloc (.cells #[.pointer (some ⟨x.bv, 0, none⟩), .pointer (some ⟨x.rb, 0, none⟩)] 131)).alloc (.cells #[.int .i64 2, .int .i64 m, .int .i64 a, .int .i64 b, .int .i64 c, .string s, .int .i64 id, .int .i64 owner, .string sym, .int .i64 side, .int .i64 okind, .int .i64 price, .int .i64 qty] 81)).alloc (.cells zero5 87)) zero5 87
    simpa using this
  have HC := hide (out_list x.bv x.bm x.bo x.N x.V x.p x.S s W1 hp1.rep hp1.sim (by omega) hp1.sz (by have := hO.s; simp only at this; omega))
  have nf : ∀ b, w.heap.size ≤ b → ¬ PF x b := fun b hb hf => by have := h.lt hf; omega
  have HNF := hide nf
  have HP1 := hide hp1
  have HBP := hide bp1
  have HBO := hide bo1
  have HBZ := hide bz1
  have HBY := hide by1
  have HK1 := hide k1
  have HS1 := hide hs1
  have HW1 := hide hW1
  simp only [Opx.val, Opx.cells]
  simp only [zero5] at HW1
  clear h hT hO k1 hs1 hp1 bp1 bo1 bz1 by1 nf hW1
  go_enter Tryz.func60, Tryz.ntmps60
  go_wp2_with fail
  rw [← unhide HW1]
  refine (unhide HC).mono ?_
  rintro e w2 ⟨E, rfl, hout⟩
  have kF := hout.chg
  have nF : ∀ b, w.heap.size ≤ b → ¬ Foot x.bv x.bm x.bo x.V b := fun b hb hf => unhide HNF b hb (.inl hf)
  have bp2 := kF.blk (unhide HBP) (nF _ (by omega))
  have bo2 := kF.blk (unhide HBO) (nF _ (by omega))
  have zb := kF.blk (unhide HBZ) (nF _ (by omega))
  have yb := kF.blk (unhide HBY) (nF _ (by omega))
  have q0 : w2.cell? ⟨w.heap.size, 0, none⟩ = some (.pointer (some ⟨x.bv, 0, none⟩)) := bp2.cell 0
  have q1 : w2.cell? ⟨w.heap.size, 1, none⟩ = some (.pointer (some ⟨x.rb, 0, none⟩)) := bp2.cell 1
  have o0 : w2.cell? ⟨w.heap.size + 1, 0, none⟩ = some (.int .i64 2) := bo2.cell 0
  have o1 : w2.cell? ⟨w.heap.size + 1, 1, none⟩ = some (.int .i64 m) := bo2.cell 1
  have o2 : w2.cell? ⟨w.heap.size + 1, 2, none⟩ = some (.int .i64 a) := bo2.cell 2
  have o3 : w2.cell? ⟨w.heap.size + 1, 3, none⟩ = some (.int .i64 b) := bo2.cell 3
  have o4 : w2.cell? ⟨w.heap.size + 1, 4, none⟩ = some (.int .i64 c) := bo2.cell 4
  have o5 : w2.cell? ⟨w.heap.size + 1, 5, none⟩ = some (.string s) := bo2.cell 5
  have o6 : w2.cell? ⟨w.heap.size + 1, 6, none⟩ = some (.int .i64 id) := bo2.cell 6
  have o7 : w2.cell? ⟨w.heap.size + 1, 7, none⟩ = some (.int .i64 owner) := bo2.cell 7
  have o8 : w2.cell? ⟨w.heap.size + 1, 8, none⟩ = some (.string sym) := bo2.cell 8
  have o9 : w2.cell? ⟨w.heap.size + 1, 9, none⟩ = some (.int .i64 side) := bo2.cell 9
  have o10 : w2.cell? ⟨w.heap.size + 1, 10, none⟩ = some (.int .i64 okind) := bo2.cell 10
  have o11 : w2.cell? ⟨w.heap.size + 1, 11, none⟩ = some (.int .i64 price) := bo2.cell 11
  have o12 : w2.cell? ⟨w.heap.size + 1, 12, none⟩ = some (.int .i64 qty) := bo2.cell 12
  have z0 : w2.cell? ⟨w.heap.size + 2, 0, none⟩ = some (.int .i64 0) := zb.cell 0
  have fz0 := zb.frozen 0
  have z1 : w2.cell? ⟨w.heap.size + 2, 1, none⟩ = some (.int .i64 0) := zb.cell 1
  have fz1 := zb.frozen 1
  have z2 : w2.cell? ⟨w.heap.size + 2, 2, none⟩ = some (.int .i64 0) := zb.cell 2
  have fz2 := zb.frozen 2
  have z3 : w2.cell? ⟨w.heap.size + 2, 3, none⟩ = some (.int .i64 0) := zb.cell 3
  have fz3 := zb.frozen 3
  have z4 : w2.cell? ⟨w.heap.size + 2, 4, none⟩ = some (.int .i64 0) := zb.cell 4
  have fz4 := zb.frozen 4
  have y0 : w2.cell? ⟨w.heap.size + 3, 0, none⟩ = some (.int .i64 0) := yb.cell 0
  have fy0 := yb.frozen 0
  have y1 : w2.cell? ⟨w.heap.size + 3, 1, none⟩ = some (.int .i64 0) := yb.cell 1
  have fy1 := yb.frozen 1
  have y2 : w2.cell? ⟨w.heap.size + 3, 2, none⟩ = some (.int .i64 0) := yb.cell 2
  have fy2 := yb.frozen 2
  have y3 : w2.cell? ⟨w.heap.size + 3, 3, none⟩ = some (.int .i64 0) := yb.cell 3
  have fy3 := yb.frozen 3
  have y4 : w2.cell? ⟨w.heap.size + 3, 4, none⟩ = some (.int .i64 0) := yb.cell 4
  have fy4 := yb.frozen 4
  have lzb := zb.lt
  have lyb := yb.lt
  have HOUT := hide hout
  have HZ := hide zb
  have HY := hide yb
  have HKF := hide kF
  clear hout kF nF bp2 bo2 zb yb HC
  go_wp2_with fail
  have HDO : Calls Tryz.prog 99 #[.pointer (some ⟨x.rb, 0, none⟩), (aList s).val] w2 fun e w' => e = .returned (.tuple #[repV 0 0 0 0 0, .int .i64 E]) ∧ PrK x Non W1 w' ∧ Chg (RF x.rb x.av x.rv) w2 w' := pr_doK (unhide HP1) hN (unhide HOUT) (Chg.refl Non w2) (fun b hb => hb.elim)
  refine HDO.mono ?_
  rintro e w3 ⟨rfl, hk3, kd⟩
  have bS := kd.blk (unhide HZ) (fun hr => unhide HNF _ (by omega) (.inr hr))
  have yS := kd.blk (unhide HY) (fun hr => unhide HNF _ (by omega) (.inr hr))
  have u0 : w3.cell? ⟨w.heap.size + 2, 0, none⟩ = some (.int .i64 0) := bS.cell 0
  have u1 : w3.cell? ⟨w.heap.size + 2, 1, none⟩ = some (.int .i64 0) := bS.cell 1
  have u2 : w3.cell? ⟨w.heap.size + 2, 2, none⟩ = some (.int .i64 0) := bS.cell 2
  have u3 : w3.cell? ⟨w.heap.size + 2, 3, none⟩ = some (.int .i64 0) := bS.cell 3
  have u4 : w3.cell? ⟨w.heap.size + 2, 4, none⟩ = some (.int .i64 0) := bS.cell 4
  have v0 : w3.cell? ⟨w.heap.size + 3, 0, none⟩ = some (.int .i64 0) := yS.cell 0
  have v1 : w3.cell? ⟨w.heap.size + 3, 1, none⟩ = some (.int .i64 0) := yS.cell 1
  have v2 : w3.cell? ⟨w.heap.size + 3, 2, none⟩ = some (.int .i64 0) := yS.cell 2
  have v3 : w3.cell? ⟨w.heap.size + 3, 3, none⟩ = some (.int .i64 0) := yS.cell 3
  have v4 : w3.cell? ⟨w.heap.size + 3, 4, none⟩ = some (.int .i64 0) := yS.cell 4
  have lu := bS.lt
  have lv := yS.lt
  have HK3 := hide hk3
  simp only [repV]
  clear hk3 kd bS yS HDO q0 q1 o0 o1 o2 o3 o4 o5 o6 o7 o8 o9 o10 o11 o12 z0 z1 z2 z3 z4 fz0 fz1 fz2 fz3 fz4 y0 y1 y2 y3 y4 fy0 fy1 fy2 fy3 fy4 lzb lyb
  go_wp2
  go_ret
  exact ⟨by first | rfl | simp, PrK.of (unhide HK1) (unhide HK3) (fun b hb => hb.elim)⟩

set_option maxRecDepth 100000 in
set_option maxHeartbeats 8000000 in
theorem acts_cancel (x : Pr) (o : Opx) (w : World) (h : PrOK w x) (hT : Tab w) (hN : x.N < 2000000) (hk : o.kind = 4) (hO : OpOK o) :
    Calls Tryz.prog 60 #[.agg #[.pointer (some ⟨x.bv, 0, none⟩), .pointer (some ⟨x.rb, 0, none⟩)], o.val] w fun e w' => e = .returned (.bool true) ∧ PrN x w w' := by
  obtain ⟨kind, m, a, b, c, s, ⟨id, owner, sym, side, okind, price, qty⟩⟩ := o
  simp only at hk
  subst hk
  obtain ⟨W1, hW1⟩ : ∃ W1, W1 = ((((w.alloc (.cells #[.pointer (some ⟨x.bv, 0, none⟩), .pointer (some ⟨x.rb, 0, none⟩)] 131)).alloc (.cells #[.int .i64 4, .int .i64 m, .int .i64 a, .int .i64 b, .int .i64 c, .string s, .int .i64 id, .int .i64 owner, .string sym, .int .i64 side, .int .i64 okind, .int .i64 price, .int .i64 qty] 81)).alloc (.cells zero5 87)).alloc (.cells zero5 87)) := ⟨_, rfl⟩
  have k1 : Chg Non w W1 := by rw [hW1]; exact ((((Chg.refl Non w).alloc _).alloc _).alloc _).alloc _
  have hs1 : W1.heap.size = w.heap.size + 4 := by rw [hW1]; simp
  have hp1 := h.kept0 k1
  have bp1 : Blk W1 w.heap.size #[.pointer (some ⟨x.bv, 0, none⟩), .pointer (some ⟨x.rb, 0, none⟩)] 131 := by rw [hW1]; exact (((Blk.new w _ _).alloc _).alloc _).alloc _
  have bo1 : Blk W1 (w.heap.size + 1) #[.int .i64 4, .int .i64 m, .int .i64 a, .int .i64 b, .int .i64 c, .string s, .int .i64 id, .int .i64 owner, .string sym, .int .i64 side, .int .i64 okind, .int .i64 price, .int .i64 qty] 81 := by rw [hW1]; exact ((Blk.new1 w _ _ _).alloc _).alloc _
  have bz1 : Blk W1 (w.heap.size + 2) zero5 87 := by rw [hW1]; exact (Blk.new2' w _ _ _ _).alloc _
  have by1 : Blk W1 (w.heap.size + 3) zero5 87 := by
    rw [hW1]
    have := Blk.new (((w.alloc (.cells #[.pointer (some ⟨x.bv, 0, none⟩), .pointer (some ⟨x.rb, 0, none⟩)] 131)).alloc (.cells #[.int .i64 4, .int .i64 m, .int .i64 a, .int .i64 b, .int .i64 c, .string s, .int .i64 id, .int .i64 owner, .string sym, .int .i64 side, .int .i64 okind, .int .i64 price, .int .i64 qty] 81)).alloc (.cells zero5 87)) zero5 87
    simpa using this
  have HC := hide (out_cancel x.bv x.bm x.bo x.N x.V x.p x.S a W1 hp1.rep (hT.kept0 k1) hp1.sim (by omega) hp1.sz (i64_wf hO.a))
  have nf : ∀ b, w.heap.size ≤ b → ¬ PF x b := fun b hb hf => by have := h.lt hf; omega
  have HNF := hide nf
  have HP1 := hide hp1
  have HBP := hide bp1
  have HBO := hide bo1
  have HBZ := hide bz1
  have HBY := hide by1
  have HK1 := hide k1
  have HS1 := hide hs1
  have HW1 := hide hW1
  simp only [Opx.val, Opx.cells]
  simp only [zero5] at HW1
  clear h hT hO k1 hs1 hp1 bp1 bo1 bz1 by1 nf hW1
  go_enter Tryz.func60, Tryz.ntmps60
  go_wp2_with fail
  rw [← unhide HW1]
  refine (unhide HC).mono ?_
  rintro e w2 ⟨E, rfl, hout⟩
  have kF := hout.chg
  have nF : ∀ b, w.heap.size ≤ b → ¬ Foot x.bv x.bm x.bo x.V b := fun b hb hf => unhide HNF b hb (.inl hf)
  have bp2 := kF.blk (unhide HBP) (nF _ (by omega))
  have bo2 := kF.blk (unhide HBO) (nF _ (by omega))
  have zb := kF.blk (unhide HBZ) (nF _ (by omega))
  have yb := kF.blk (unhide HBY) (nF _ (by omega))
  have q0 : w2.cell? ⟨w.heap.size, 0, none⟩ = some (.pointer (some ⟨x.bv, 0, none⟩)) := bp2.cell 0
  have q1 : w2.cell? ⟨w.heap.size, 1, none⟩ = some (.pointer (some ⟨x.rb, 0, none⟩)) := bp2.cell 1
  have o0 : w2.cell? ⟨w.heap.size + 1, 0, none⟩ = some (.int .i64 4) := bo2.cell 0
  have o1 : w2.cell? ⟨w.heap.size + 1, 1, none⟩ = some (.int .i64 m) := bo2.cell 1
  have o2 : w2.cell? ⟨w.heap.size + 1, 2, none⟩ = some (.int .i64 a) := bo2.cell 2
  have o3 : w2.cell? ⟨w.heap.size + 1, 3, none⟩ = some (.int .i64 b) := bo2.cell 3
  have o4 : w2.cell? ⟨w.heap.size + 1, 4, none⟩ = some (.int .i64 c) := bo2.cell 4
  have o5 : w2.cell? ⟨w.heap.size + 1, 5, none⟩ = some (.string s) := bo2.cell 5
  have o6 : w2.cell? ⟨w.heap.size + 1, 6, none⟩ = some (.int .i64 id) := bo2.cell 6
  have o7 : w2.cell? ⟨w.heap.size + 1, 7, none⟩ = some (.int .i64 owner) := bo2.cell 7
  have o8 : w2.cell? ⟨w.heap.size + 1, 8, none⟩ = some (.string sym) := bo2.cell 8
  have o9 : w2.cell? ⟨w.heap.size + 1, 9, none⟩ = some (.int .i64 side) := bo2.cell 9
  have o10 : w2.cell? ⟨w.heap.size + 1, 10, none⟩ = some (.int .i64 okind) := bo2.cell 10
  have o11 : w2.cell? ⟨w.heap.size + 1, 11, none⟩ = some (.int .i64 price) := bo2.cell 11
  have o12 : w2.cell? ⟨w.heap.size + 1, 12, none⟩ = some (.int .i64 qty) := bo2.cell 12
  have z0 : w2.cell? ⟨w.heap.size + 2, 0, none⟩ = some (.int .i64 0) := zb.cell 0
  have fz0 := zb.frozen 0
  have z1 : w2.cell? ⟨w.heap.size + 2, 1, none⟩ = some (.int .i64 0) := zb.cell 1
  have fz1 := zb.frozen 1
  have z2 : w2.cell? ⟨w.heap.size + 2, 2, none⟩ = some (.int .i64 0) := zb.cell 2
  have fz2 := zb.frozen 2
  have z3 : w2.cell? ⟨w.heap.size + 2, 3, none⟩ = some (.int .i64 0) := zb.cell 3
  have fz3 := zb.frozen 3
  have z4 : w2.cell? ⟨w.heap.size + 2, 4, none⟩ = some (.int .i64 0) := zb.cell 4
  have fz4 := zb.frozen 4
  have y0 : w2.cell? ⟨w.heap.size + 3, 0, none⟩ = some (.int .i64 0) := yb.cell 0
  have fy0 := yb.frozen 0
  have y1 : w2.cell? ⟨w.heap.size + 3, 1, none⟩ = some (.int .i64 0) := yb.cell 1
  have fy1 := yb.frozen 1
  have y2 : w2.cell? ⟨w.heap.size + 3, 2, none⟩ = some (.int .i64 0) := yb.cell 2
  have fy2 := yb.frozen 2
  have y3 : w2.cell? ⟨w.heap.size + 3, 3, none⟩ = some (.int .i64 0) := yb.cell 3
  have fy3 := yb.frozen 3
  have y4 : w2.cell? ⟨w.heap.size + 3, 4, none⟩ = some (.int .i64 0) := yb.cell 4
  have fy4 := yb.frozen 4
  have lzb := zb.lt
  have lyb := yb.lt
  have HOUT := hide hout
  have HZ := hide zb
  have HY := hide yb
  have HKF := hide kF
  clear hout kF nF bp2 bo2 zb yb HC
  go_wp2_with fail
  have HDO : Calls Tryz.prog 99 #[.pointer (some ⟨x.rb, 0, none⟩), (aCancel a).val] w2 fun e w' => e = .returned (.tuple #[repV 0 0 0 0 0, .int .i64 E]) ∧ PrK x Non W1 w' ∧ Chg (RF x.rb x.av x.rv) w2 w' := pr_doK (unhide HP1) hN (unhide HOUT) (Chg.refl Non w2) (fun b hb => hb.elim)
  refine HDO.mono ?_
  rintro e w3 ⟨rfl, hk3, kd⟩
  have bS := kd.blk (unhide HZ) (fun hr => unhide HNF _ (by omega) (.inr hr))
  have yS := kd.blk (unhide HY) (fun hr => unhide HNF _ (by omega) (.inr hr))
  have u0 : w3.cell? ⟨w.heap.size + 2, 0, none⟩ = some (.int .i64 0) := bS.cell 0
  have u1 : w3.cell? ⟨w.heap.size + 2, 1, none⟩ = some (.int .i64 0) := bS.cell 1
  have u2 : w3.cell? ⟨w.heap.size + 2, 2, none⟩ = some (.int .i64 0) := bS.cell 2
  have u3 : w3.cell? ⟨w.heap.size + 2, 3, none⟩ = some (.int .i64 0) := bS.cell 3
  have u4 : w3.cell? ⟨w.heap.size + 2, 4, none⟩ = some (.int .i64 0) := bS.cell 4
  have v0 : w3.cell? ⟨w.heap.size + 3, 0, none⟩ = some (.int .i64 0) := yS.cell 0
  have v1 : w3.cell? ⟨w.heap.size + 3, 1, none⟩ = some (.int .i64 0) := yS.cell 1
  have v2 : w3.cell? ⟨w.heap.size + 3, 2, none⟩ = some (.int .i64 0) := yS.cell 2
  have v3 : w3.cell? ⟨w.heap.size + 3, 3, none⟩ = some (.int .i64 0) := yS.cell 3
  have v4 : w3.cell? ⟨w.heap.size + 3, 4, none⟩ = some (.int .i64 0) := yS.cell 4
  have lu := bS.lt
  have lv := yS.lt
  have HK3 := hide hk3
  simp only [repV]
  clear hk3 kd bS yS HDO q0 q1 o0 o1 o2 o3 o4 o5 o6 o7 o8 o9 o10 o11 o12 z0 z1 z2 z3 z4 fz0 fz1 fz2 fz3 fz4 y0 y1 y2 y3 y4 fy0 fy1 fy2 fy3 fy4 lzb lyb
  go_wp2
  go_ret
  exact ⟨by first | rfl | simp, PrK.of (unhide HK1) (unhide HK3) (fun b hb => hb.elim)⟩

end Go.Proofs.YtigaphnafnpfnaaGreatDoor

