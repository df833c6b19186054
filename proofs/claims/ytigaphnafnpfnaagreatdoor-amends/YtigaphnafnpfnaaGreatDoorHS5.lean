import Derived.Test.YtigaphnafnpfnaaGreatDoorHS3
import Derived.Maps.RangeWalk
/- Close: one order expires -/
set_option linter.unusedVariables false
set_option linter.unusedSimpArgs false
namespace Go.Proofs.YtigaphnafnpfnaaGreatDoor
open Go.RowKit Go.Maps
attribute [local go_sem ↓] Go.wp_at_zero Go.wp_at_succ

set_option maxHeartbeats 400000 in
theorem expireOpen_any (b : Nat) (o : Ord) (ix : Int) (w : World) (ho : IsOrd w b o ix) :
    Calls Tryz.prog 78 #[.pointer (some ⟨b, 0, none⟩)] w fun e w' => e = .returned (.func (.func 151) #[] #[.pointer (some ⟨w.heap.size + 1, 0, none⟩), .pointer (some ⟨w.heap.size, 0, none⟩)]) ∧ NowB w' w.heap.size b o ∧ IsOrd w' b { o with opn := 0, exp := wrap64 (o.exp + o.opn) } ix ∧ Chg (fun x => x = b) w w' := by
  have HA := hide (asNow_any b o ix w ho)
  have lo := ho.lt
  go_enter Tryz.func78, Tryz.ntmps78
  go_wp2_with fail
  refine (unhide HA).mono ?_
  rintro e w1 ⟨rfl, n1, k1⟩
  have ho1 := k1.blk ho (fun x => x)
  have h8 : w1.cell? ⟨b, 8, none⟩ = some (.int .i64 o.opn) := Blk.cell ho1 8
  have h10 : w1.cell? ⟨b, 11, none⟩ = some (.int .i64 o.exp) := Blk.cell ho1 11
  have f8 := Blk.frozen ho1 8
  have f10 := Blk.frozen ho1 11
  go_wp2
  go_region
  go_wp2
  go_ret
  have k2 := (((Chg.refl (fun x => x = b) w1).setCell (p := ⟨b, 11, none⟩) (.inl rfl) (.int .i64 (wrap64 (o.exp + o.opn)))).setCell (p := ⟨b, 8, none⟩) (.inl rfl) (.int .i64 0)).drew
  refine ⟨rfl, n1.kept k2 (by omega) (by omega), ?_, k1.of_non.trans k2⟩
  have := (ho1.set 11 (.int .i64 (wrap64 (o.exp + o.opn)))).set 8 (.int .i64 0)
  exact this

theorem expireOpen_mk (bb b : Nat) (B : Bk) (om : Nat → Ord) (L : Nat → Prop) (w : World) (m : Mk w bb B om L) (hb : L b) :
    Calls Tryz.prog 78 #[.pointer (some ⟨b, 0, none⟩)] w fun e w' => ∃ fn cp, e = .returned (.func fn #[] cp) ∧ IsNowF w' b (om b) w.heap.size fn cp ∧ Mk w' bb B (upd om b (expireO (om b))) L ∧ Chg (fun x => x = b) w w' := by
  obtain ⟨ix, ho⟩ := m.ords b hb
  refine (expireOpen_any b (om b) ix w ho).mono ?_
  rintro e w' ⟨rfl, h0, h1, h2⟩
  exact ⟨_, _, rfl, ⟨rfl, _, Nat.le_refl _, rfl, h0⟩, m.upd ho h2 h1, h2⟩

theorem Qo.expire {M : Int} {o : Ord} (h : Qo M o) (hM : M ≤ 1000000) : Qo M (expireO o) ∧ (expireO o).opn = 0 := by
  obtain ⟨a, b, c, d, e, f⟩ := h
  have e1 : (expireO o).exp = o.exp + o.opn := by simp only [expireO]; exact wrap64_id (by omega) (by omega)
  refine ⟨⟨?_, Int.le_refl _, c, d, by rw [e1]; omega, f⟩, rfl⟩
  show o.entered = 0 + o.filled + o.canc + (expireO o).exp
  rw [e1]; omega

/-- one order leaves its book, and expires -/
theorem gv_expire {V : Ven} {n : Nat} {M : Int} (g : GV V n M) (hM : M ≤ 1000000) {i b s k : Nat} {G' : Lg} {lm' : Lm} (hi : i < 2) (hs : s < 2) (hk : k < (V.B i).n s) (hkb : (V.B i).h s k = b) :
    GV { V.turn i ((V.B i).leave V.om s k) (upd V.om b (expireO (V.om b))) with lg := G', lm := lm' } n M := by
  have hm := ((g.gb i hi).mem s hs _).1 ⟨k, hk, rfl⟩
  rw [hkb] at hm
  obtain ⟨q1, q2⟩ := (g.q b hm.1).expire hM
  have far : ∀ x, x ≠ b → upd V.om b (expireO (V.om b)) x = V.om x := fun x h => upd_other _ _ h
  have gl := leave_good (g.gb i hi) hs hk
  rw [hkb] at gl
  refine gv_turn g hi hm.1 hm.2.1 far (by rw [upd_same]; rfl) (by rw [upd_same]; rfl) (by rw [upd_same]; exact q1) (gl.cong (fun x => ?_) (fun x hx _ _ => ?_))
  · by_cases e : x = b
    · subst e
      rw [upd_same]
      constructor
      · rintro ⟨_, _, c⟩; rw [q2] at c; omega
      · rintro ⟨⟨_, c⟩, _⟩; exact absurd rfl c
    · rw [far x e]
      exact ⟨fun ⟨a, c⟩ => ⟨⟨a, e⟩, c⟩, fun ⟨⟨a, _⟩, c⟩ => ⟨a, c⟩⟩
  · rw [far x hx.2]; exact ⟨rfl, rfl, rfl⟩

/-- the step of a range over a map of pointers -/
theorem wpList_next_ptr {w : World} {ops : Array Oper} {rest : List Oper} {o : Oper} {a : Act} {Q : Exit → Act → World → Prop} (hg : o.guard = none) (it : Operand) (hop : o.op = Op.next it false) (b r n : Nat) (D : DataW Unit) (left : Lit → Bool) (cnt : Nat) (f : Lit → Option Nat)
    (hit : a.eval it = .pointer (some ⟨r, 0, none⟩)) (h : w.ranges Tryz.prog 3 ptrElem b r n D left cnt) (hf : ∀ kl, D.atKey kl .nil = ptrD (f kl)) (hl : ∀ kl, left kl = true → (f kl).isSome = true)
    (hDone : cnt = 0 → wpList Tryz.prog ops Q rest (a.put o.dst (.tuple #[.bool false])) w)
    (hMore : ∀ (id : Int) (x : Nat) (w' : World) (cnt' : Nat), f (.int .i64 id) = some x → w'.ranges Tryz.prog 3 ptrElem b r n D (fun z => left z && !z.sameKey (.int .i64 id)) cnt' → cnt' < cnt → w.grownBy w' (some r) → w'.heap.size = w.heap.size →
      (Instr.entry (.pointer (some ⟨r, 0, none⟩))).run Tryz.prog w' = .ok (.tuple #[.int .i64 id, .pointer (some ⟨x, 0, none⟩)]) w' → wpList Tryz.prog ops Q rest (a.put o.dst (.tuple #[.bool true, .int .i64 id, .pointer (some ⟨x, 0, none⟩)])) w') :
    wpList Tryz.prog ops Q (o :: rest) a w := by
  refine wpList_plain hg fun K' hK' => ?_
  unfold Oper.wp
  rcases h.next law3 o.type with ⟨h0, _, hrun⟩ | ⟨key, v, kl, y, w', cnt', hkey, hlk, hv, hat, hrun, hrg, hlt, hgr, hsz, hen⟩
  · simp [execOp, hop, hit, hrun, Result.andThen]
    exact hK' _ _ (hDone h0)
  · obtain ⟨x, rfl, rfl, _⟩ := Maps.keyOf_int_inv Tryz.underlying3 hkey
    have h1 := hat .nil
    rw [hf] at h1
    have h2 : ptrElem v = some (ptrD (f (.int .i64 x)), y.2) := by rw [hv, h1]
    have h3 := ptrElem_inv h2
    obtain ⟨c, hc⟩ := Option.isSome_iff_exists.1 (hl _ hlk)
    rw [hc] at h3
    simp only [ptrO] at h3
    subst h3
    simp [execOp, hop, hit, hrun, Result.andThen]
    exact hK' _ _ (hMore x c w' cnt' hc hrg hlt hgr hsz hen)

theorem ranges_kept {w w' : World} {b r n : Nat} {D : DataW Unit} {left : Lit → Bool} {cnt : Nat} {S : Nat → Prop} (h : w.ranges Tryz.prog 3 ptrElem b r n D left cnt) (k : Chg S w w') (hb' : ¬ S b) (hr' : ¬ S r) : w'.ranges Tryz.prog 3 ptrElem b r n D left cnt := by
  have h1 := h.owns.lt
  have h2 := h.lt
  obtain ⟨es, clock, since, seen, c0, hb, F, hs, hD, hr, rest⟩ := h
  exact ⟨es, clock, since, seen, c0, (k.block b h1 hb').trans hb, F, hs, hD, (k.block r h2 hr').trans hr, rest⟩

/-- a block of cells is none of a range -/
theorem ranges_ne {w : World} {b r n : Nat} {D : DataW Unit} {left : Lit → Bool} {cnt : Nat} (h : w.ranges Tryz.prog 3 ptrElem b r n D left cnt) {y : Nat} {c : Array Value} {t : TypeId} (hy : Blk w y c t) : b ≠ y ∧ r ≠ y := by
  obtain ⟨es, clock, since, seen, c0, hb, F, hs, hD, hr, rest⟩ := h
  unfold Blk at hy
  constructor
  · rintro rfl; rw [hb] at hy; simp at hy
  · rintro rfl; rw [hr] at hy; simp at hy

end Go.Proofs.YtigaphnafnpfnaaGreatDoor

/- Close: what the loop's round leaves -/
set_option linter.unusedVariables false
set_option linter.unusedSimpArgs false
namespace Go.Proofs.YtigaphnafnpfnaaGreatDoor
open Go.RowKit Go.Maps

theorem Rep.foot_iter {w : World} {bv bm bo : Nat} {V : Ven} (R : Rep w bv bm bo V) {x : Nat} {a : Option Nat} {b : Nat} {c : Array Nat} {d : Nat} (hb : w.heap[x]? = some (.mapIter a b c d)) : ¬ Foot bv bm bo V x := by
  obtain ⟨fB, ⟨_, ⟨_, _, mB, _⟩, _⟩, _⟩ := R.books
  obtain ⟨fO, ⟨_, ⟨_, _, mO, _⟩, _⟩, _⟩ := R.orders
  have no : ∀ {y c t}, Blk w y c t → x ≠ y := fun h e => by
    subst e
    unfold Blk at h
    rw [hb] at h
    simp at h
  rintro (e | e | e | ⟨i, hi, e | ⟨s, hs, e⟩⟩ | ⟨id, e⟩ | e)
  · exact no R.ven e
  · rw [e, mB] at hb; simp at hb
  · rw [e, mO] at hb; simp at hb
  · exact no (R.book i hi).blk e
  · obtain ⟨c, t, hc, _⟩ := (R.mkt hi).typ (.inr (.inr ⟨s, hs, e⟩))
    exact no hc rfl
  · obtain ⟨_, ix, ho⟩ := R.ords id x e
    exact no ho rfl
  · obtain ⟨c, t, hc, _⟩ := R.log.log.typ e
    exact no hc rfl

/-- the notes of an order that expires -/
theorem expire_note (bv bm bo i b s k n : Nat) (V : Ven) (M id : Int) (hl : List Tr) (w : World) (R : Rep w bv bm bo V) (g : GV V n M) (hM : M ≤ 1000000) (hi : i < 2) (hs : s < 2) (hk : k < (V.B i).n s) (hkb : (V.B i).h s k = b) (hid : V.oid id = some b) (f : FL V.om V.oid hl (fun _ => 0)) (hna : 0 < V.lg.na) (hna2 : V.lg.na ≤ 1000000) (hnt : V.lg.nt.length + 3 < 1000000) :
    ∀ q w2 w3 fn2 cp2 fn3 cp3, Mk w2 (V.bk i) ((V.B i).leave V.om s k) V.om (fun x => ∃ id, V.oid id = some x) → Chg (fun x => x = V.bk i ∨ SdB (V.B i) s x) (w.drewN q) w2 → Mk w3 (V.bk i) ((V.B i).leave V.om s k) (upd V.om b (expireO (V.om b))) (fun x => ∃ id, V.oid id = some x) → Chg (fun x => x = b) w2 w3 →
      Calls Tryz.prog 53 #[.pointer (some ⟨bv, 0, none⟩), .slice (some ⟨w3.heap.size, 0, none⟩) 2 2] (w3.alloc (.cells #[.func fn2 #[] cp2, .func fn3 #[] cp3] 1)) fun e w' => e = .returned (.tuple #[]) ∧
        Turned bv bm bo V (TbQ V n M hl (fun _ => 0)) w w' ∧ Chg (fun x => (x = V.bk i ∨ SdB (V.B i) s x) ∨ ActF V.lm.av V.lm.ac x) w w' ∧ Mk w' (V.bk i) ((V.B i).leave V.om s k) (upd V.om b (expireO (V.om b))) (fun x => ∃ id, V.oid id = some x) := by
  intro q w2 w3 fn2 cp2 fn3 cp3 m2 k2 m3 k3
  have hi' : i < V.nb := by rw [g.nb]; exact hi
  have hm := ((g.gb i hi).mem s hs _).1 ⟨k, hk, rfl⟩
  rw [hkb] at hm
  have hap := g.apart R hm.1 hm.2.1 hi
  have kq : Chg Non w (w.drewN q) := (Chg.refl Non w).drewN q
  have h2 := (R.log.kept0 kq).keptT k2 (fun x h => ((R.kept0 kq).mkt hi').typ (by
    rcases h with h | h
    · exact .inl h
    · exact .inr (.inr ⟨s, hs, h⟩)))
  have h3 := h2.keptT k3 (fun x h => by subst h; exact m2.typ (.inr (.inl ⟨id, hid⟩)))
  refine (note2A bv bm bo V.lg V.lm (.left b) (.now b (V.om b)) fn2 fn3 cp2 cp3 w3 h3 hna hna2 (by omega)).mono ?_
  rintro e w' ⟨rfl, lm', a1, a2, a3, a4⟩
  have sdb : SdB (V.B i) s b := .inr ⟨k, hk, hkb.symm⟩
  have k23 : Chg (fun x => x = V.bk i ∨ SdB (V.B i) s x) w w3 := (kq.of_non.trans k2).trans (k3.mono (fun x h => .inr (by rw [h]; exact sdb)))
  have kc : Chg (fun x => (x = V.bk i ∨ SdB (V.B i) s x) ∨ ActF V.lm.av V.lm.ac x) w w' := (k23.mono (fun x h => .inl h)).trans (a3.mono (fun x h => .inr h))
  have hmk := m3.keptLog h3 (a3.mono (fun x h => .inr (.inr (.inr (.inr h)))))
  have far : ∀ x, x ≠ b → upd V.om b (expireO (V.om b)) x = V.om x := fun x h => upd_other _ _ h
  have fb : FL (upd V.om b (expireO (V.om b))) V.oid hl (fun _ => 0) := f.cong (fun x => by
    by_cases e : x = b
    · rw [e, upd_same]; exact ⟨rfl, rfl, rfl, rfl⟩
    · rw [far x e]; exact ⟨rfl, rfl, rfl, rfl⟩)
  refine ⟨rfl, Turned.of (S := fun x => x = V.bk i ∨ SdB (V.B i) s x) R hi' _ (ds := [.left b, .now b (V.om b)]) (by simp) ⟨lm', a1, fun x hx => (a2 x hx).imp_right (fun h => Nat.le_trans k23.size h)⟩ hmk kc (fun x hx => ?_) (fun x => ?_) (fun x => ?_) rfl (fun y hy x hx => .inl ⟨y, hy, leave_sd ((g.gb i hi).inj s hs) hk hx⟩) (fun G' lm'' => ⟨gv_expire g hM hi hs hk hkb, fb, rfl⟩), kc, hmk⟩
  · rcases hx with h | h
    · exact .inl h
    · exact .inr (.inl ⟨s, hs, h⟩)
  · by_cases e : x = b
    · exact .inl (e ▸ hap)
    · exact .inr (far x e)
  · by_cases e : x = b
    · rw [e, upd_same]; rfl
    · rw [far x e]

/-- the day is another one -/
theorem IsLogp.setDay {w : World} {bv bm bo : Nat} {G : Lg} {m : Lm} (h : IsLog w bv bm bo G m) (d : Int) : IsLog (w.setCell ⟨bv, 4, none⟩ (.int .i64 d)) bv bm bo { G with day := d } m ∧ Chg (fun y => y = bv) w (w.setCell ⟨bv, 4, none⟩ (.int .i64 d)) := by
  have kk : Chg (fun y => y = bv) w (w.setCell ⟨bv, 4, none⟩ (.int .i64 d)) := (Chg.refl (fun y => y = bv) w).setCell (p := ⟨bv, 4, none⟩) (.inl rfl) _
  have hl := h.log.kept kk (fun y hy e => h.bvne (e ▸ hy))
  exact ⟨⟨h.ven.set 4 _, ⟨hl.trow, hl.prow, hl.len, hl.blk, hl.nodup, hl.act, hl.jrow, hl.jb⟩⟩, kk⟩

end Go.Proofs.YtigaphnafnpfnaaGreatDoor

/- Close -/
set_option linter.unusedVariables false
set_option linter.unusedSimpArgs false
namespace Go.Proofs.YtigaphnafnpfnaaGreatDoor
open Go.RowKit Go.Maps
attribute [local go_sem ↓] Go.wp_at_zero Go.wp_at_succ

/-- what holds at the head of the loop -/
structure ClI (bv bm bo n : Nat) (M : Int) (V : Ven) (r : Nat) (D : DataW Unit) (f : Lit → Option Nat) (w wr : World) (cnt : Nat) (V' : Ven) (left : Lit → Bool) : Prop where
  rep : Rep wr bv bm bo V'
  gv : GV V' n M
  oid : V'.oid = V.oid
  fl : FL V'.om V'.oid (held V.lg.tr) (fun _ => 0)
  lg : LgK V.lg.begun V'.lg (3 * (n - cnt))
  rng : wr.ranges Tryz.prog 3 ptrElem bo r n D left cnt
  le : ∀ kl, left kl = true → (f kl).isSome = true
  foot : ∀ y, Foot bv bm bo V' y → Foot bv bm bo V y ∨ w.heap.size ≤ y
  cn : cnt ≤ n
  box : Blk wr w.heap.size #[.pointer (some ⟨bv, 0, none⟩)] 35
  chg : Chg (Foot bv bm bo V) w wr
  rr : w.heap.size ≤ r

/-- the iterator has gone on -/
theorem ClI.step {bv bm bo n : Nat} {M : Int} {V : Ven} {r : Nat} {D : DataW Unit} {f : Lit → Option Nat} {w wr W : World} {cnt cnt' : Nat} {V' : Ven} {left left' : Lit → Bool} (h : ClI bv bm bo n M V r D f w wr cnt V' left) (hr : W.ranges Tryz.prog 3 ptrElem bo r n D left' cnt') (hl : ∀ kl, left' kl = true → left kl = true) (hlt : cnt' < cnt) (hg : wr.grownBy W (some r)) :
    ClI bv bm bo n M V r D f w W cnt' V' left' := by
  have kr : Chg (fun y => y = r) wr W := (Chg.refl _ wr).grown hg (fun k e => .inl (by simpa using e.symm))
  have nf : ¬ Foot bv bm bo V' r := by
    obtain ⟨es, clock, since, seen, c0, _, _, _, _, hh, _⟩ := h.rng
    exact h.rep.foot_iter hh
  have bx : w.heap.size ≠ r := fun e => (ranges_ne h.rng h.box).2 e.symm
  obtain ⟨l1, l2, l3, l4, l5⟩ := h.lg
  have := h.cn
  exact ⟨h.rep.kept1 kr nf, h.gv, h.oid, h.fl, ⟨l1, l2, l3, l4, by omega⟩, hr, fun kl e => h.le kl (hl kl e), h.foot, by omega, kr.blk h.box bx, h.chg.from (kr.mono (fun y e => .inr (by rw [e]; exact h.rr))), h.rr⟩

/-- one order has expired -/
theorem ClI.turn {bv bm bo n : Nat} {M : Int} {V : Ven} {r : Nat} {D : DataW Unit} {f : Lit → Option Nat} {w wr W : World} {cnt : Nat} {V' : Ven} {left : Lit → Bool} {i s : Nat} (h : ClI bv bm bo n M V r D f w wr cnt V' left) (hlt : cnt < n) (hnt : V'.lg.nt.length ≤ V.lg.begun.nt.length + 3 * (n - (cnt + 1))) (hi : i < 2) (hs : s < 2)
    (ht : Turned bv bm bo V' (TbQ V' n M (held V.lg.tr) (fun _ => 0)) wr W) (kc : Chg (fun x => (x = V'.bk i ∨ SdB (V'.B i) s x) ∨ ActF V'.lm.av V'.lm.ac x) wr W) :
    ∃ V'', ClI bv bm bo n M V r D f w W cnt V'' left := by
  obtain ⟨V2, R2, ⟨g2, f2, o2⟩, ⟨l1, l2, l3, l4, l5⟩, hb, _, k2, hF⟩ := ht
  have hi' : i < V'.nb := by rw [h.gv.nb]; exact hi
  have typ : ∀ x, ((x = V'.bk i ∨ SdB (V'.B i) s x) ∨ ActF V'.lm.av V'.lm.ac x) → ∃ c t, Blk wr x c t := by
    rintro x ((e | e) | e)
    · obtain ⟨c, t, hc, _⟩ := (h.rep.mkt hi').typ (.inl e); exact ⟨c, t, hc⟩
    · obtain ⟨c, t, hc, _⟩ := (h.rep.mkt hi').typ (.inr (.inr ⟨s, hs, e⟩)); exact ⟨c, t, hc⟩
    · obtain ⟨c, t, hc, _⟩ := h.rep.log.log.act.typ e; exact ⟨c, t, hc⟩
  have n1 : ¬ ((bo = V'.bk i ∨ SdB (V'.B i) s bo) ∨ ActF V'.lm.av V'.lm.ac bo) := fun e => by
    obtain ⟨c, t, hc⟩ := typ bo e
    exact (ranges_ne h.rng hc).1 rfl
  have n2 : ¬ ((r = V'.bk i ∨ SdB (V'.B i) s r) ∨ ActF V'.lm.av V'.lm.ac r) := fun e => by
    obtain ⟨c, t, hc⟩ := typ r e
    exact (ranges_ne h.rng hc).2 rfl
  obtain ⟨m1, m2, m3, m4, m5⟩ := h.lg
  refine ⟨V2, R2, g2, o2.trans h.oid, f2, ⟨l1.trans m1, l2.trans m2, l3.trans m3, l4.trans m4, by omega⟩, ranges_kept h.rng kc n1 n2, h.le, fun y hy => ?_, h.cn, hb _ _ _ h.box (.inr (.inl rfl)), h.chg.from (k2.mono (fun y hy => h.foot y hy)), h.rr⟩
  rcases hF y hy with e | e
  · exact h.foot y e
  · exact .inr (Nat.le_trans h.chg.size e)

/-- the log behind a Close -/
def closeT (day : Int) : Tr := ⟨0, ⟨#[]⟩, 0, 0, 0, 0, day⟩

end Go.Proofs.YtigaphnafnpfnaaGreatDoor

/- Close, walked -/
set_option linter.unusedVariables false
set_option linter.unusedSimpArgs false
namespace Go.Proofs.YtigaphnafnpfnaaGreatDoor
open Go.RowKit Go.Maps
attribute [local go_sem ↓] Go.wp_at_zero Go.wp_at_succ

set_option maxHeartbeats 8000000 in
set_option maxRecDepth 100000 in
theorem close_ok (bv bm bo n K : Nat) (V : Ven) (M : Int) (w : World) (R : Rep w bv bm bo V) (g : GV V n M) (av : AV V) (hM : M ≤ 1000000) (hn : n ≤ 200) (hK : LenOK V K) (hK2 : K + 300 < 1000000) (hday : 0 ≤ V.lg.day ∧ V.lg.day < 1000000000) :
    Calls Tryz.prog 41 #[.pointer (some ⟨bv, 0, none⟩)] w fun e w' => e = .returned (.tuple #[]) ∧ Next bv bm bo V (fun V2 => AQ n (K + 101) M V2 ∧ V2.lg.day = V.lg.day + 1 ∧ V.lg.tp.length ≤ V2.lg.tp.length) w w' := by
  have hK' := hK
  obtain ⟨k1, k2, k3, k4⟩ := hK'
  have kx : Chg Non w (w.alloc (.cells #[.pointer (some ⟨bv, 0, none⟩)] 35)) := (Chg.refl Non w).alloc _
  have HBeg := hide (begin_any bv bm bo V.lg V.lm ⟨#[99, 108, 111, 115, 101]⟩ _ (R.log.kept0 kx) (by omega) (by decide) (by decide))
  have hBv := Blk.new w #[.pointer (some ⟨bv, 0, none⟩)] 35
  have HR := hide R
  have lv := R.ven.lt
  have outF : ∀ x, w.heap.size ≤ x → ¬ (x = bv ∨ V.lm.F x) := by
    rintro x hx (e | e)
    · omega
    · have := R.log.log.lt e; omega
  have HOut := hide outF
  have HKx := hide kx
  have HBv := hide hBv
  have HG := hide g
  have HAV := hide av
  clear R outF kx hBv g av
  go_enter Tryz.func41, Tryz.ntmps41
  go_wp2_with fail
  refine (unhide HBeg).mono ?_
  rintro e wb ⟨rfl, lmb, hLb, hFb, kb⟩
  have Rb := ((unhide HR).kept0 (unhide HKx)).turnLog hLb kb
  have bvb := kb.blk (unhide HBv) (unhide HOut _ (Nat.le_refl _))
  have xb : wb.cell? ⟨w.heap.size, 0, none⟩ = some (.pointer (some ⟨bv, 0, none⟩)) := bvb.cell 0
  have v1 : wb.cell? ⟨bv, 1, none⟩ = some (.map (some bo)) := Rb.ven.cell 1
  have kkb : Chg (fun x => x = bv ∨ V.lm.F x) w wb := (unhide HKx).of_non.trans kb
  obtain ⟨fO, ⟨D, hown, hsz, hat, hhas⟩, hfO⟩ := Rb.orders
  have hno : V.no = n := (unhide HG).no
  have hown' : wb.ownsMap Tryz.prog 3 ptrElem bo n D := by rw [← hno]; exact hown
  have hsz' : Maps.size D = n := hsz.trans hno
  have HRb := hide Rb
  have HBb := hide bvb
  have HKb := hide kkb
  have HFb : Hid (∀ x, lmb.F x → V.lm.F x ∨ w.heap.size ≤ x) := fun x h => (hFb x h).imp_right (fun h => by have := (unhide HKx).size; omega)
  have HOwn := hide hown'
  have HAt := hide hat
  have HHas := hide hhas
  have HFO := hide hfO
  have HSz := hide hsz'
  have lwb := bvb.lt
  clear HBeg hLb hFb kb Rb bvb kkb hown hown' hat hhas hfO hsz hsz'
  go_wp2_with (at_range; refine wpList_range_own _ rfl _ 95 rfl 3 114 law3 Tryz.underlying95 ptrElem bo n D rfl (unhide HOwn) ?_; intro w0 hrg0 hg0 hs0; have HRg := hide hrg0; have HG0 := hide hg0; clear hrg0 hg0)
  have k0 : Chg Non wb w0 := (Chg.refl Non wb).grown (unhide HG0) (fun k e => by simp at e)
  have hI : ClI bv bm bo n M V wb.heap.size D fO w w0 n { V with lg := V.lg.begun, lm := lmb } (Maps.has D) := by
    refine ⟨(unhide HRb).kept0 k0, (unhide HG).relog _ _, rfl, (unhide HAV).fl, ⟨rfl, rfl, rfl, rfl, Nat.le_add_right _ _⟩, ?_, fun kl h => ?_, fun y hy => ?_, Nat.le_refl _, k0.blk (unhide HBb) (fun x => x), ((unhide HKb).mono (fun y h => ?_)).trans k0.of_non, by omega⟩
    · have := unhide HRg
      rw [unhide HSz] at this
      exact this
    · rw [← unhide HHas kl]; exact h
    · rcases hy with h | h | h | h | h | h
      · exact .inl (.inl h)
      · exact .inl (.inr (.inl h))
      · exact .inl (.inr (.inr (.inl h)))
      · exact .inl (.inr (.inr (.inr (.inl h))))
      · exact .inl (.inr (.inr (.inr (.inr (.inl h)))))
      · exact (unhide HFb y h).imp_left (fun h => .inr (.inr (.inr (.inr (.inr h)))))
    · rcases h with h | h
      · exact .inl h
      · exact .inr (.inr (.inr (.inr (.inr h))))
  have HI := hide hI
  obtain ⟨r, hr⟩ : ∃ r, wb.heap.size = r := ⟨_, rfl⟩
  rw [hr] at HI ⊢
  clear hI k0 HRg HG0 HRb HBb HKb HFb HOwn HHas HSz v1 xb lwb hr hs0 HKx HBv
  go_frame
  go_loopg [3] n (fun kk _ wr => ∃ (cnt : Nat) (V' : Ven) (left : Lit → Bool), kk = cnt ∧ ClI bv bm bo n M V r D fO w wr cnt V' left)
  case atStart => exact ⟨_, _, _, rfl, unhide HI⟩
  case round =>
    obtain ⟨cnt, V', left, hkk, cl⟩ := hrel
    have xb : wr.cell? ⟨w.heap.size, 0, none⟩ = some (.pointer (some ⟨bv, 0, none⟩)) := cl.box.cell 0
    have v4 : wr.cell? ⟨bv, 4, none⟩ = some (.int .i64 V.lg.day) := by
      have := cl.rep.ven.cell 4
      rw [cl.lg.2.2.1] at this
      exact this
    have f4 := cl.rep.ven.frozen 4
    have HCl := hide cl
    have HRng := hide cl.rng
    have HLe := hide cl.le
    clear cl
    go_wp2_with (at_next; refine wpList_next_ptr rfl _ rfl bo r n D left cnt fO rfl (unhide HRng) (unhide HAt) (unhide HLe) ?_ ?_)
    · intro hc0
      have cl := unhide HCl
      have hTl : ∀ W, Chg Non wr W → Calls Tryz.prog 73 #[.pointer (some ⟨bv, 0, none⟩), .int .i64 4, (closeT V.lg.day).val] W fun e w' => e = .returned (.tuple #[]) ∧ ∃ m', IsLog w' bv bm bo (V'.lg.told 4 (closeT V.lg.day)) m' ∧ (∀ b, m'.F b → V'.lm.F b ∨ wr.heap.size ≤ b) ∧ Chg (fun b => b = bv ∨ V'.lm.F b) wr w' ∧ w'.cell? ⟨w.heap.size, 0, none⟩ = some (.pointer (some ⟨bv, 0, none⟩)) := by
        intro W kW
        refine (tell_any bv bm bo V'.lg V'.lm 4 (closeT V.lg.day) W (cl.rep.log.kept0 kW) (by rw [cl.lg.2.1]; show V.lg.tp.length < 1000000; omega)).mono ?_
        rintro e w' ⟨rfl, m', a1, a2, a3⟩
        refine ⟨rfl, m', a1, fun b hb => (a2 b hb).imp_right (fun h => Nat.le_trans kW.size h), kW.of_non.trans (a3.mono (fun b h => h.imp_right (fun h => .inr (.inl (.inl h))))), (a3.blk (kW.blk cl.box (fun x => x)) ?_).cell 0⟩
        rintro (e | e)
        · exact Blk.ne cl.box cl.rep.ven (by decide) e
        · exact own_ne cl.rep.log.log.prow e cl.box (by decide) rfl
      have hdl : V'.lg.day = V.lg.day := cl.lg.2.2.1
      have hna' : V'.lg.na = V.lg.na + 1 := cl.lg.2.2.2.1
      have hntl := cl.lg.2.2.2.2
      have hcn := cl.cn
      have hnt0 : V.lg.begun.nt.length = 0 := rfl
      simp only [Tr.val, closeT] at hTl
      have HTl := hide hTl
      clear hTl cl
      go_wp2
      go_region_held3 (fun w' => w'.cell? ⟨w.heap.size, 0, none⟩ = some (.pointer (some ⟨bv, 0, none⟩)) ∧ w'.cell? ⟨bv, 4, none⟩ = some (.int .i64 V.lg.day)) (go_keep)
        (first | (go_at_call 73; refine (unhide HTl _ ?cc).mono ?_; (case cc => repeat (first | exact Chg.refl _ _ | refine Chg.drew ?_)); rintro e wt ⟨rfl, lmt, t1, t2, t3, y1⟩; have y2 : wt.cell? ⟨bv, 4, none⟩ = some (.int .i64 V.lg.day) := (t1.ven.cell 4).trans (by rw [← hdl]; rfl); have ft := t1.ven.frozen 4; have T1 := hide t1; have T2 := hide t2; have T3 := hide t3; clear t1 t2 t3))
      rename_i hSk
      clear hSk
      have hD := (unhide T1).setDay (V.lg.day + 1)
      have HD := hide hD
      have hNt := note1A bv bm bo _ lmt .closed (.func 79) #[.pointer (some ⟨w.heap.size, 0, none⟩)] _ hD.1 (by show 0 < V'.lg.na; omega) (by show V'.lg.na ≤ 1000000; omega) (by show V'.lg.nt.length + 1 < 1000000; omega)
      have es : (wt.setCell ⟨bv, 4, none⟩ (.int .i64 (V.lg.day + 1))).heap.size = wt.heap.size := by simp [World.setCell]
      rw [es] at hNt
      have HNt := hide hNt
      clear hNt es
      have ew : wrap64 (V.lg.day + 1) = V.lg.day + 1 := wrap64_id (by omega) (by omega)
      clear hD
      go_wp2_with fail
      refine (unhide HNt).mono ?_
      rintro e w5 ⟨rfl, lm5, h1, h2, h3, -⟩
      have H1 := hide h1
      have H2 := hide h2
      have H3 := hide h3
      clear h1 h2 h3
      go_wp2
      go_end0
      have cl := unhide HCl
      have szt := (unhide T3).size
      have hFt : ∀ y, lmt.F y → V'.lm.F y ∨ wr.heap.size ≤ y := unhide T2
      have kD : Chg (fun y => y = bv ∨ V'.lm.F y) wr (wt.setCell ⟨bv, 4, none⟩ (.int .i64 (V.lg.day + 1))) := (unhide T3).trans ((unhide HD).2.mono (fun y e => .inl e))
      have k5 : Chg (fun y => y = bv ∨ V'.lm.F y) wr w5 := kD.from ((unhide H3).mono (fun y h => (hFt y (.inr (.inr (.inr h)))).imp_left .inr))
      have hF5 : ∀ y, lm5.F y → V'.lm.F y ∨ wr.heap.size ≤ y := fun y h => by
        rcases unhide H2 y h with h | h
        · exact hFt y h
        · exact .inr (by omega)
      have R5 := cl.rep.turnLog (unhide H1) k5
      have hn5 : ∀ y, Foot bv bm bo V' y → Foot bv bm bo V y ∨ w.heap.size ≤ y := cl.foot
      have htr : V'.lg.tr = V.lg.tr := cl.lg.1
      have htp : V'.lg.tp = V.lg.tp := cl.lg.2.1
      have szw := cl.chg.size
      refine ⟨rfl, _, R5, ⟨⟨cl.gv.relog _ _, ⟨?_, ?_, fun y hy => ?_, ?_⟩, ⟨?_, ?_, fun y hy => ?_⟩⟩, rfl, by show V.lg.tp.length ≤ (V'.lg.tp ++ [_]).length; rw [htp, List.length_append]; exact Nat.le_add_right _ _⟩, cl.chg.from (k5.mono (fun y h => ?_)), fun y hy => ?_⟩
      · show (V'.lg.tp ++ [_]).length ≤ _
        rw [htp, List.length_append]; simp; omega
      · show V'.lg.tr.length ≤ _
        rw [htr]; omega
      · have hy' : y ∈ V'.lg.tr := hy
        rw [htr] at hy'
        exact k3 y hy'
      · show V'.lg.na ≤ _; omega
      · show Told V'.lg.tr (V'.lg.tp ++ [⟨(V'.lg.tp.length : Int) + 1, 4, closeT V.lg.day⟩])
        rw [htr, htp]
        exact Told.close (unhide HAV).told rfl rfl
      · show FL V'.om V'.oid (held V'.lg.tr) (fun _ => 0)
        rw [htr]; exact cl.fl
      · have hy' : y ∈ V'.lg.tp ++ [⟨(V'.lg.tp.length : Int) + 1, 4, closeT V.lg.day⟩] := hy
        rw [htp] at hy'
        rcases List.mem_append.1 hy' with h' | h'
        · exact (unhide HAV).ty y h'
        · rw [List.mem_singleton.1 h']; exact Nat.zero_le _
      · rcases h with h | h
        · exact .inl (.inl h)
        · exact hn5 y (.inr (.inr (.inr (.inr (.inr h)))))
      · have key : Foot bv bm bo V' y ∨ wr.heap.size ≤ y := by
          rcases hy with h | h | h | h | h | h
          · exact .inl (.inl h)
          · exact .inl (.inr (.inl h))
          · exact .inl (.inr (.inr (.inl h)))
          · exact .inl (.inr (.inr (.inr (.inl h))))
          · exact .inl (.inr (.inr (.inr (.inr (.inl h)))))
          · exact (hF5 y h).imp_left (fun h => .inr (.inr (.inr (.inr (.inr h)))))
        rcases key with h | h
        · exact hn5 y h
        · exact .inr (by omega)
    · intro id x W cnt' hfx hrg' hlt hgr hsz hen
      have cl := (unhide HCl).step hrg' (fun kl e => by simp at e; exact e.1) hlt hgr
      have ho' : V'.oid id = some x := by rw [cl.oid, ← hfx]; exact ((unhide HFO) id).symm
      obtain ⟨_, ix, ho⟩ := cl.rep.ords id x ho'
      have o4 : W.cell? ⟨x, 4, none⟩ = some (.int .i64 (V'.om x).kind) := ho.cell 4
      have o8 : W.cell? ⟨x, 8, none⟩ = some (.int .i64 (V'.om x).opn) := ho.cell 8
      by_cases hc : (V'.om x).kind = 1 ∧ 0 < (V'.om x).opn
      · obtain ⟨hk1, hop⟩ := hc
        have e1 : ((V'.om x).kind == 1) = true := by simp [hk1]
        have e2 : decide (0 < (V'.om x).opn) = true := by simp [hop]
        obtain ⟨i, s, k, hi, hs, hk, hkb, hsy, hBs, hsd⟩ := cl.gv.open ⟨id, ho'⟩ (show (V'.om x).opn ≠ 0 by omega)
        have hi' : i < V'.nb := by rw [cl.gv.nb]; exact hi
        have hlen : (V'.B i).sym.size ≤ maxLen := by rw [hBs]; exact symN_size i
        have o2 : W.cell? ⟨x, 2, none⟩ = some (.string (V'.B i).sym) := by rw [hBs, ← hsy]; exact ho.cell 2
        have v0 : W.cell? ⟨bv, 0, none⟩ = some (.map (some bm)) := cl.rep.ven.cell 0
        have xbW : W.cell? ⟨w.heap.size, 0, none⟩ = some (.pointer (some ⟨bv, 0, none⟩)) := cl.box.cell 0
        have L1 : (Instr.lookup 94 (.map (some bm)) (.string (V'.B i).sym) false).run Tryz.prog W = .ok (.pointer (some ⟨V'.bk i, 0, none⟩)) W := cl.rep.lookB hi' hlen
        have L1d : (Instr.lookup 94 (.map (some bm)) (.string (V'.B i).sym) false).run Tryz.prog W.drew = .ok (.pointer (some ⟨V'.bk i, 0, none⟩)) W.drew := cl.rep.lookBq hi' hlen 1
        have hL := fun q => leave_mk (V'.bk i) (V'.B i) V'.om (fun x => ∃ id, V'.oid id = some x) s k (W.drewN q) ((cl.rep.kept0 ((Chg.refl Non W).drewN q)).mkt hi') hs hk (by rw [hkb]; exact hsd)
        rw [hkb] at hL
        have HL := hide hL
        have HC := hide (fun (W2 : World) (m : Mk W2 (V'.bk i) ((V'.B i).leave V'.om s k) V'.om (fun x => ∃ id, V'.oid id = some x)) => expireOpen_mk (V'.bk i) x ((V'.B i).leave V'.om s k) V'.om _ W2 m ⟨id, ho'⟩)
        have hntl := (unhide HCl).lg.2.2.2.2
        have hcn := (unhide HCl).cn
        have hna' : V'.lg.na = V.lg.na + 1 := (unhide HCl).lg.2.2.2.1
        have hnt0 : V.lg.begun.nt.length = 0 := rfl
        have HNt := hide (expire_note bv bm bo i x s k n V' M id (held V.lg.tr) W cl.rep cl.gv hM hi hs hk hkb ho' cl.fl (by omega) (by omega) (by omega))
        have typ2 : ∀ y, (y = V'.bk i ∨ SdB (V'.B i) s y) → ∃ c t, Blk W y c t ∧ (t = 158 ∨ t = 116 ∨ t = 114) := fun y e => (cl.rep.mkt hi').typ (by
          rcases e with e | e
          · exact .inl e
          · exact .inr (.inr ⟨s, hs, e⟩))
        have nx : w.heap.size ≠ x := Blk.ne cl.box ho (by decide)
        have nv : bv ≠ x := Blk.ne cl.rep.ven ho (by decide)
        have z2 : ∀ q w2, Chg (fun y => y = V'.bk i ∨ SdB (V'.B i) s y) (W.drewN q) w2 → Blk w2 w.heap.size #[.pointer (some ⟨bv, 0, none⟩)] 35 ∧ Blk w2 bv (venC bm bo V'.lm V'.lg.day) 100 := fun q w2 k2 =>
          ⟨k2.blk (cl.box.drewN q) (fun e => by
            obtain ⟨c, t, hc, ht⟩ := typ2 _ e
            exact Blk.ne cl.box hc (by rcases ht with rfl | rfl | rfl <;> decide) rfl),
          k2.blk (cl.rep.ven.drewN q) (fun e => by
            obtain ⟨c, t, hc, ht⟩ := typ2 _ e
            exact Blk.ne cl.rep.ven hc (by rcases ht with rfl | rfl | rfl <;> decide) rfl)⟩
        have hsym2 : (V'.om x).sym = (V'.B i).sym := hsy.trans hBs.symm
        have HZ2 : Hid (∀ q w2, Chg (fun y => y = V'.bk i ∨ SdB (V'.B i) s y) (W.drewN q) w2 → Mk w2 (V'.bk i) ((V'.B i).leave V'.om s k) V'.om (fun x => ∃ id, V'.oid id = some x) → w2.cell? ⟨w.heap.size, 0, none⟩ = some (.pointer (some ⟨bv, 0, none⟩)) ∧ w2.cell? ⟨bv, 0, none⟩ = some (.map (some bm)) ∧ w2.cell? ⟨x, 2, none⟩ = some (.string (V'.B i).sym)) := fun q w2 c2 m2 => by
          obtain ⟨ix2, ho2⟩ := m2.ords x ⟨id, ho'⟩
          exact ⟨(z2 q w2 c2).1.cell 0, (z2 q w2 c2).2.cell 0, by rw [← hsym2]; exact ho2.cell 2⟩
        have HZ3 : Hid (∀ q w2 w3, Chg (fun y => y = V'.bk i ∨ SdB (V'.B i) s y) (W.drewN q) w2 → Chg (fun y => y = x) w2 w3 → Mk w3 (V'.bk i) ((V'.B i).leave V'.om s k) (upd V'.om x (expireO (V'.om x))) (fun x => ∃ id, V'.oid id = some x) → w3.cell? ⟨w.heap.size, 0, none⟩ = some (.pointer (some ⟨bv, 0, none⟩)) ∧ w3.cell? ⟨bv, 0, none⟩ = some (.map (some bm)) ∧ w3.cell? ⟨x, 2, none⟩ = some (.string (V'.B i).sym)) := fun q w2 w3 c2 c3 m3 => by
          obtain ⟨ix3, ho3⟩ := m3.ords x ⟨id, ho'⟩
          rw [upd_same] at ho3
          exact ⟨(c3.blk (z2 q w2 c2).1 nx).cell 0, (c3.blk (z2 q w2 c2).2 nv).cell 0, by rw [← hsym2]; exact ho3.cell 2⟩
        have HZ4 : Hid (∀ w4, Turned bv bm bo V' (TbQ V' n M (held V.lg.tr) (fun _ => 0)) W w4 → Mk w4 (V'.bk i) ((V'.B i).leave V'.om s k) (upd V'.om x (expireO (V'.om x))) (fun x => ∃ id, V'.oid id = some x) → w4.cell? ⟨w.heap.size, 0, none⟩ = some (.pointer (some ⟨bv, 0, none⟩)) ∧ w4.cell? ⟨bv, 0, none⟩ = some (.map (some bm)) ∧ w4.cell? ⟨x, 2, none⟩ = some (.string (V'.B i).sym)) := fun w4 r4 m4 => by
          obtain ⟨V2, R2, _, _, hb, _, _⟩ := r4
          obtain ⟨ix4, ho4⟩ := m4.ords x ⟨id, ho'⟩
          rw [upd_same] at ho4
          exact ⟨(hb _ _ _ cl.box (.inr (.inl rfl))).cell 0, R2.ven.cell 0, by rw [← hsym2]; exact ho4.cell 2⟩
        have HC2 := hide cl
        clear cl ho hL z2 hntl hcn hna' hnt0 hsy hBs hsd typ2 hsym2 nx nv
        go_wp2
        go_region_held3 (fun w' => w'.cell? ⟨w.heap.size, 0, none⟩ = some (.pointer (some ⟨bv, 0, none⟩)) ∧ w'.cell? ⟨bv, 0, none⟩ = some (.map (some bm)) ∧ w'.cell? ⟨x, 2, none⟩ = some (.string (V'.B i).sym)) (go_keep)
          (first
            | (go_at_call 66; refine (unhide HL _).mono ?_; rintro e w2 ⟨fn2, cp2, rfl, -, m2, c2⟩; obtain ⟨y1, y2, y3⟩ := unhide HZ2 _ w2 c2 m2; have M2 := hide m2; have C2 := hide c2; clear m2 c2)
            | (go_at_call 78; refine (unhide HC _ (unhide M2)).mono ?_; rintro e w3 ⟨fn3, cp3, rfl, -, m3, c3⟩; obtain ⟨u1, u2, u3⟩ := unhide HZ3 _ w2 w3 (unhide C2) c3 m3; have M3 := hide m3; have C3 := hide c3; clear m3 c3)
            | (go_at_call 53; refine (unhide HNt _ w2 w3 fn2 cp2 fn3 cp3 (unhide M2) (unhide C2) (unhide M3) (unhide C3)).mono ?_; rintro e w4 ⟨rfl, r4, r5, r6⟩; obtain ⟨t1, t2, t3⟩ := unhide HZ4 w4 r4 r6; have R4 := hide r4; have R5 := hide r5; clear r4 r5 r6))
        all_goals
          go_wp2
          go_roundg cnt'
          case measure => omega
          case rel =>
            have c0 := unhide HCl
            have := c0.lg.2.2.2.2
            have := c0.cn
            obtain ⟨V'', h''⟩ := (unhide HC2).turn (by omega) (by omega) hi hs (unhide R4) (unhide R5)
            exact ⟨cnt', V'', _, rfl, h''⟩
      · have HC2 := hide cl
        clear cl
        by_cases hk1 : (V'.om x).kind = 1
        · have e1 : ((V'.om x).kind == 1) = true := by simp [hk1]
          have e2 : decide (0 < (V'.om x).opn) = false := by simp; exact Int.not_lt.1 (fun h => hc ⟨hk1, h⟩)
          go_wp2
          go_roundg cnt'
          case measure => omega
          case rel => exact ⟨cnt', V', _, rfl, unhide HC2⟩
        · have e1 : ((V'.om x).kind == 1) = false := by simp [hk1]
          go_wp2
          go_roundg cnt'
          case measure => omega
          case rel => exact ⟨cnt', V', _, rfl, unhide HC2⟩

end Go.Proofs.YtigaphnafnpfnaaGreatDoor

