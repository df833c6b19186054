import Derived.Test.YtigaphnafnpfnaaGreatDoorPVM1
/- Looks into the maps; more methods of orders; a venue of which one book has turned. -/
set_option linter.unusedVariables false
set_option linter.unusedSimpArgs false
namespace Go.Proofs.YtigaphnafnpfnaaGreatDoor
open Go.RowKit Go.Maps
attribute [local go_sem ↓] Go.wp_at_zero Go.wp_at_succ

theorem Rep.lookO {w : World} {bv bm bo : Nat} {V : Ven} (R : Rep w bv bm bo V) {id : Int} (hid : (Lit.int .i64 id).wf = true) :
    (Instr.lookup 95 (.map (some bo)) (.int .i64 id) false).run Tryz.prog w = .ok (ptrO (V.oid id)) w := by
  obtain ⟨fO, mO, fO1⟩ := R.orders
  rw [mO.look law3 Tryz.underlying95 (zero80 _) (keyOf_int_mk Tryz.underlying3 hid), fO1]

theorem Rep.lookB {w : World} {bv bm bo : Nat} {V : Ven} (R : Rep w bv bm bo V) {i : Nat} (hi : i < V.nb) (hlen : (V.B i).sym.size ≤ maxLen) :
    (Instr.lookup 94 (.map (some bm)) (.string (V.B i).sym) false).run Tryz.prog w = .ok (.pointer (some ⟨V.bk i, 0, none⟩)) w := by
  obtain ⟨fB, mB, fB1, _⟩ := R.books
  rw [mB.look law9 Tryz.underlying94 (zero70 _) (WideMaps.keyOf_string_mk Tryz.underlying9 hlen)]
  show _ = Result.ok (ptrO (some (V.bk i))) _
  rw [← fB1 i hi]; rfl

/-- the market of one book of a venue -/
theorem Rep.mkt {w : World} {bv bm bo : Nat} {V : Ven} (R : Rep w bv bm bo V) {i : Nat} (hi : i < V.nb) : Mk w (V.bk i) (V.B i) V.om (fun x => ∃ id, V.oid id = some x) :=
  ⟨R.book i hi, fun b ⟨id, h⟩ => (R.ords id b h).2, fun s hs k hk => R.mem i hi s hs k hk⟩

def cancelF (o : Ord) (q : Int) : Ord := { o with filled := wrap64 (o.filled - q), canc := wrap64 (o.canc + q) }
def openF (o : Ord) (q : Int) : Ord := { o with filled := wrap64 (o.filled - q), opn := wrap64 (o.opn + q) }
def expireO (o : Ord) : Ord := { o with opn := 0, exp := wrap64 (o.exp + o.opn) }

set_option maxHeartbeats 400000 in
theorem cancelFilled_any (b : Nat) (o : Ord) (ix q : Int) (w : World) (ho : IsOrd w b o ix) :
    Calls Tryz.prog 124 #[.pointer (some ⟨b, 0, none⟩), .int .i64 q] w fun e w' => e = .returned (.func (.func 151) #[] #[.pointer (some ⟨w.heap.size + 1, 0, none⟩), .pointer (some ⟨w.heap.size, 0, none⟩)]) ∧ NowB w' w.heap.size b o ∧ IsOrd w' b (cancelF o q) ix ∧ Chg (fun x => x = b) w w' := by
  have HA := hide (asNow_any b o ix w ho)
  have lo := ho.lt
  go_enter Tryz.func124, Tryz.ntmps124
  go_wp2_with fail
  refine (unhide HA).mono ?_
  rintro e w1 ⟨rfl, n1, k1⟩
  have ho1 := k1.blk ho (fun x => x)
  have h1 : w1.cell? ⟨b, 9, none⟩ = some (.int .i64 o.filled) := Blk.cell ho1 9
  have h2 : w1.cell? ⟨b, 10, none⟩ = some (.int .i64 o.canc) := Blk.cell ho1 10
  have f1 := Blk.frozen ho1 9
  have f2 := Blk.frozen ho1 10
  go_wp2
  go_ret
  have k2 := ((Chg.refl (fun x => x = b) w1).setCell (p := ⟨b, 9, none⟩) (.inl rfl) (.int .i64 (cancelF o q).filled)).setCell (p := ⟨b, 10, none⟩) (.inl rfl) (.int .i64 (cancelF o q).canc)
  exact ⟨rfl, n1.kept k2 (by omega) (by omega), (ho1.set 9 _).set 10 _, k1.of_non.trans k2⟩

theorem cancelFilled_mk (bb b : Nat) (B : Bk) (om : Nat → Ord) (L : Nat → Prop) (q : Int) (w : World) (m : Mk w bb B om L) (hb : L b) :
    Calls Tryz.prog 124 #[.pointer (some ⟨b, 0, none⟩), .int .i64 q] w fun e w' => ∃ fn cp, e = .returned (.func fn #[] cp) ∧ IsNowF w' b (om b) w.heap.size fn cp ∧ Mk w' bb B (upd om b (cancelF (om b) q)) L ∧ Chg (fun x => x = b) w w' := by
  obtain ⟨ix, ho⟩ := m.ords b hb
  refine (cancelFilled_any b (om b) ix q w ho).mono ?_
  rintro e w' ⟨rfl, h0, h1, h2⟩
  exact ⟨_, _, rfl, ⟨rfl, _, Nat.le_refl _, rfl, h0⟩, m.upd ho h2 h1, h2⟩

set_option maxHeartbeats 400000 in
theorem openFilled_any (b : Nat) (o : Ord) (ix q : Int) (w : World) (ho : IsOrd w b o ix) :
    Calls Tryz.prog 125 #[.pointer (some ⟨b, 0, none⟩), .int .i64 q] w fun e w' => e = .returned (.func (.func 151) #[] #[.pointer (some ⟨w.heap.size + 1, 0, none⟩), .pointer (some ⟨w.heap.size, 0, none⟩)]) ∧ NowB w' w.heap.size b o ∧ IsOrd w' b (openF o q) ix ∧ Chg (fun x => x = b) w w' := by
  have HA := hide (asNow_any b o ix w ho)
  have lo := ho.lt
  go_enter Tryz.func125, Tryz.ntmps125
  go_wp2_with fail
  refine (unhide HA).mono ?_
  rintro e w1 ⟨rfl, n1, k1⟩
  have ho1 := k1.blk ho (fun x => x)
  have h1 : w1.cell? ⟨b, 9, none⟩ = some (.int .i64 o.filled) := Blk.cell ho1 9
  have h2 : w1.cell? ⟨b, 8, none⟩ = some (.int .i64 o.opn) := Blk.cell ho1 8
  have f1 := Blk.frozen ho1 9
  have f2 := Blk.frozen ho1 8
  go_wp2
  go_ret
  have k2 := ((Chg.refl (fun x => x = b) w1).setCell (p := ⟨b, 9, none⟩) (.inl rfl) (.int .i64 (openF o q).filled)).setCell (p := ⟨b, 8, none⟩) (.inl rfl) (.int .i64 (openF o q).opn)
  exact ⟨rfl, n1.kept k2 (by omega) (by omega), (ho1.set 9 _).set 8 _, k1.of_non.trans k2⟩

theorem openFilled_mk (bb b : Nat) (B : Bk) (om : Nat → Ord) (L : Nat → Prop) (q : Int) (w : World) (m : Mk w bb B om L) (hb : L b) :
    Calls Tryz.prog 125 #[.pointer (some ⟨b, 0, none⟩), .int .i64 q] w fun e w' => ∃ fn cp, e = .returned (.func fn #[] cp) ∧ IsNowF w' b (om b) w.heap.size fn cp ∧ Mk w' bb B (upd om b (openF (om b) q)) L ∧ Chg (fun x => x = b) w w' := by
  obtain ⟨ix, ho⟩ := m.ords b hb
  refine (openFilled_any b (om b) ix q w ho).mono ?_
  rintro e w' ⟨rfl, h0, h1, h2⟩
  exact ⟨_, _, rfl, ⟨rfl, _, Nat.le_refl _, rfl, h0⟩, m.upd ho h2 h1, h2⟩

/-- One book has turned, and some orders. -/
def Ven.turn (V : Ven) (i : Nat) (B' : Bk) (om' : Nat → Ord) : Ven := { V with B := upd V.B i B', om := om' }

/-- none of the other books' -/
def Apart (V : Ven) (i x : Nat) : Prop := ∀ j, j < V.nb → j ≠ i → ∀ t, t < 2 → ¬ SdB (V.B j) t x

theorem Rep.turnG {w w' : World} {bv bm bo i : Nat} {V : Ven} (R : Rep w bv bm bo V) (hi : i < V.nb) {B' : Bk} {om' : Nat → Ord} {S : Nat → Prop}
    (hm : Mk w' (V.bk i) B' om' (fun x => ∃ id, V.oid id = some x)) {G' : Lg} {lm' : Lm} (hl : IsLog w' bv bm bo G' lm') (k : Chg (fun x => S x ∨ V.lm.F x) w w') (hS : ∀ x, S x → x = V.bk i ∨ (∃ s, s < 2 ∧ SdB (V.B i) s x) ∨ ((∃ id, V.oid id = some x) ∧ Apart V i x))
    (hom : ∀ j, j < V.nb → j ≠ i → ∀ s, s < 2 → ∀ l, l < (V.B j).n s → om' ((V.B j).h s l) = V.om ((V.B j).h s l)) (hid : ∀ x, (om' x).id = (V.om x).id) (hsym : B'.sym = (V.B i).sym)
    (hsd : ∀ s, s < 2 → ∀ x, SdB B' s x → Apart V i x ∨ w.heap.size ≤ x) : Rep w' bv bm bo { V.turn i B' om' with lg := G', lm := lm' } := by
  have typ : ∀ x, S x → ∃ c t, Blk w x c t ∧ (t = 158 ∨ t = 116 ∨ t = 114) := fun x hx => by
    refine (R.mkt hi).typ ?_
    rcases hS x hx with h | h | ⟨h, _⟩
    · exact .inl h
    · exact .inr (.inr h)
    · exact .inr (.inl h)
  obtain ⟨fB, mB, fB1, fB2⟩ := R.books
  obtain ⟨fO, mO, fO1⟩ := R.orders
  have nB : ¬ (S bm ∨ V.lm.F bm) := by
    rintro (h | h)
    · obtain ⟨c, t, hc, _⟩ := typ bm h; exact mB.ne hc rfl
    · obtain ⟨c, t, hc, _⟩ := R.log.log.typ h; exact mB.ne hc rfl
  have nO : ¬ (S bo ∨ V.lm.F bo) := by
    rintro (h | h)
    · obtain ⟨c, t, hc, _⟩ := typ bo h; exact mO.ne hc rfl
    · obtain ⟨c, t, hc, _⟩ := R.log.log.typ h; exact mO.ne hc rfl
  have sdlt : ∀ j, j < V.nb → ∀ x, x < 2 → ∀ y, SdB (V.B j) x y → y < w.heap.size := fun j hj x hx y h => by
    rcases h with h | ⟨l, hl, rfl⟩
    · exact ((R.book j hj).side x hx).lt h
    · exact (((R.book j hj).side x hx).ords hl).lt
  have apart0 : ∀ s, s < 2 → ∀ x, SdB (V.B i) s x → Apart V i x := fun s hs x hx j hj hne t ht h => R.seps i j hi hj (fun e => hne e.symm) s t hs ht x hx h
  have far : ∀ j, j < V.nb → j ≠ i → IsBook w' (V.bk j) (V.B j) om' := fun j hj hne => by
    have h6 : IsBook w' (V.bk j) (V.B j) V.om := (R.book j hj).kept k (by
      intro x hxx hSF
      have hx : S x := hSF.resolve_right (fun hF => by
        obtain ⟨c, t', hc, ht'⟩ := R.log.log.typ hF
        rcases hxx with rfl | ⟨y, hy, h⟩
        · exact Blk.ne (R.book j hj).blk hc (by rcases ht' with rfl | rfl | rfl | rfl | rfl | rfl <;> decide) rfl
        · rcases h with h | ⟨l, hl, h⟩
          · exact ((R.book j hj).side y hy).ne hc (by rcases ht' with rfl | rfl | rfl | rfl | rfl | rfl <;> decide) h
          · subst h; exact Blk.ne hc (((R.book j hj).side y hy).ords hl) (by rcases ht' with rfl | rfl | rfl | rfl | rfl | rfl <;> decide) rfl)
      clear hSF
      rcases hxx with rfl | ⟨y, hy, h⟩
      · rcases hS _ hx with h | ⟨s, hs, h⟩ | ⟨⟨id, h⟩, _⟩
        · exact R.sepb j i hj hi hne h
        · rcases h with h | ⟨l, hl, h⟩
          · exact ((R.book i hi).side s hs).ne (R.book j hj).blk (by decide) h
          · exact Blk.ne (R.book j hj).blk (((R.book i hi).side s hs).ords hl) (by decide) h
        · obtain ⟨_, ix, ho⟩ := R.ords id _ h
          exact Blk.ne (R.book j hj).blk ho (by decide) rfl
      · rcases hS _ hx with e | ⟨s, hs, e⟩ | ⟨_, e⟩
        · rw [e] at h
          rcases h with h | ⟨l, hl, h⟩
          · exact ((R.book j hj).side y hy).ne (R.book i hi).blk (by decide) h
          · exact Blk.ne (R.book i hi).blk (((R.book j hj).side y hy).ords hl) (by decide) h
        · exact apart0 s hs x e j hj hne y hy h
        · exact e j hj hne y hy h)
    exact ⟨h6.blk, fun y hy => (h6.side y hy).om (fun l hl => hom j hj hne y hy l hl), h6.apart, h6.disj⟩
  refine ⟨hl, ⟨fB, mB.kept k nB, ?_, ?_⟩, ⟨fO, mO.kept k nO, fO1⟩, R.mne, ?_, ?_, ?_, R.sepb, ?_, R.no200⟩
  · intro j hj
    by_cases e : j = i
    · subst e; simp only [Ven.turn, upd_same, hsym]; exact fB1 j hj
    · simp only [Ven.turn, upd_other _ _ e]; exact fB1 j hj
  · intro s' b' h
    obtain ⟨j, hj, e1, e2⟩ := fB2 s' b' h
    refine ⟨j, hj, e1, ?_⟩
    by_cases e : j = i
    · subst e; simp only [Ven.turn, upd_same, hsym]; exact e2
    · simp only [Ven.turn, upd_other _ _ e]; exact e2
  · intro j hj
    by_cases e : j = i
    · subst e; simp only [Ven.turn, upd_same]; exact hm.book
    · simp only [Ven.turn, upd_other _ _ e]; exact far j hj e
  · intro id x hx
    simp only [Ven.turn] at hx ⊢
    rw [hid]
    exact ⟨(R.ords id x hx).1, hm.ords x ⟨id, hx⟩⟩
  · intro j hj x hx l hl
    simp only [Ven.turn] at hj hl ⊢
    by_cases e : j = i
    · subst e
      simp only [upd_same] at hl ⊢
      exact hm.mem x hx l hl
    · simp only [upd_other _ _ e] at hl ⊢
      exact R.mem j hj x hx l hl
  · intro p q hp hq hne x y hx hy z h1 h2
    have half : ∀ q, q < V.nb → q ≠ i → ∀ x y, x < 2 → y < 2 → ∀ z, SdB B' x z → SdB (V.B q) y z → False := by
      intro q hq hne x y hx hy z h1 h2
      rcases hsd x hx z h1 with h | h
      · exact h q hq hne y hy h2
      · have := sdlt q hq y hy z h2; omega
    simp only [Ven.turn] at h1 h2
    by_cases e : p = i
    · rw [e, upd_same] at h1
      rw [upd_other _ _ (show q ≠ i by omega)] at h2
      exact half q hq (by omega) x y hx hy z h1 h2
    · rw [upd_other _ _ e] at h1
      by_cases e2 : q = i
      · rw [e2, upd_same] at h2
        exact half p hp e y x hy hx z h2 h1
      · rw [upd_other _ _ e2] at h2
        exact R.seps p q hp hq hne x y hx hy z h1 h2

theorem Rep.turn {w w' : World} {bv bm bo i : Nat} {V : Ven} (R : Rep w bv bm bo V) (hi : i < V.nb) {B' : Bk} {om' : Nat → Ord} {S : Nat → Prop}
    (hm : Mk w' (V.bk i) B' om' (fun x => ∃ id, V.oid id = some x)) (k : Chg S w w') (hS : ∀ x, S x → x = V.bk i ∨ (∃ s, s < 2 ∧ SdB (V.B i) s x) ∨ ((∃ id, V.oid id = some x) ∧ Apart V i x))
    (hom : ∀ j, j < V.nb → j ≠ i → ∀ s, s < 2 → ∀ l, l < (V.B j).n s → om' ((V.B j).h s l) = V.om ((V.B j).h s l)) (hid : ∀ x, (om' x).id = (V.om x).id) (hsym : B'.sym = (V.B i).sym)
    (hsd : ∀ s, s < 2 → ∀ x, SdB B' s x → Apart V i x ∨ w.heap.size ≤ x) : Rep w' bv bm bo (V.turn i B' om') :=
  R.turnG hi hm (R.log.keptT k (fun x hx => (R.mkt hi).typ (by
    rcases hS x hx with h | h | ⟨h, _⟩
    · exact .inl h
    · exact .inr (.inr h)
    · exact .inr (.inl h)))) (k.mono (fun x h => .inl h)) hS hom hid hsym hsd

end Go.Proofs.YtigaphnafnpfnaaGreatDoor

/- toPutRight -/
set_option linter.unusedVariables false
set_option linter.unusedSimpArgs false
namespace Go.Proofs.YtigaphnafnpfnaaGreatDoor
open Go.RowKit Go.Maps
attribute [local go_sem ↓] Go.wp_at_zero Go.wp_at_succ

theorem LogVp.at {w : World} {G : Lg} {m : Lm} (h : LogV w G m) {k : Nat} {x : Tg} (hx : G.tr[k]? = some x) :
    ∃ g cap b, m.tv = .slice (some ⟨g, 0, none⟩) G.tr.length cap ∧ w.cell? ⟨g, k, none⟩ = some (.pointer (some ⟨b, 0, none⟩)) ∧ m.tb[k]? = some b ∧ Blk w b x.cells 105 := by
  have hk : k < G.tr.length := (List.getElem?_eq_some_iff.1 hx).1
  have hb : k < m.tb.length := by rw [h.len]; exact hk
  rcases h.trow.2 with ⟨_, h0⟩ | ⟨g, cap, cs, hv, _, hg, h1, h2, h3, h4⟩
  · omega
  · refine ⟨g, cap, m.tb[k], hv, ?_, List.getElem?_eq_getElem hb, h.blk k _ x (List.getElem?_eq_getElem hb) hx⟩
    have hc : Blk w g cs 103 := hg
    rw [hc.cell]
    have e : cs.toList[k]? = (m.tb.map ptrT)[k]? := by rw [← h4, List.getElem?_take, if_pos (by omega)]
    rw [← Array.getElem?_toList, e, List.getElem?_map, List.getElem?_eq_getElem hb]
    rfl

set_option maxHeartbeats 1000000 in
set_option maxRecDepth 100000 in
theorem toPut_none (bv bm bo : Nat) (G : Lg) (lm : Lm) (N : Int) (w : World) (hL : IsLog w bv bm bo G lm) (h : N < 1 ∨ (G.tr.length : Int) < N) :
    Calls Tryz.prog 71 #[.pointer (some ⟨bv, 0, none⟩), .int .i64 N] w fun e w' => e = .returned (.tuple #[.pointer none, .int .i64 6]) ∧ Chg Non w w' := by
  obtain ⟨n, hn⟩ : ∃ n, G.tr.length = n := ⟨_, rfl⟩
  rw [hn] at h
  obtain ⟨pa, pc, htv⟩ := hL.log.tvForm hn
  have v2 : w.cell? ⟨bv, 2, none⟩ = some (.slice pa n pc) := by rw [← htv]; exact hL.ven.cell 2
  clear hL htv hn
  by_cases h1 : N < 1
  · have e1 : decide (N < 1) = true := by simp [h1]
    clear h h1
    go_enter Tryz.func71, Tryz.ntmps71
    go_wp2
    go_ret2
    exact ⟨rfl, by repeat (first | exact Chg.refl _ _ | refine Chg.drewN ?_ _ | refine Chg.drew ?_)⟩
  · have e1 : decide (N < 1) = false := by simp [h1]
    have e2 : decide ((n : Int) < N) = true := by simp; omega
    clear h h1
    go_enter Tryz.func71, Tryz.ntmps71
    go_wp2
    go_ret2
    exact ⟨rfl, by repeat (first | exact Chg.refl _ _ | refine Chg.drewN ?_ _ | refine Chg.drew ?_)⟩

/-- what toPutRight says of a trade that there was -/
def putE (x : Tg) (day : Int) : Int := if x.holds = false then 10 else if x.t.day ≠ day then 11 else 0

set_option maxHeartbeats 1000000 in
set_option maxRecDepth 100000 in
theorem toPut_at (bv bm bo k b : Nat) (G : Lg) (lm : Lm) (N : Int) (x : Tg) (w : World) (hL : IsLog w bv bm bo G lm) (hN : N - 1 = (k : Int)) (hx : G.tr[k]? = some x) (hb : lm.tb[k]? = some b) (hlen : G.tr.length ≤ 1000000000) :
    Calls Tryz.prog 71 #[.pointer (some ⟨bv, 0, none⟩), .int .i64 N] w fun e w' => e = .returned (.tuple #[if putE x G.day = 0 then .pointer (some ⟨b, 0, none⟩) else .pointer none, .int .i64 (putE x G.day)]) ∧ Chg Non w w' := by
  obtain ⟨g, pc, b', htv, hc, hb', hblk⟩ := hL.log.at hx
  obtain rfl : b' = b := by rw [hb] at hb'; exact (Option.some.inj hb').symm
  have hk : k < G.tr.length := (List.getElem?_eq_some_iff.1 hx).1
  have v2 : w.cell? ⟨bv, 2, none⟩ = some (.slice (some ⟨g, 0, none⟩) G.tr.length pc) := by rw [← htv]; exact hL.ven.cell 2
  have v4 : w.cell? ⟨bv, 4, none⟩ = some (.int .i64 G.day) := hL.ven.cell 4
  have t6 : w.cell? ⟨b', 6, none⟩ = some (.int .i64 x.t.day) := hblk.cell 6
  have t7 : w.cell? ⟨b', 7, none⟩ = some (.bool x.holds) := hblk.cell 7
  generalize G.tr.length = n at *
  have e1 : decide (N < 1) = false := by simp; omega
  have e2 : decide ((n : Int) < N) = false := by simp; omega
  have hN0 : 0 ≤ N - 1 := by omega
  have hN1 : N - 1 < (n : Int) := by omega
  have hw : wrap64 (N - 1) = (k : Int) := by rw [hN]; exact wrap64_id (by omega) (by omega)
  clear hL htv hblk hb hb' hx
  obtain ⟨xt, xh⟩ := x
  simp only at t6 t7
  cases xh with
  | false =>
    have HP : Hid (putE ⟨xt, false⟩ G.day = 10) := by show _ = _; simp [putE]
    rw [unhide HP]
    go_enter Tryz.func71, Tryz.ntmps71
    go_wp2
    go_ret2
    exact ⟨rfl, by repeat (first | exact Chg.refl _ _ | refine Chg.drewN ?_ _ | refine Chg.drew ?_)⟩
  | true =>
    by_cases hd : xt.day = G.day
    · have ed : (xt.day != G.day) = false := by simp [hd]
      have HP : Hid (putE ⟨xt, true⟩ G.day = 0) := by show _ = _; simp [putE, hd]
      rw [unhide HP]
      clear hd
      go_enter Tryz.func71, Tryz.ntmps71
      go_wp2
      go_quiet (fail)
      go_wp2
      go_ret2
      exact ⟨rfl, by repeat (first | exact Chg.refl _ _ | refine Chg.drewN ?_ _ | refine Chg.drew ?_)⟩
    · have ed : (xt.day != G.day) = true := by simp [hd]
      have HP : Hid (putE ⟨xt, true⟩ G.day = 11) := by show _ = _; simp [putE, hd]
      rw [unhide HP]
      clear hd
      go_enter Tryz.func71, Tryz.ntmps71
      go_wp2
      go_quiet (fail)
      go_wp2
      go_ret2
      exact ⟨rfl, by repeat (first | exact Chg.refl _ _ | refine Chg.drewN ?_ _ | refine Chg.drew ?_)⟩

end Go.Proofs.YtigaphnafnpfnaaGreatDoor

set_option linter.unusedVariables false
set_option linter.unusedSimpArgs false
/- The document's Status. -/
namespace Go.Proofs.YtigaphnafnpfnaaGreatDoor
open Go.RowKit
attribute [local go_sem ↓] Go.wp_at_zero Go.wp_at_succ

theorem res101 (tmps : Array Value) (H : Nat) (w : World) (x : Int) (c0 c1 c3 c4 c5 c6 c7 c8 c9 c10 c11 : Int) (c2 : ByteArray) (ht : tmps.getD 4 undef = .pointer (some ⟨H, 0, none⟩)) (hu : tmps.getD 5 undef = .int .i64 x)
    (hb : Blk w H #[.int .i64 c0, .int .i64 c1, .string c2, .int .i64 c3, .int .i64 c4, .int .i64 c5, .int .i64 c6, .int .i64 c7, .int .i64 c8, .int .i64 c9, .int .i64 c10, .int .i64 c11] 54) :
    (results Tryz.f101 tmps).run Tryz.prog w = .ok (.tuple #[.agg #[.int .i64 c0, .int .i64 c1, .string c2, .int .i64 c3, .int .i64 c4, .int .i64 c5, .int .i64 c6, .int .i64 c7, .int .i64 c8, .int .i64 c9, .int .i64 c10, .int .i64 c11], .int .i64 x]) w := by
  have k0 : w.cell? ⟨H, 0, none⟩ = some (.int .i64 c0) := hb.cell 0
  have k1 : w.cell? ⟨H, 1, none⟩ = some (.int .i64 c1) := hb.cell 1
  have k2 : w.cell? ⟨H, 2, none⟩ = some (.string c2) := hb.cell 2
  have k3 : w.cell? ⟨H, 3, none⟩ = some (.int .i64 c3) := hb.cell 3
  have k4 : w.cell? ⟨H, 4, none⟩ = some (.int .i64 c4) := hb.cell 4
  have k5 : w.cell? ⟨H, 5, none⟩ = some (.int .i64 c5) := hb.cell 5
  have k6 : w.cell? ⟨H, 6, none⟩ = some (.int .i64 c6) := hb.cell 6
  have k7 : w.cell? ⟨H, 7, none⟩ = some (.int .i64 c7) := hb.cell 7
  have k8 : w.cell? ⟨H, 8, none⟩ = some (.int .i64 c8) := hb.cell 8
  have k9 : w.cell? ⟨H, 9, none⟩ = some (.int .i64 c9) := hb.cell 9
  have k10 : w.cell? ⟨H, 10, none⟩ = some (.int .i64 c10) := hb.cell 10
  have k11 : w.cell? ⟨H, 11, none⟩ = some (.int .i64 c11) := hb.cell 11
  simp only [Array.getD_eq_getD_getElem?] at ht hu
  simp [results, Tryz.results101, go_sem, ht, hu, k0, k1, k2, k3, k4, k5, k6, k7, k8, k9, k10, k11]

theorem rchg12 {W : World} {r : Nat} (v0 v1 v2 v3 v4 v5 v6 v7 v8 v9 v10 v11 : Value) : Chg (fun x => x = r) W ((((((((((((W.setCell ⟨r, 0, none⟩ v0).setCell ⟨r, 1, none⟩ v1).setCell ⟨r, 2, none⟩ v2).setCell ⟨r, 3, none⟩ v3).setCell ⟨r, 4, none⟩ v4).setCell ⟨r, 5, none⟩ v5).setCell ⟨r, 6, none⟩ v6).setCell ⟨r, 7, none⟩ v7).setCell ⟨r, 8, none⟩ v8).setCell ⟨r, 9, none⟩ v9).setCell ⟨r, 10, none⟩ v10).setCell ⟨r, 11, none⟩ v11) :=
  (((((((((((((Chg.refl (fun x => x = r) W).setCell (p := ⟨r, 0, none⟩) (.inl rfl) _).setCell (p := ⟨r, 1, none⟩) (.inl rfl) _).setCell (p := ⟨r, 2, none⟩) (.inl rfl) _).setCell (p := ⟨r, 3, none⟩) (.inl rfl) _).setCell (p := ⟨r, 4, none⟩) (.inl rfl) _).setCell (p := ⟨r, 5, none⟩) (.inl rfl) _).setCell (p := ⟨r, 6, none⟩) (.inl rfl) _).setCell (p := ⟨r, 7, none⟩) (.inl rfl) _).setCell (p := ⟨r, 8, none⟩) (.inl rfl) _).setCell (p := ⟨r, 9, none⟩) (.inl rfl) _).setCell (p := ⟨r, 10, none⟩) (.inl rfl) _).setCell (p := ⟨r, 11, none⟩) (.inl rfl) _)

set_option maxRecDepth 100000 in
set_option maxHeartbeats 4000000 in
theorem rstatus_none (base rb : Nat) (A : List RAct) (R : List Rc) (L : ByteArray) (av rv : Value) (S : RS) (id : Int) (w : World) (h : RV w base rb A R L av rv) (hh : Hist A S) (hn : A.length ≤ 1000000000) (hlen : S.l.length ≤ 1000) (hid : ordX S.l id = none) :
    Calls Tryz.prog 101 #[.pointer (some ⟨rb, 0, none⟩), .int .i64 id] w fun e w' => e = .returned (.tuple #[.agg zero12, .int .i64 6]) ∧ Chg Non w w' := by
  obtain ⟨W1, hW1⟩ : ∃ W1, W1 = w.alloc (.cells zero12 54) := ⟨_, rfl⟩
  have k1 : Chg Non w W1 := by rw [hW1]; exact (Chg.refl Non w).alloc _
  have hs1 : W1.heap.size = w.heap.size + 1 := by rw [hW1]; simp
  have b0 : Blk W1 w.heap.size zero12 54 := by rw [hW1]; exact Blk.new w _ _
  have HST := hide (rstate_any base rb A R L av rv S W1 (h.kept0 k1) hh hn)
  rw [hs1] at HST
  have HB0 := hide b0
  have HK1 := hide k1
  have HW1 := hide hW1
  have HID := hide hid
  simp only [zero12] at HW1 ⊢
  clear hh h k1 hs1 b0 hW1 hid
  go_enter Tryz.func101, Tryz.ntmps101
  go_wp2_with fail
  rw [← unhide HW1]
  refine (unhide HST).mono ?_
  rintro e w2 ⟨rfl, ⟨m, st⟩, k2⟩
  have HO := hide (rorder_any _ _ S m id w2 st hlen)
  rw [unhide HID] at HO
  have HK2 := hide k2
  have bz := k2.blk (unhide HB0) (fun x => x)
  have z0 : w2.cell? ⟨w.heap.size, 0, none⟩ = some (.int .i64 0) := bz.cell 0
  have fz0 := bz.frozen 0
  have z1 : w2.cell? ⟨w.heap.size, 1, none⟩ = some (.int .i64 0) := bz.cell 1
  have fz1 := bz.frozen 1
  have z2 : w2.cell? ⟨w.heap.size, 2, none⟩ = some (.string ⟨#[]⟩) := bz.cell 2
  have fz2 := bz.frozen 2
  have z3 : w2.cell? ⟨w.heap.size, 3, none⟩ = some (.int .i64 0) := bz.cell 3
  have fz3 := bz.frozen 3
  have z4 : w2.cell? ⟨w.heap.size, 4, none⟩ = some (.int .i64 0) := bz.cell 4
  have fz4 := bz.frozen 4
  have z5 : w2.cell? ⟨w.heap.size, 5, none⟩ = some (.int .i64 0) := bz.cell 5
  have fz5 := bz.frozen 5
  have z6 : w2.cell? ⟨w.heap.size, 6, none⟩ = some (.int .i64 0) := bz.cell 6
  have fz6 := bz.frozen 6
  have z7 : w2.cell? ⟨w.heap.size, 7, none⟩ = some (.int .i64 0) := bz.cell 7
  have fz7 := bz.frozen 7
  have z8 : w2.cell? ⟨w.heap.size, 8, none⟩ = some (.int .i64 0) := bz.cell 8
  have fz8 := bz.frozen 8
  have z9 : w2.cell? ⟨w.heap.size, 9, none⟩ = some (.int .i64 0) := bz.cell 9
  have fz9 := bz.frozen 9
  have z10 : w2.cell? ⟨w.heap.size, 10, none⟩ = some (.int .i64 0) := bz.cell 10
  have fz10 := bz.frozen 10
  have z11 : w2.cell? ⟨w.heap.size, 11, none⟩ = some (.int .i64 0) := bz.cell 11
  have fz11 := bz.frozen 11
  have HB2 := hide bz
  clear st k2 HST bz
  go_wp2_with fail
  refine (unhide HO).mono ?_
  rintro e w3 ⟨rfl, hw3⟩
  rw [hw3]
  clear hw3 w3
  simp only [oi]
  go_wp2
  refine bodyPost_ret (res101 _ w.heap.size _ 6 0 0 0 0 0 0 0 0 0 0 0 ⟨#[]⟩ rfl rfl ?_) rfl ⟨rfl, ?_⟩
  · exact set12 (unhide HB2) _ _ _ _ _ _ _ _ _ _ _ _
  · exact ((unhide HK1).trans (unhide HK2)).from ((rchg12 _ _ _ _ _ _ _ _ _ _ _ _).mono (fun b hb => .inr (by omega)))

set_option maxRecDepth 100000 in
set_option maxHeartbeats 4000000 in
theorem rstatus_some (base rb k : Nat) (A : List RAct) (R : List Rc) (L : ByteArray) (av rv : Value) (S : RS) (id : Int) (w : World) (h : RV w base rb A R L av rv) (hh : Hist A S) (hn : A.length ≤ 1000000000) (hlen : S.l.length ≤ 1000) (hid : ordX S.l id = some k) :
    Calls Tryz.prog 101 #[.pointer (some ⟨rb, 0, none⟩), .int .i64 id] w fun e w' => e = .returned (.tuple #[.agg (statC (nthO S.l k)), .int .i64 0]) ∧ Chg Non w w' := by
  obtain ⟨W1, hW1⟩ : ∃ W1, W1 = w.alloc (.cells zero12 54) := ⟨_, rfl⟩
  have k1 : Chg Non w W1 := by rw [hW1]; exact (Chg.refl Non w).alloc _
  have hs1 : W1.heap.size = w.heap.size + 1 := by rw [hW1]; simp
  have b0 : Blk W1 w.heap.size zero12 54 := by rw [hW1]; exact Blk.new w _ _
  have HST := hide (rstate_any base rb A R L av rv S W1 (h.kept0 k1) hh hn)
  rw [hs1] at HST
  have HB0 := hide b0
  have HK1 := hide k1
  have HW1 := hide hW1
  have HID := hide hid
  have hkl := (ordX_lt hid).1
  obtain ⟨o, ho⟩ : ∃ o, nthO S.l k = o := ⟨_, rfl⟩
  have HOO := hide ho
  rw [ho]
  simp only [zero12] at HW1
  simp only [statC]
  obtain ⟨N, hN⟩ : ∃ N, S.l.length = N := ⟨_, rfl⟩
  have HN := hide hN
  rw [hN] at hkl hlen
  clear hh h k1 hs1 b0 hW1 hid ho hN
  go_enter Tryz.func101, Tryz.ntmps101
  go_wp2_with fail
  rw [← unhide HW1]
  refine (unhide HST).mono ?_
  rintro e w2 ⟨rfl, ⟨m, st⟩, k2⟩
  have HO := hide (rorder_any _ _ S m id w2 st (by rw [unhide HN]; exact hlen))
  rw [unhide HID] at HO
  obtain ⟨g, gc, u1, _, _, lg, _, hc, _⟩ := st.see (unhide HN) (by omega)
  have hcc := hc k hkl
  rw [unhide HOO] at hcc
  have o0 : w2.cell? ⟨g, k * 13, none⟩ = some (.int .i64 o.id) := hcc 0 _ rfl
  have o1 : w2.cell? ⟨g, k * 13 + 1, none⟩ = some (.int .i64 o.owner) := hcc 1 _ rfl
  have o2 : w2.cell? ⟨g, k * 13 + 2, none⟩ = some (.string o.sym) := hcc 2 _ rfl
  have o3 : w2.cell? ⟨g, k * 13 + 3, none⟩ = some (.int .i64 o.side) := hcc 3 _ rfl
  have o4 : w2.cell? ⟨g, k * 13 + 4, none⟩ = some (.int .i64 o.kind) := hcc 4 _ rfl
  have o5 : w2.cell? ⟨g, k * 13 + 5, none⟩ = some (.int .i64 o.price) := hcc 5 _ rfl
  have o6 : w2.cell? ⟨g, k * 13 + 6, none⟩ = some (.int .i64 o.qty) := hcc 6 _ rfl
  have o7 : w2.cell? ⟨g, k * 13 + 7, none⟩ = some (.int .i64 o.entered) := hcc 7 _ rfl
  have o8 : w2.cell? ⟨g, k * 13 + 8, none⟩ = some (.int .i64 o.opn) := hcc 8 _ rfl
  have o9 : w2.cell? ⟨g, k * 13 + 9, none⟩ = some (.int .i64 o.filled) := hcc 9 _ rfl
  have o10 : w2.cell? ⟨g, k * 13 + 10, none⟩ = some (.int .i64 o.canc) := hcc 10 _ rfl
  have o11 : w2.cell? ⟨g, k * 13 + 11, none⟩ = some (.int .i64 o.exp) := hcc 11 _ rfl
  have o12 : w2.cell? ⟨g, k * 13 + 12, none⟩ = some (.int .i64 o.place) := hcc 12 _ rfl
  have HK2 := hide k2
  have bz := k2.blk (unhide HB0) (fun x => x)
  have z0 : w2.cell? ⟨w.heap.size, 0, none⟩ = some (.int .i64 0) := bz.cell 0
  have fz0 := bz.frozen 0
  have z1 : w2.cell? ⟨w.heap.size, 1, none⟩ = some (.int .i64 0) := bz.cell 1
  have fz1 := bz.frozen 1
  have z2 : w2.cell? ⟨w.heap.size, 2, none⟩ = some (.string ⟨#[]⟩) := bz.cell 2
  have fz2 := bz.frozen 2
  have z3 : w2.cell? ⟨w.heap.size, 3, none⟩ = some (.int .i64 0) := bz.cell 3
  have fz3 := bz.frozen 3
  have z4 : w2.cell? ⟨w.heap.size, 4, none⟩ = some (.int .i64 0) := bz.cell 4
  have fz4 := bz.frozen 4
  have z5 : w2.cell? ⟨w.heap.size, 5, none⟩ = some (.int .i64 0) := bz.cell 5
  have fz5 := bz.frozen 5
  have z6 : w2.cell? ⟨w.heap.size, 6, none⟩ = some (.int .i64 0) := bz.cell 6
  have fz6 := bz.frozen 6
  have z7 : w2.cell? ⟨w.heap.size, 7, none⟩ = some (.int .i64 0) := bz.cell 7
  have fz7 := bz.frozen 7
  have z8 : w2.cell? ⟨w.heap.size, 8, none⟩ = some (.int .i64 0) := bz.cell 8
  have fz8 := bz.frozen 8
  have z9 : w2.cell? ⟨w.heap.size, 9, none⟩ = some (.int .i64 0) := bz.cell 9
  have fz9 := bz.frozen 9
  have z10 : w2.cell? ⟨w.heap.size, 10, none⟩ = some (.int .i64 0) := bz.cell 10
  have fz10 := bz.frozen 10
  have z11 : w2.cell? ⟨w.heap.size, 11, none⟩ = some (.int .i64 0) := bz.cell 11
  have fz11 := bz.frozen 11
  have lz := bz.lt
  have HB2 := hide bz
  clear st k2 HST bz hc hcc
  go_wp2_with fail
  refine (unhide HO).mono ?_
  rintro e w3 ⟨rfl, hw3⟩
  rw [hw3]
  clear hw3 w3
  simp only [oi]
  go_wp2
  refine bodyPost_ret (res101 _ w.heap.size _ 0 o.id o.owner o.side o.kind o.price o.qty o.entered o.opn o.filled o.canc o.exp o.sym rfl rfl ?_) rfl ⟨rfl, ?_⟩
  · exact (set12 (unhide HB2) _ _ _ _ _ _ _ _ _ _ _ _).alloc _
  · exact (((unhide HK1).trans (unhide HK2)).from ((rchg12 _ _ _ _ _ _ _ _ _ _ _ _).mono (fun b hb => .inr (by omega)))).alloc _

end Go.Proofs.YtigaphnafnpfnaaGreatDoor

