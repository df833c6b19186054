import Derived.Test.YtigaphnafnpfnaaGreatDoorHC5
/- Looks into the maps; more methods of orders; a venue of which one book has turned. -/
set_option linter.unusedVariables false
set_option linter.unusedSimpArgs false
namespace Go.Proofs.YtigaphnafnpfnaaGreatDoor
open Go.RowKit Go.Maps
attribute [local go_sem ↓] Go.wp_at_zero Go.wp_at_succ

theorem Rep.lookO {w : World} {bv bm bo : Nat} {V : Ven} (R : Rep w bv bm bo V) {id : Int} (hid : (Lit.int .i64 id).wf = true) :
    (Instr.lookup 95 (.map (some bo)) (.int .i64 id) false).run Tryz.prog w = .ok (ptrO (V.oid id)) w := by
  obtain ⟨fO, mO, fO1⟩ := R.orders
  rw [mO.look law3 Tryz.underlying95 (zero80 _) (keyOf_int_mk Tryz.underlying3 hid), fO1]

theorem Rep.lookB {w : World} {bv bm bo : Nat} {V : Ven} (R : Rep w bv bm bo V) {i : Nat} (hi : i < V.nb) (hlen : (V.B i).sym.size ≤ maxLen) :
    (Instr.lookup 94 (.map (some bm)) (.string (V.B i).sym) false).run Tryz.prog w = .ok (.pointer (some ⟨V.bk i, 0, none⟩)) w := by
  obtain ⟨fB, mB, fB1, _⟩ := R.books
  rw [mB.look law9 Tryz.underlying94 (zero70 _) (WideMaps.keyOf_string_mk Tryz.underlying9 hlen)]
  show _ = Result.ok (ptrO (some (V.bk i))) _
  rw [← fB1 i hi]; rfl

/-- the market of one book of a venue -/
theorem Rep.mkt {w : World} {bv bm bo : Nat} {V : Ven} (R : Rep w bv bm bo V) {i : Nat} (hi : i < V.nb) : Mk w (V.bk i) (V.B i) V.om (fun x => ∃ id, V.oid id = some x) :=
  ⟨R.book i hi, fun b ⟨id, h⟩ => (R.ords id b h).2, fun s hs k hk => R.mem i hi s hs k hk⟩

def cancelF (o : Ord) (q : Int) : Ord := { o with filled := wrap64 (o.filled - q), canc := wrap64 (o.canc + q) }
def openF (o : Ord) (q : Int) : Ord := { o with filled := wrap64 (o.filled - q), opn := wrap64 (o.opn + q) }
def expireO (o : Ord) : Ord := { o with opn := 0, exp := wrap64 (o.exp + o.opn) }

set_option maxHeartbeats 400000 in
theorem cancelFilled_any (b : Nat) (o : Ord) (ix q : Int) (w : World) (ho : IsOrd w b o ix) :
    Calls Tryz.prog 124 #[.pointer (some ⟨b, 0, none⟩), .int .i64 q] w fun e w' => e = .returned (.func (.func 151) #[] #[.pointer (some ⟨w.heap.size + 1, 0, none⟩), .pointer (some ⟨w.heap.size, 0, none⟩)]) ∧ NowB w' w.heap.size b o ∧ IsOrd w' b (cancelF o q) ix ∧ Chg (fun x => x = b) w w' := by
  have HA := hide (asNow_any b o ix w ho)
  have lo := ho.lt
  go_enter Tryz.func124, Tryz.ntmps124
  go_wp2_with fail
  refine (unhide HA).mono ?_
  rintro e w1 ⟨rfl, n1, k1⟩
  have ho1 := k1.blk ho (fun x => x)
  have h1 : w1.cell? ⟨b, 9, none⟩ = some (.int .i64 o.filled) := Blk.cell ho1 9
  have h2 : w1.cell? ⟨b, 10, none⟩ = some (.int .i64 o.canc) := Blk.cell ho1 10
  have f1 := Blk.frozen ho1 9
  have f2 := Blk.frozen ho1 10
  go_wp2
  go_ret
  have k2 := ((Chg.refl (fun x => x = b) w1).setCell (p := ⟨b, 9, none⟩) (.inl rfl) (.int .i64 (cancelF o q).filled)).setCell (p := ⟨b, 10, none⟩) (.inl rfl) (.int .i64 (cancelF o q).canc)
  exact ⟨rfl, n1.kept k2 (by omega) (by omega), (ho1.set 9 _).set 10 _, k1.of_non.trans k2⟩

theorem cancelFilled_mk (bb b : Nat) (B : Bk) (om : Nat → Ord) (L : Nat → Prop) (q : Int) (w : World) (m : Mk w bb B om L) (hb : L b) :
    Calls Tryz.prog 124 #[.pointer (some ⟨b, 0, none⟩), .int .i64 q] w fun e w' => ∃ fn cp, e = .returned (.func fn #[] cp) ∧ IsNowF w' b (om b) w.heap.size fn cp ∧ Mk w' bb B (upd om b (cancelF (om b) q)) L ∧ Chg (fun x => x = b) w w' := by
  obtain ⟨ix, ho⟩ := m.ords b hb
  refine (cancelFilled_any b (om b) ix q w ho).mono ?_
  rintro e w' ⟨rfl, h0, h1, h2⟩
  exact ⟨_, _, rfl, ⟨rfl, _, Nat.le_refl _, rfl, h0⟩, m.upd ho h2 h1, h2⟩

set_option maxHeartbeats 400000 in
theorem openFilled_any (b : Nat) (o : Ord) (ix q : Int) (w : World) (ho : IsOrd w b o ix) :
    Calls Tryz.prog 125 #[.pointer (some ⟨b, 0, none⟩), .int .i64 q] w fun e w' => e = .returned (.func (.func 151) #[] #[.pointer (some ⟨w.heap.size + 1, 0, none⟩), .pointer (some ⟨w.heap.size, 0, none⟩)]) ∧ NowB w' w.heap.size b o ∧ IsOrd w' b (openF o q) ix ∧ Chg (fun x => x = b) w w' := by
  have HA := hide (asNow_any b o ix w ho)
  have lo := ho.lt
  go_enter Tryz.func125, Tryz.ntmps125
  go_wp2_with fail
  refine (unhide HA).mono ?_
  rintro e w1 ⟨rfl, n1, k1⟩
  have ho1 := k1.blk ho (fun x => x)
  have h1 : w1.cell? ⟨b, 9, none⟩ = some (.int .i64 o.filled) := Blk.cell ho1 9
  have h2 : w1.cell? ⟨b, 8, none⟩ = some (.int .i64 o.opn) := Blk.cell ho1 8
  have f1 := Blk.frozen ho1 9
  have f2 := Blk.frozen ho1 8
  go_wp2
  go_ret
  have k2 := ((Chg.refl (fun x => x = b) w1).setCell (p := ⟨b, 9, none⟩) (.inl rfl) (.int .i64 (openF o q).filled)).setCell (p := ⟨b, 8, none⟩) (.inl rfl) (.int .i64 (openF o q).opn)
  exact ⟨rfl, n1.kept k2 (by omega) (by omega), (ho1.set 9 _).set 8 _, k1.of_non.trans k2⟩

theorem openFilled_mk (bb b : Nat) (B : Bk) (om : Nat → Ord) (L : Nat → Prop) (q : Int) (w : World) (m : Mk w bb B om L) (hb : L b) :
    Calls Tryz.prog 125 #[.pointer (some ⟨b, 0, none⟩), .int .i64 q] w fun e w' => ∃ fn cp, e = .returned (.func fn #[] cp) ∧ IsNowF w' b (om b) w.heap.size fn cp ∧ Mk w' bb B (upd om b (openF (om b) q)) L ∧ Chg (fun x => x = b) w w' := by
  obtain ⟨ix, ho⟩ := m.ords b hb
  refine (openFilled_any b (om b) ix q w ho).mono ?_
  rintro e w' ⟨rfl, h0, h1, h2⟩
  exact ⟨_, _, rfl, ⟨rfl, _, Nat.le_refl _, rfl, h0⟩, m.upd ho h2 h1, h2⟩

/-- One book has turned, and some orders. -/
def Ven.turn (V : Ven) (i : Nat) (B' : Bk) (om' : Nat → Ord) : Ven := { V with B := upd V.B i B', om := om' }

/-- none of the other books' -/
def Apart (V : Ven) (i x : Nat) : Prop := ∀ j, j < V.nb → j ≠ i → ∀ t, t < 2 → ¬ SdB (V.B j) t x

theorem Rep.turnG {w w' : World} {bv bm bo i : Nat} {V : Ven} (R : Rep w bv bm bo V) (hi : i < V.nb) {B' : Bk} {om' : Nat → Ord} {S : Nat → Prop}
    (hm : Mk w' (V.bk i) B' om' (fun x => ∃ id, V.oid id = some x)) {G' : Lg} {lm' : Lm} (hl : IsLog w' bv bm bo G' lm') (k : Chg (fun x => S x ∨ V.lm.F x) w w') (hS : ∀ x, S x → x = V.bk i ∨ (∃ s, s < 2 ∧ SdB (V.B i) s x) ∨ ((∃ id, V.oid id = some x) ∧ Apart V i x))
    (hom : ∀ j, j < V.nb → j ≠ i → ∀ s, s < 2 → ∀ l, l < (V.B j).n s → om' ((V.B j).h s l) = V.om ((V.B j).h s l)) (hid : ∀ x, (om' x).id = (V.om x).id) (hsym : B'.sym = (V.B i).sym)
    (hsd : ∀ s, s < 2 → ∀ x, SdB B' s x → Apart V i x ∨ w.heap.size ≤ x) : Rep w' bv bm bo { V.turn i B' om' with lg := G', lm := lm' } := by
  have typ : ∀ x, S x → ∃ c t, Blk w x c t ∧ (t = 158 ∨ t = 116 ∨ t = 114) := fun x hx => by
    refine (R.mkt hi).typ ?_
    rcases hS x hx with h | h | ⟨h, _⟩
    · exact .inl h
    · exact .inr (.inr h)
    · exact .inr (.inl h)
  obtain ⟨fB, mB, fB1, fB2⟩ := R.books
  obtain ⟨fO, mO, fO1⟩ := R.orders
  have nB : ¬ (S bm ∨ V.lm.F bm) := by
    rintro (h | h)
    · obtain ⟨c, t, hc, _⟩ := typ bm h; exact mB.ne hc rfl
    · obtain ⟨c, t, hc, _⟩ := R.log.log.typ h; exact mB.ne hc rfl
  have nO : ¬ (S bo ∨ V.lm.F bo) := by
    rintro (h | h)
    · obtain ⟨c, t, hc, _⟩ := typ bo h; exact mO.ne hc rfl
    · obtain ⟨c, t, hc, _⟩ := R.log.log.typ h; exact mO.ne hc rfl
  have sdlt : ∀ j, j < V.nb → ∀ x, x < 2 → ∀ y, SdB (V.B j) x y → y < w.heap.size := fun j hj x hx y h => by
    rcases h with h | ⟨l, hl, rfl⟩
    · exact ((R.book j hj).side x hx).lt h
    · exact (((R.book j hj).side x hx).ords hl).lt
  have apart0 : ∀ s, s < 2 → ∀ x, SdB (V.B i) s x → Apart V i x := fun s hs x hx j hj hne t ht h => R.seps i j hi hj (fun e => hne e.symm) s t hs ht x hx h
  have far : ∀ j, j < V.nb → j ≠ i → IsBook w' (V.bk j) (V.B j) om' := fun j hj hne => by
    have h6 : IsBook w' (V.bk j) (V.B j) V.om := (R.book j hj).kept k (by
      intro x hxx hSF
      have hx : S x := hSF.resolve_right (fun hF => by
        obtain ⟨c, t', hc, ht'⟩ := R.log.log.typ hF
        rcases hxx with rfl | ⟨y, hy, h⟩
        · exact Blk.ne (R.book j hj).blk hc (by rcases ht' with rfl | rfl | rfl | rfl | rfl | rfl <;> decide) rfl
        · rcases h with h | ⟨l, hl, h⟩
          · exact ((R.book j hj).side y hy).ne hc (by rcases ht' with rfl | rfl | rfl | rfl | rfl | rfl <;> decide) h
          · subst h; exact Blk.ne hc (((R.book j hj).side y hy).ords hl) (by rcases ht' with rfl | rfl | rfl | rfl | rfl | rfl <;> decide) rfl)
      clear hSF
      rcases hxx with rfl | ⟨y, hy, h⟩
      · rcases hS _ hx with h | ⟨s, hs, h⟩ | ⟨⟨id, h⟩, _⟩
        · exact R.sepb j i hj hi hne h
        · rcases h with h | ⟨l, hl, h⟩
          · exact ((R.book i hi).side s hs).ne (R.book j hj).blk (by decide) h
          · exact Blk.ne (R.book j hj).blk (((R.book i hi).side s hs).ords hl) (by decide) h
        · obtain ⟨_, ix, ho⟩ := R.ords id _ h
          exact Blk.ne (R.book j hj).blk ho (by decide) rfl
      · rcases hS _ hx with e | ⟨s, hs, e⟩ | ⟨_, e⟩
        · rw [e] at h
          rcases h with h | ⟨l, hl, h⟩
          · exact ((R.book j hj).side y hy).ne (R.book i hi).blk (by decide) h
          · exact Blk.ne (R.book i hi).blk (((R.book j hj).side y hy).ords hl) (by decide) h
        · exact apart0 s hs x e j hj hne y hy h
        · exact e j hj hne y hy h)
    exact ⟨h6.blk, fun y hy => (h6.side y hy).om (fun l hl => hom j hj hne y hy l hl), h6.apart, h6.disj⟩
  refine ⟨hl, ⟨fB, mB.kept k nB, ?_, ?_⟩, ⟨fO, mO.kept k nO, fO1⟩, R.mne, ?_, ?_, ?_, R.sepb, ?_, R.no200⟩
  · intro j hj
    by_cases e : j = i
    · subst e; simp only [Ven.turn, upd_same, hsym]; exact fB1 j hj
    · simp only [Ven.turn, upd_other _ _ e]; exact fB1 j hj
  · intro s' b' h
    obtain ⟨j, hj, e1, e2⟩ := fB2 s' b' h
    refine ⟨j, hj, e1, ?_⟩
    by_cases e : j = i
    · subst e; simp only [Ven.turn, upd_same, hsym]; exact e2
    · simp only [Ven.turn, upd_other _ _ e]; exact e2
  · intro j hj
    by_cases e : j = i
    · subst e; simp only [Ven.turn, upd_same]; exact hm.book
    · simp only [Ven.turn, upd_other _ _ e]; exact far j hj e
  · intro id x hx
    simp only [Ven.turn] at hx ⊢
    rw [hid]
    exact ⟨(R.ords id x hx).1, hm.ords x ⟨id, hx⟩⟩
  · intro j hj x hx l hl
    simp only [Ven.turn] at hj hl ⊢
    by_cases e : j = i
    · subst e
      simp only [upd_same] at hl ⊢
      exact hm.mem x hx l hl
    · simp only [upd_other _ _ e] at hl ⊢
      exact R.mem j hj x hx l hl
  · intro p q hp hq hne x y hx hy z h1 h2
    have half : ∀ q, q < V.nb → q ≠ i → ∀ x y, x < 2 → y < 2 → ∀ z, SdB B' x z → SdB (V.B q) y z → False := by
      intro q hq hne x y hx hy z h1 h2
      rcases hsd x hx z h1 with h | h
      · exact h q hq hne y hy h2
      · have := sdlt q hq y hy z h2; omega
    simp only [Ven.turn] at h1 h2
    by_cases e : p = i
    · rw [e, upd_same] at h1
      rw [upd_other _ _ (show q ≠ i by omega)] at h2
      exact half q hq (by omega) x y hx hy z h1 h2
    · rw [upd_other _ _ e] at h1
      by_cases e2 : q = i
      · rw [e2, upd_same] at h2
        exact half p hp e y x hy hx z h2 h1
      · rw [upd_other _ _ e2] at h2
        exact R.seps p q hp hq hne x y hx hy z h1 h2

theorem Rep.turn {w w' : World} {bv bm bo i : Nat} {V : Ven} (R : Rep w bv bm bo V) (hi : i < V.nb) {B' : Bk} {om' : Nat → Ord} {S : Nat → Prop}
    (hm : Mk w' (V.bk i) B' om' (fun x => ∃ id, V.oid id = some x)) (k : Chg S w w') (hS : ∀ x, S x → x = V.bk i ∨ (∃ s, s < 2 ∧ SdB (V.B i) s x) ∨ ((∃ id, V.oid id = some x) ∧ Apart V i x))
    (hom : ∀ j, j < V.nb → j ≠ i → ∀ s, s < 2 → ∀ l, l < (V.B j).n s → om' ((V.B j).h s l) = V.om ((V.B j).h s l)) (hid : ∀ x, (om' x).id = (V.om x).id) (hsym : B'.sym = (V.B i).sym)
    (hsd : ∀ s, s < 2 → ∀ x, SdB B' s x → Apart V i x ∨ w.heap.size ≤ x) : Rep w' bv bm bo (V.turn i B' om') :=
  R.turnG hi hm (R.log.keptT k (fun x hx => (R.mkt hi).typ (by
    rcases hS x hx with h | h | ⟨h, _⟩
    · exact .inl h
    · exact .inr (.inr h)
    · exact .inr (.inl h)))) (k.mono (fun x h => .inl h)) hS hom hid hsym hsd

end Go.Proofs.YtigaphnafnpfnaaGreatDoor

/- toPutRight -/
set_option linter.unusedVariables false
set_option linter.unusedSimpArgs false
namespace Go.Proofs.YtigaphnafnpfnaaGreatDoor
open Go.RowKit Go.Maps
attribute [local go_sem ↓] Go.wp_at_zero Go.wp_at_succ

theorem LogVp.at {w : World} {G : Lg} {m : Lm} (h : LogV w G m) {k : Nat} {x : Tg} (hx : G.tr[k]? = some x) :
    ∃ g cap b, m.tv = .slice (some ⟨g, 0, none⟩) G.tr.length cap ∧ w.cell? ⟨g, k, none⟩ = some (.pointer (some ⟨b, 0, none⟩)) ∧ m.tb[k]? = some b ∧ Blk w b x.cells 105 := by
  have hk : k < G.tr.length := (List.getElem?_eq_some_iff.1 hx).1
  have hb : k < m.tb.length := by rw [h.len]; exact hk
  rcases h.trow.2 with ⟨_, h0⟩ | ⟨g, cap, cs, hv, _, hg, h1, h2, h3, h4⟩
  · omega
  · refine ⟨g, cap, m.tb[k], hv, ?_, List.getElem?_eq_getElem hb, h.blk k _ x (List.getElem?_eq_getElem hb) hx⟩
    have hc : Blk w g cs 103 := hg
    rw [hc.cell]
    have e : cs.toList[k]? = (m.tb.map ptrT)[k]? := by rw [← h4, List.getElem?_take, if_pos (by omega)]
    rw [← Array.getElem?_toList, e, List.getElem?_map, List.getElem?_eq_getElem hb]
    rfl

set_option maxHeartbeats 1000000 in
set_option maxRecDepth 100000 in
theorem toPut_none (bv bm bo : Nat) (G : Lg) (lm : Lm) (N : Int) (w : World) (hL : IsLog w bv bm bo G lm) (h : N < 1 ∨ (G.tr.length : Int) < N) :
    Calls Tryz.prog 71 #[.pointer (some ⟨bv, 0, none⟩), .int .i64 N] w fun e w' => e = .returned (.tuple #[.pointer none, .int .i64 6]) ∧ Chg Non w w' := by
  obtain ⟨n, hn⟩ : ∃ n, G.tr.length = n := ⟨_, rfl⟩
  rw [hn] at h
  obtain ⟨pa, pc, htv⟩ := hL.log.tvForm hn
  have v2 : w.cell? ⟨bv, 2, none⟩ = some (.slice pa n pc) := by rw [← htv]; exact hL.ven.cell 2
  clear hL htv hn
  by_cases h1 : N < 1
  · have e1 : decide (N < 1) = true := by simp [h1]
    clear h h1
    go_enter Tryz.func71, Tryz.ntmps71
    go_wp2
    go_ret2
    exact ⟨rfl, by repeat (first | exact Chg.refl _ _ | refine Chg.drewN ?_ _ | refine Chg.drew ?_)⟩
  · have e1 : decide (N < 1) = false := by simp [h1]
    have e2 : decide ((n : Int) < N) = true := by simp; omega
    clear h h1
    go_enter Tryz.func71, Tryz.ntmps71
    go_wp2
    go_ret2
    exact ⟨rfl, by repeat (first | exact Chg.refl _ _ | refine Chg.drewN ?_ _ | refine Chg.drew ?_)⟩

/-- what toPutRight says of a trade that there was -/
def putE (x : Tg) (day : Int) : Int := if x.holds = false then 10 else if x.t.day ≠ day then 11 else 0

set_option maxHeartbeats 1000000 in
set_option maxRecDepth 100000 in
theorem toPut_at (bv bm bo k b : Nat) (G : Lg) (lm : Lm) (N : Int) (x : Tg) (w : World) (hL : IsLog w bv bm bo G lm) (hN : N - 1 = (k : Int)) (hx : G.tr[k]? = some x) (hb : lm.tb[k]? = some b) (hlen : G.tr.length ≤ 1000000) :
    Calls Tryz.prog 71 #[.pointer (some ⟨bv, 0, none⟩), .int .i64 N] w fun e w' => e = .returned (.tuple #[if putE x G.day = 0 then .pointer (some ⟨b, 0, none⟩) else .pointer none, .int .i64 (putE x G.day)]) ∧ Chg Non w w' := by
  obtain ⟨g, pc, b', htv, hc, hb', hblk⟩ := hL.log.at hx
  obtain rfl : b' = b := by rw [hb] at hb'; exact (Option.some.inj hb').symm
  have hk : k < G.tr.length := (List.getElem?_eq_some_iff.1 hx).1
  have v2 : w.cell? ⟨bv, 2, none⟩ = some (.slice (some ⟨g, 0, none⟩) G.tr.length pc) := by rw [← htv]; exact hL.ven.cell 2
  have v4 : w.cell? ⟨bv, 4, none⟩ = some (.int .i64 G.day) := hL.ven.cell 4
  have t6 : w.cell? ⟨b', 6, none⟩ = some (.int .i64 x.t.day) := hblk.cell 6
  have t7 : w.cell? ⟨b', 7, none⟩ = some (.bool x.holds) := hblk.cell 7
  generalize G.tr.length = n at *
  have e1 : decide (N < 1) = false := by simp; omega
  have e2 : decide ((n : Int) < N) = false := by simp; omega
  have hN0 : 0 ≤ N - 1 := by omega
  have hN1 : N - 1 < (n : Int) := by omega
  have hw : wrap64 (N - 1) = (k : Int) := by rw [hN]; exact wrap64_id (by omega) (by omega)
  clear hL htv hblk hb hb' hx
  obtain ⟨xt, xh⟩ := x
  simp only at t6 t7
  cases xh with
  | false =>
    have HP : Hid (putE ⟨xt, false⟩ G.day = 10) := by show _ = _; simp [putE]
    rw [unhide HP]
    go_enter Tryz.func71, Tryz.ntmps71
    go_wp2
    go_ret2
    exact ⟨rfl, by repeat (first | exact Chg.refl _ _ | refine Chg.drewN ?_ _ | refine Chg.drew ?_)⟩
  | true =>
    by_cases hd : xt.day = G.day
    · have ed : (xt.day != G.day) = false := by simp [hd]
      have HP : Hid (putE ⟨xt, true⟩ G.day = 0) := by show _ = _; simp [putE, hd]
      rw [unhide HP]
      clear hd
      go_enter Tryz.func71, Tryz.ntmps71
      go_wp2
      go_quiet (fail)
      go_wp2
      go_ret2
      exact ⟨rfl, by repeat (first | exact Chg.refl _ _ | refine Chg.drewN ?_ _ | refine Chg.drew ?_)⟩
    · have ed : (xt.day != G.day) = true := by simp [hd]
      have HP : Hid (putE ⟨xt, true⟩ G.day = 11) := by show _ = _; simp [putE, hd]
      rw [unhide HP]
      clear hd
      go_enter Tryz.func71, Tryz.ntmps71
      go_wp2
      go_quiet (fail)
      go_wp2
      go_ret2
      exact ⟨rfl, by repeat (first | exact Chg.refl _ _ | refine Chg.drewN ?_ _ | refine Chg.drew ?_)⟩

end Go.Proofs.YtigaphnafnpfnaaGreatDoor

/- takeBack -/
set_option linter.unusedVariables false
set_option linter.unusedSimpArgs false
namespace Go.Proofs.YtigaphnafnpfnaaGreatDoor
open Go.RowKit Go.Maps
attribute [local go_sem ↓] Go.wp_at_zero Go.wp_at_succ

theorem leave_memk {B : Bk} {om : Nat → Ord} {s i : Nat} (hinj : Inj (B.n s) (B.h s)) (hi : i < B.n s) : ∀ k, k < (B.leave om s i).n s → ∃ k', k' < B.n s ∧ (B.leave om s i).h s k = B.h s k' ∧ B.h s k' ≠ B.h s i := by
  intro k hk
  simp only [Bk.leave, upd_same] at hk ⊢
  have h0 : Inj (B.n s - 1 + 1) (B.h s) := by rw [show B.n s - 1 + 1 = B.n s by omega]; exact hinj
  obtain ⟨⟨k', hk', e⟩, hne⟩ := (mem_remove (lt := ltB om) (B.h s) i (n := B.n s - 1) (by omega) (h0.remove (by omega)) _).1 ⟨k, hk, rfl⟩
  exact ⟨k', by omega, e, by rw [← e]; exact hne⟩

/-- note, and which blocks have turned: those of the acts -/
theorem noteA (bv bm bo : Nat) (G : Lg) (lm : Lm) (ds : List Back) (fv : Array Value) (w : World) (hL : IsLog w bv bm bo G lm) (hna : 0 < G.na) (hna2 : G.na ≤ 1000000) (hnf : G.nt.length + fv.size < 1000000) (hc : 0 < fv.size) (hds : ds.length = fv.size) (hone : ∀ u ∈ fv.toList, u.oneCell' = true) :
    Calls Tryz.prog 53 #[.pointer (some ⟨bv, 0, none⟩), .slice (some ⟨w.heap.size, 0, none⟩) fv.size fv.size] (w.alloc (.cells fv 1)) fun e w' => e = .returned (.tuple #[]) ∧
      ∃ lm', IsLog w' bv bm bo (G.noted ds) lm' ∧ (∀ b, lm'.F b → lm.F b ∨ w.heap.size ≤ b) ∧ Chg (fun b => ActF lm.av lm.ac b) w w' ∧ (∀ b, ActF lm'.av lm'.ac b → ActF lm.av lm.ac b ∨ w.heap.size ≤ b) := by
  have k1 : Chg Non w (w.alloc (.cells fv 1)) := (Chg.refl Non w).alloc _
  refine (note_act bv bm bo G lm ds fv.toList w.heap.size fv.size fv.size (w.alloc (.cells fv 1)) (hL.kept0 k1) hna hna2 hnf hc hds (by simp) (World.news_of_block (Blk.new w fv 1)) hone).mono ?_
  rintro e w' ⟨rfl, lm', h1, h2, h3, h4⟩
  exact ⟨rfl, lm', h1, fun b hb => (h2 b hb).imp_right (fun h => Nat.le_trans k1.size h), k1.of_non.trans h3, fun b hb => (h4 b hb).imp_right (fun h => Nat.le_trans k1.size h)⟩

theorem note1A (bv bm bo : Nat) (G : Lg) (lm : Lm) (d : Back) (fn : Fn) (cp : Array Value) (w : World) (hL : IsLog w bv bm bo G lm) (hna : 0 < G.na) (hna2 : G.na ≤ 1000000) (hnf : G.nt.length + 1 < 1000000) :
    Calls Tryz.prog 53 #[.pointer (some ⟨bv, 0, none⟩), .slice (some ⟨w.heap.size, 0, none⟩) 1 1] (w.alloc (.cells #[.func fn #[] cp] 1)) fun e w' => e = .returned (.tuple #[]) ∧
      ∃ lm', IsLog w' bv bm bo (G.noted [d]) lm' ∧ (∀ b, lm'.F b → lm.F b ∨ w.heap.size ≤ b) ∧ Chg (fun b => ActF lm.av lm.ac b) w w' ∧ (∀ b, ActF lm'.av lm'.ac b → ActF lm.av lm.ac b ∨ w.heap.size ≤ b) :=
  noteA bv bm bo G lm [d] #[.func fn #[] cp] w hL hna hna2 hnf (by simp) rfl (by simp [Value.oneCell'])

theorem note2A (bv bm bo : Nat) (G : Lg) (lm : Lm) (d d2 : Back) (fn fn2 : Fn) (cp cp2 : Array Value) (w : World) (hL : IsLog w bv bm bo G lm) (hna : 0 < G.na) (hna2 : G.na ≤ 1000000) (hnf : G.nt.length + 2 < 1000000) :
    Calls Tryz.prog 53 #[.pointer (some ⟨bv, 0, none⟩), .slice (some ⟨w.heap.size, 0, none⟩) 2 2] (w.alloc (.cells #[.func fn #[] cp, .func fn2 #[] cp2] 1)) fun e w' => e = .returned (.tuple #[]) ∧
      ∃ lm', IsLog w' bv bm bo (G.noted [d, d2]) lm' ∧ (∀ b, lm'.F b → lm.F b ∨ w.heap.size ≤ b) ∧ Chg (fun b => ActF lm.av lm.ac b) w w' ∧ (∀ b, ActF lm'.av lm'.ac b → ActF lm.av lm.ac b ∨ w.heap.size ≤ b) :=
  noteA bv bm bo G lm [d, d2] #[.func fn #[] cp, .func fn2 #[] cp2] w hL hna hna2 hnf (by simp) rfl (by simp [Value.oneCell'])

theorem noted_noted (G : Lg) (a b : List Back) : (G.noted a).noted b = G.noted (a ++ b) := by simp [Lg.noted]

/-- what is noted, and where -/
def Noted (bv bm bo : Nat) (G : Lg) (lm : Lm) (ds : List Back) (w w' : World) : Prop :=
  ∃ lm', IsLog w' bv bm bo (G.noted ds) lm' ∧ (∀ x, lm'.F x → lm.F x ∨ w.heap.size ≤ x)

set_option maxHeartbeats 4000000 in
set_option maxRecDepth 100000 in
/-- what the trade had is cancelled -/
theorem takeBack_cancel (bv bm bo i b s : Nat) (V : Ven) (id q : Int) (again : Bool) (w : World) (R : Rep w bv bm bo V) (hi : i < V.nb) (hid : V.oid id = some b) (hsym : (V.om b).sym = (V.B i).sym) (hlen : (V.B i).sym.size ≤ maxLen) (hs : s < 2) (hside : (V.om b).side = 1 - (s : Int))
    (hcond : again = false ∨ restsB (V.om b).kind = false ∨ (firstG (V.B i) V.om (askOf (V.om b)) s).isSome = true) (hna : 0 < V.lg.na) (hna2 : V.lg.na ≤ 1000000) (hnt : V.lg.nt.length + 3 < 1000000) :
    Calls Tryz.prog 75 #[.pointer (some ⟨bv, 0, none⟩), .pointer (some ⟨b, 0, none⟩), .int .i64 q, .bool again] w fun e w' => e = .returned (.tuple #[]) ∧
      Mk w' (V.bk i) (V.B i) (upd V.om b (cancelF (V.om b) q)) (fun x => ∃ id, V.oid id = some x) ∧ Noted bv bm bo V.lg V.lm [.now b (V.om b)] w w' ∧ Chg (fun x => x = b ∨ ActF V.lm.av V.lm.ac x) w w' := by
  obtain ⟨-, ix, ho⟩ := R.ords id b hid
  have L1 : ∀ n, (Instr.lookup 94 (.map (some bm)) (.string (V.B i).sym) false).run Tryz.prog (w.drewN n) = .ok (.pointer (some ⟨V.bk i, 0, none⟩)) (w.drewN n) := fun n => (R.kept0 ((Chg.refl Non w).drewN n)).lookB hi hlen
  have L1d : (Instr.lookup 94 (.map (some bm)) (.string (V.B i).sym) false).run Tryz.prog w.drew = .ok (.pointer (some ⟨V.bk i, 0, none⟩)) w.drew := L1 1
  have v0 : w.cell? ⟨bv, 0, none⟩ = some (.map (some bm)) := R.ven.cell 0
  have o2 : w.cell? ⟨b, 2, none⟩ = some (.string (V.B i).sym) := by rw [← hsym]; exact ho.cell 2
  have HC := hide (fun (W : World) (k : Chg Non w W) => cancelFilled_mk (V.bk i) b (V.B i) V.om (fun x => ∃ id, V.oid id = some x) q W ((R.kept0 k).mkt hi) ⟨id, hid⟩)
  have HF := hide (fun (W : World) (k : Chg Non w W) => firstGood_any (V.bk i) (V.B i) V.om (askOf (V.om b)) s W ((R.kept0 k).book i hi) hs hside)
  have HO : Hid (∀ W, Chg Non w W → IsOrd W b (V.om b) ix) := fun W k => k.blk ho (fun x => x)
  have HN : Hid (∀ W wq fn cp, Chg Non w W → Chg (fun x => x = b) W wq → Mk wq (V.bk i) (V.B i) (upd V.om b (cancelF (V.om b) q)) (fun x => ∃ id, V.oid id = some x) →
      Calls Tryz.prog 53 #[.pointer (some ⟨bv, 0, none⟩), .slice (some ⟨wq.heap.size, 0, none⟩) 1 1] (wq.alloc (.cells #[.func fn #[] cp] 1)) fun e w' => e = .returned (.tuple #[]) ∧ Mk w' (V.bk i) (V.B i) (upd V.om b (cancelF (V.om b) q)) (fun x => ∃ id, V.oid id = some x) ∧ Noted bv bm bo V.lg V.lm [.now b (V.om b)] w w' ∧ Chg (fun x => x = b ∨ ActF V.lm.av V.lm.ac x) w w') := by
    intro W wq fn cp kW kq m
    have h1 := (R.log.kept0 kW).keptT kq (fun x h => by subst h; exact ⟨_, 116, kW.blk ho (fun x => x), .inr (.inl rfl)⟩)
    refine (note1A bv bm bo V.lg V.lm (.now b (V.om b)) fn cp wq h1 hna hna2 (by omega)).mono ?_
    rintro e w' ⟨rfl, lm', a1, a2, a3, -⟩
    have kk := kW.of_non.trans kq
    exact ⟨rfl, m.keptLog h1 (a3.mono (fun _ h => .inr (.inr (.inr (.inr h))))), ⟨lm', a1, fun x hx => (a2 x hx).imp_right (fun h => Nat.le_trans kk.size h)⟩, (kk.mono (fun _ h => .inl h)).trans (a3.mono (fun _ h => .inr h))⟩
  have HCo := hide hcond
  clear R hid hsym hside hcond ho hs
  go_enter Tryz.func75, Tryz.ntmps75
  go_wp2
  go_quiet (fail)
  have hq : Chg Non w (w.drewN nq) := (Chg.refl Non w).drewN _
  obtain ⟨w1, hw1⟩ : ∃ w1, w1 = w.drewN nq := ⟨_, rfl⟩
  rw [← hw1] at hq ⊢
  clear hw1 L1 L1d v0 o2
  cases again with
  | false =>
    go_wp2_with fail
    refine (unhide HC w1 hq).mono ?_
    rintro e w2 ⟨fnq, cpq, rfl, -, m2, k2⟩
    go_wp2_with fail
    refine (unhide HN _ w2 fnq cpq hq k2 m2).mono ?_
    rintro e wz ⟨rfl, rz⟩
    go_wp2
    try simp only [Exit.inBlock, Exit.then]
    refine bodyPost_ret (results_none rfl _ _ _) rfl ?_
    exact ⟨rfl, rz⟩
  | true =>
    go_wp2_with fail
    refine (rests_any b _ ix w1 (unhide HO w1 hq)).mono ?_
    rintro e w1' ⟨rfl, hww⟩
    rw [hww]
    clear hww w1'
    cases hr : restsB (V.om b).kind with
    | false =>
      clear hr
      go_wp2_with fail
      refine (unhide HC _ hq).mono ?_
      rintro e w2 ⟨fnq, cpq, rfl, -, m2, k2⟩
      go_wp2_with fail
      refine (unhide HN _ w2 fnq cpq hq k2 m2).mono ?_
      rintro e wz ⟨rfl, rz⟩
      go_wp2
      try simp only [Exit.inBlock, Exit.then]
      refine bodyPost_ret (results_none rfl _ _ _) rfl ?_
      exact ⟨rfl, rz⟩
    | true =>
      have hf : (firstG (V.B i) V.om (askOf (V.om b)) s).isSome = true := by
        rcases unhide HCo with h | h | h
        · simp at h
        · rw [hr] at h; simp at h
        · exact h
      obtain ⟨f, hf'⟩ := Option.isSome_iff_exists.1 hf
      have HF' := hide hf'
      clear hr hf hf'
      have hoc := unhide HO _ hq
      have cc0 : w1.cell? ⟨b, 0, none⟩ = some (.int .i64 (V.om b).id) := hoc.cell 0
      have cc1 : w1.cell? ⟨b, 1, none⟩ = some (.int .i64 (V.om b).owner) := hoc.cell 1
      have cc2 : w1.cell? ⟨b, 2, none⟩ = some (.string (V.om b).sym) := hoc.cell 2
      have cc3 : w1.cell? ⟨b, 3, none⟩ = some (.int .i64 (V.om b).side) := hoc.cell 3
      have cc4 : w1.cell? ⟨b, 4, none⟩ = some (.int .i64 (V.om b).kind) := hoc.cell 4
      have cc5 : w1.cell? ⟨b, 5, none⟩ = some (.int .i64 (V.om b).price) := hoc.cell 5
      have cc6 : w1.cell? ⟨b, 6, none⟩ = some (.int .i64 (V.om b).qty) := hoc.cell 6
      clear hoc
      go_wp2_with fail
      refine (unhide HF _ hq).mono ?_
      rintro e w2 ⟨rfl, k2⟩
      rw [unhide HF']
      simp only [ptrO]
      clear cc0 cc1 cc2 cc3 cc4 cc5 cc6
      go_wp2_with fail
      refine (unhide HC _ (hq.trans k2)).mono ?_
      rintro e w3 ⟨fnq, cpq, rfl, -, m3, k3⟩
      go_wp2_with fail
      refine (unhide HN _ w3 fnq cpq (hq.trans k2) k3 m3).mono ?_
      rintro e wz ⟨rfl, rz⟩
      go_wp2
      try simp only [Exit.inBlock, Exit.then]
      refine bodyPost_ret (results_none rfl _ _ _) rfl ?_
      exact ⟨rfl, rz⟩

/-- the orders behind it, where what the trade had comes again -/
def againOm (V : Ven) (i b : Nat) (q : Int) : Nat → Ord := upd (upd V.om b (openF (V.om b) q)) b { openF (V.om b) q with place := wrap64 ((V.B i).places + 1) }

set_option maxHeartbeats 4000000 in
set_option maxRecDepth 100000 in
theorem takeBack_new (bv bm bo i b s t : Nat) (V : Ven) (id q : Int) (w : World) (R : Rep w bv bm bo V) (hi : i < V.nb) (hid : V.oid id = some b) (hsym : (V.om b).sym = (V.B i).sym) (hlen : (V.B i).sym.size ≤ maxLen) (hs : s < 2) (ht : t = 1 - s) (hside : (V.om b).side = (t : Int))
    (hr : restsB (V.om b).kind = true) (hf : firstG (V.B i) V.om (askOf (V.om b)) s = none) (h0 : ¬ 0 < (V.om b).opn) (hnew : ∀ x, x < 2 → ∀ k, k < (V.B i).n x → (V.B i).h x k ≠ b) (hn : (V.B i).n t < 1000) (hna : 0 < V.lg.na) (hna2 : V.lg.na ≤ 1000000) (hnt : V.lg.nt.length + 3 < 1000000) :
    Calls Tryz.prog 75 #[.pointer (some ⟨bv, 0, none⟩), .pointer (some ⟨b, 0, none⟩), .int .i64 q, .bool true] w fun e w' => e = .returned (.tuple #[]) ∧
      ∃ g cap', Mk w' (V.bk i) ((V.B i).rest (againOm V i b q) t b g cap') (againOm V i b q) (fun x => ∃ id, V.oid id = some x) ∧ Noted bv bm bo V.lg V.lm [.now b (V.om b), .rested b (V.om b).place] w w' ∧ Chg (fun x => (x = V.bk i ∨ x = b ∨ SdB (V.B i) t x) ∨ ActF V.lm.av V.lm.ac x) w w' ∧ (adB ((V.B i).sl t) = some g ∨ w.heap.size ≤ g) := by
  obtain ⟨-, ix, ho⟩ := R.ords id b hid
  have L1 : ∀ n, (Instr.lookup 94 (.map (some bm)) (.string (V.B i).sym) false).run Tryz.prog (w.drewN n) = .ok (.pointer (some ⟨V.bk i, 0, none⟩)) (w.drewN n) := fun n => (R.kept0 ((Chg.refl Non w).drewN n)).lookB hi hlen
  have L1d : (Instr.lookup 94 (.map (some bm)) (.string (V.B i).sym) false).run Tryz.prog w.drew = .ok (.pointer (some ⟨V.bk i, 0, none⟩)) w.drew := L1 1
  have v0 : w.cell? ⟨bv, 0, none⟩ = some (.map (some bm)) := R.ven.cell 0
  have o2 : w.cell? ⟨b, 2, none⟩ = some (.string (V.B i).sym) := by rw [← hsym]; exact ho.cell 2
  have HC := hide (fun (W : World) (k : Chg Non w W) => openFilled_mk (V.bk i) b (V.B i) V.om (fun x => ∃ id, V.oid id = some x) q W ((R.kept0 k).mkt hi) ⟨id, hid⟩)
  have HF := hide (fun (W : World) (k : Chg Non w W) => firstGood_any (V.bk i) (V.B i) V.om (askOf (V.om b)) s W ((R.kept0 k).book i hi) hs (by rw [show (askOf (V.om b)).side = (V.om b).side from rfl, hside, ht]; omega))
  have HO : Hid (∀ W, Chg Non w W → IsOrd W b (V.om b) ix) := fun W k => k.blk ho (fun x => x)
  have HRest : Hid (∀ W, Mk W (V.bk i) (V.B i) (upd V.om b (openF (V.om b) q)) (fun x => ∃ id, V.oid id = some x) → Calls Tryz.prog 122 #[.pointer (some ⟨V.bk i, 0, none⟩), .pointer (some ⟨b, 0, none⟩)] W fun e w' => ∃ fn cp, e = .returned (.func fn #[] cp) ∧ IsRestF w' (V.bk i) b (V.om b).place W.heap.size fn cp ∧
      ∃ g cap', Mk w' (V.bk i) ((V.B i).rest (againOm V i b q) t b g cap') (againOm V i b q) (fun x => ∃ id, V.oid id = some x) ∧ Chg (fun x => x = V.bk i ∨ x = b ∨ SdB (V.B i) t x) W w' ∧ (adB ((V.B i).sl t) = some g ∨ W.heap.size ≤ g)) := by
    intro W m
    obtain ⟨ix', ho'⟩ := m.ords b ⟨id, hid⟩
    refine (rest_fn (V.bk i) b t (V.B i) _ ix' W m.book ho' (by omega) (by rw [upd_same]; exact hside) hnew hn).mono ?_
    rintro e w' ⟨fn, cp, rfl, hcl, g, cap', hb, k, hg⟩
    rw [upd_same] at hb hcl
    exact ⟨fn, cp, rfl, hcl, g, cap', m.rest (by omega) ⟨id, hid⟩ (fun x hx => by unfold againOm; rw [upd_other _ _ hx]) hb k, k, hg⟩
  have HN : Hid (∀ W w3 w4 fn3 cp3 fn4 cp4 g cap', Chg Non w W → Chg (fun x => x = b) W w3 → Mk w3 (V.bk i) (V.B i) (upd V.om b (openF (V.om b) q)) (fun x => ∃ id, V.oid id = some x) → Mk w4 (V.bk i) ((V.B i).rest (againOm V i b q) t b g cap') (againOm V i b q) (fun x => ∃ id, V.oid id = some x) → Chg (fun x => x = V.bk i ∨ x = b ∨ SdB (V.B i) t x) w3 w4 → (adB ((V.B i).sl t) = some g ∨ w3.heap.size ≤ g) →
      Calls Tryz.prog 53 #[.pointer (some ⟨bv, 0, none⟩), .slice (some ⟨w4.heap.size, 0, none⟩) 2 2] (w4.alloc (.cells #[.func fn3 #[] cp3, .func fn4 #[] cp4] 1)) fun e w' => e = .returned (.tuple #[]) ∧
        ∃ g cap', Mk w' (V.bk i) ((V.B i).rest (againOm V i b q) t b g cap') (againOm V i b q) (fun x => ∃ id, V.oid id = some x) ∧ Noted bv bm bo V.lg V.lm [.now b (V.om b), .rested b (V.om b).place] w w' ∧ Chg (fun x => (x = V.bk i ∨ x = b ∨ SdB (V.B i) t x) ∨ ActF V.lm.av V.lm.ac x) w w' ∧ (adB ((V.B i).sl t) = some g ∨ w.heap.size ≤ g)) := by
    intro W w3 w4 fn3 cp3 fn4 cp4 g cap' kW k3 m3 m4 k4 hg
    have h3 := (R.log.kept0 kW).keptT k3 (fun x h => by subst h; exact ⟨_, 116, kW.blk ho (fun x => x), .inr (.inl rfl)⟩)
    have h4 := h3.keptT k4 (fun x h => m3.typ (by
      rcases h with h | h | h
      · exact .inl h
      · exact .inr (.inl ⟨id, by rw [h]; exact hid⟩)
      · exact .inr (.inr ⟨t, by omega, h⟩)))
    refine (note2A bv bm bo V.lg V.lm (.now b (V.om b)) (.rested b (V.om b).place) fn3 fn4 cp3 cp4 w4 h4 hna hna2 (by omega)).mono ?_
    rintro e w' ⟨rfl, lm', a1, a2, a3, -⟩
    have kk3 := kW.of_non.trans k3
    have kk : Chg (fun x => x = V.bk i ∨ x = b ∨ SdB (V.B i) t x) w w4 := (kk3.mono (fun _ h => .inr (.inl h))).trans k4
    exact ⟨rfl, g, cap', m4.keptLog h4 (a3.mono (fun _ h => .inr (.inr (.inr (.inr h))))), ⟨lm', a1, fun x hx => (a2 x hx).imp_right (fun h => Nat.le_trans kk.size h)⟩, (kk.mono (fun _ h => .inl h)).trans (a3.mono (fun _ h => .inr h)), hg.imp_right (fun h => Nat.le_trans kk3.size h)⟩
  have HF' := hide hf
  have e0 : decide (0 < (V.om b).opn) = false := by simp [h0]
  have HE0 := hide e0
  have HR := hide hr
  clear R hid hsym hside hf ho hs h0 e0 hr hnew hn
  go_enter Tryz.func75, Tryz.ntmps75
  go_wp2
  go_quiet (fail)
  have hq : Chg Non w (w.drewN nq) := (Chg.refl Non w).drewN _
  obtain ⟨w1, hw1⟩ : ∃ w1, w1 = w.drewN nq := ⟨_, rfl⟩
  rw [← hw1] at hq ⊢
  clear hw1 L1 L1d v0 o2
  go_wp2_with fail
  refine (rests_any b _ ix w1 (unhide HO w1 hq)).mono ?_
  rintro e w1' ⟨rfl, hww⟩
  rw [hww]
  clear hww w1'
  rw [unhide HR]
  have hoc := unhide HO _ hq
  have cc0 : w1.cell? ⟨b, 0, none⟩ = some (.int .i64 (V.om b).id) := hoc.cell 0
  have cc1 : w1.cell? ⟨b, 1, none⟩ = some (.int .i64 (V.om b).owner) := hoc.cell 1
  have cc2 : w1.cell? ⟨b, 2, none⟩ = some (.string (V.om b).sym) := hoc.cell 2
  have cc3 : w1.cell? ⟨b, 3, none⟩ = some (.int .i64 (V.om b).side) := hoc.cell 3
  have cc4 : w1.cell? ⟨b, 4, none⟩ = some (.int .i64 (V.om b).kind) := hoc.cell 4
  have cc5 : w1.cell? ⟨b, 5, none⟩ = some (.int .i64 (V.om b).price) := hoc.cell 5
  have cc6 : w1.cell? ⟨b, 6, none⟩ = some (.int .i64 (V.om b).qty) := hoc.cell 6
  clear hoc
  go_wp2_with fail
  refine (unhide HF _ hq).mono ?_
  rintro e w2 ⟨rfl, k2⟩
  rw [unhide HF']
  simp only [ptrO]
  have hq2 := hq.trans k2
  have o8 : w2.cell? ⟨b, 8, none⟩ = some (.int .i64 (V.om b).opn) := (unhide HO _ hq2).cell 8
  have e0 := unhide HE0
  clear cc0 cc1 cc2 cc3 cc4 cc5 cc6
  go_wp2_with fail
  refine (unhide HC _ hq2).mono ?_
  rintro e w3 ⟨fn3, cp3, rfl, -, m3, k3⟩
  clear o8 e0
  go_wp2_with fail
  refine (unhide HRest w3 m3).mono ?_
  rintro e w4 ⟨fn4, cp4, rfl, -, g, cap', m4, k4, hg⟩
  go_wp2_with fail
  refine (unhide HN _ w3 w4 fn3 cp3 fn4 cp4 g cap' hq2 k3 m3 m4 k4 hg).mono ?_
  rintro e wz ⟨rfl, rz⟩
  go_wp2
  go_end0
  exact ⟨rfl, rz⟩

end Go.Proofs.YtigaphnafnpfnaaGreatDoor

