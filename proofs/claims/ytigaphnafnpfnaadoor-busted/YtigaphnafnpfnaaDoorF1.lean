/- Looks into the maps; more methods of orders; a venue of which one book has turned. -/
import Derived.Test.YtigaphnafnpfnaaDoorC6
set_option linter.unusedVariables false
set_option linter.unusedSimpArgs false
namespace Go.Proofs.YtigaphnafnpfnaaDoor
open Go.RowKit Go.Maps
attribute [local go_sem ↓] Go.wp_at_zero Go.wp_at_succ

theorem Rep.lookO {w : World} {bv bm bo : Nat} {V : Ven} (R : Rep w bv bm bo V) {id : Int} (hid : (Lit.int .i64 id).wf = true) :
    (Instr.lookup 56 (.map (some bo)) (.int .i64 id) false).run Tryd.prog w = .ok (ptrO (V.oid id)) w := by
  obtain ⟨fO, mO, fO1⟩ := R.orders
  rw [mO.look law3 Tryd.underlying56 (zero80 _) (keyOf_int_mk Tryd.underlying3 hid), fO1]

theorem Rep.lookB {w : World} {bv bm bo : Nat} {V : Ven} (R : Rep w bv bm bo V) {i : Nat} (hi : i < V.nb) (hlen : (V.B i).sym.size ≤ maxLen) :
    (Instr.lookup 55 (.map (some bm)) (.string (V.B i).sym) false).run Tryd.prog w = .ok (.pointer (some ⟨V.bk i, 0, none⟩)) w := by
  obtain ⟨fB, mB, fB1, _⟩ := R.books
  rw [mB.look law9 Tryd.underlying55 (zero70 _) (WideMaps.keyOf_string_mk Tryd.underlying9 hlen)]
  show _ = Result.ok (ptrO (some (V.bk i))) _
  rw [← fB1 i hi]; rfl

/-- the market of one book of a venue -/
theorem Rep.mkt {w : World} {bv bm bo : Nat} {V : Ven} (R : Rep w bv bm bo V) {i : Nat} (hi : i < V.nb) : Mk w (V.bk i) (V.B i) V.om (fun x => ∃ id, V.oid id = some x) :=
  ⟨R.book i hi, fun b ⟨id, h⟩ => (R.ords id b h).2, fun s hs k hk => R.mem i hi s hs k hk⟩

def cancelF (o : Ord) (q : Int) : Ord := { o with filled := wrap64 (o.filled - q), canc := wrap64 (o.canc + q) }
def openF (o : Ord) (q : Int) : Ord := { o with filled := wrap64 (o.filled - q), opn := wrap64 (o.opn + q) }
def expireO (o : Ord) : Ord := { o with opn := 0, exp := wrap64 (o.exp + o.opn) }

set_option maxHeartbeats 400000 in
theorem cancelFilled_any (b : Nat) (o : Ord) (ix q : Int) (w : World) (ho : IsOrd w b o ix) :
    Calls Tryd.prog 48 #[.pointer (some ⟨b, 0, none⟩), .int .i64 q] w fun e w' => e = .returned (.func (.func 66) #[] #[.pointer (some ⟨w.heap.size + 1, 0, none⟩), .pointer (some ⟨w.heap.size, 0, none⟩)]) ∧ NowB w' w.heap.size b o ∧ IsOrd w' b (cancelF o q) ix ∧ Chg (fun x => x = b) w w' := by
  have HA := hide (asNow_any b o ix w ho)
  have lo := ho.lt
  go_enter Tryd.func48, Tryd.ntmps48
  go_wp2_with fail
  refine (unhide HA).mono ?_
  rintro e w1 ⟨rfl, n1, k1⟩
  have ho1 := k1.blk ho (fun x => x)
  have h1 : w1.cell? ⟨b, 9, none⟩ = some (.int .i64 o.filled) := Blk.cell ho1 9
  have h2 : w1.cell? ⟨b, 10, none⟩ = some (.int .i64 o.canc) := Blk.cell ho1 10
  have f1 := Blk.frozen ho1 9
  have f2 := Blk.frozen ho1 10
  go_wp2
  go_ret
  have k2 := ((Chg.refl (fun x => x = b) w1).setCell (p := ⟨b, 9, none⟩) (.inl rfl) (.int .i64 (cancelF o q).filled)).setCell (p := ⟨b, 10, none⟩) (.inl rfl) (.int .i64 (cancelF o q).canc)
  exact ⟨rfl, n1.kept k2 (by omega) (by omega), (ho1.set 9 _).set 10 _, k1.of_non.trans k2⟩

theorem cancelFilled_mk (bb b : Nat) (B : Bk) (om : Nat → Ord) (L : Nat → Prop) (q : Int) (w : World) (m : Mk w bb B om L) (hb : L b) :
    Calls Tryd.prog 48 #[.pointer (some ⟨b, 0, none⟩), .int .i64 q] w fun e w' => ∃ fn cp, e = .returned (.func fn #[] cp) ∧ IsNowF w' b (om b) w.heap.size fn cp ∧ Mk w' bb B (upd om b (cancelF (om b) q)) L ∧ Chg (fun x => x = b) w w' := by
  obtain ⟨ix, ho⟩ := m.ords b hb
  refine (cancelFilled_any b (om b) ix q w ho).mono ?_
  rintro e w' ⟨rfl, h0, h1, h2⟩
  exact ⟨_, _, rfl, ⟨rfl, _, Nat.le_refl _, rfl, h0⟩, m.upd ho h2 h1, h2⟩

set_option maxHeartbeats 400000 in
theorem openFilled_any (b : Nat) (o : Ord) (ix q : Int) (w : World) (ho : IsOrd w b o ix) :
    Calls Tryd.prog 50 #[.pointer (some ⟨b, 0, none⟩), .int .i64 q] w fun e w' => e = .returned (.func (.func 66) #[] #[.pointer (some ⟨w.heap.size + 1, 0, none⟩), .pointer (some ⟨w.heap.size, 0, none⟩)]) ∧ NowB w' w.heap.size b o ∧ IsOrd w' b (openF o q) ix ∧ Chg (fun x => x = b) w w' := by
  have HA := hide (asNow_any b o ix w ho)
  have lo := ho.lt
  go_enter Tryd.func50, Tryd.ntmps50
  go_wp2_with fail
  refine (unhide HA).mono ?_
  rintro e w1 ⟨rfl, n1, k1⟩
  have ho1 := k1.blk ho (fun x => x)
  have h1 : w1.cell? ⟨b, 9, none⟩ = some (.int .i64 o.filled) := Blk.cell ho1 9
  have h2 : w1.cell? ⟨b, 8, none⟩ = some (.int .i64 o.opn) := Blk.cell ho1 8
  have f1 := Blk.frozen ho1 9
  have f2 := Blk.frozen ho1 8
  go_wp2
  go_ret
  have k2 := ((Chg.refl (fun x => x = b) w1).setCell (p := ⟨b, 9, none⟩) (.inl rfl) (.int .i64 (openF o q).filled)).setCell (p := ⟨b, 8, none⟩) (.inl rfl) (.int .i64 (openF o q).opn)
  exact ⟨rfl, n1.kept k2 (by omega) (by omega), (ho1.set 9 _).set 8 _, k1.of_non.trans k2⟩

theorem openFilled_mk (bb b : Nat) (B : Bk) (om : Nat → Ord) (L : Nat → Prop) (q : Int) (w : World) (m : Mk w bb B om L) (hb : L b) :
    Calls Tryd.prog 50 #[.pointer (some ⟨b, 0, none⟩), .int .i64 q] w fun e w' => ∃ fn cp, e = .returned (.func fn #[] cp) ∧ IsNowF w' b (om b) w.heap.size fn cp ∧ Mk w' bb B (upd om b (openF (om b) q)) L ∧ Chg (fun x => x = b) w w' := by
  obtain ⟨ix, ho⟩ := m.ords b hb
  refine (openFilled_any b (om b) ix q w ho).mono ?_
  rintro e w' ⟨rfl, h0, h1, h2⟩
  exact ⟨_, _, rfl, ⟨rfl, _, Nat.le_refl _, rfl, h0⟩, m.upd ho h2 h1, h2⟩

/-- One book has turned, and some orders. -/
def Ven.turn (V : Ven) (i : Nat) (B' : Bk) (om' : Nat → Ord) : Ven := { V with B := upd V.B i B', om := om' }

/-- none of the other books' -/
def Apart (V : Ven) (i x : Nat) : Prop := ∀ j, j < V.nb → j ≠ i → ∀ t, t < 2 → ¬ SdB (V.B j) t x

theorem Rep.turnG {w w' : World} {bv bm bo i : Nat} {V : Ven} (R : Rep w bv bm bo V) (hi : i < V.nb) {B' : Bk} {om' : Nat → Ord} {S : Nat → Prop}
    (hm : Mk w' (V.bk i) B' om' (fun x => ∃ id, V.oid id = some x)) {G' : Lg} {lm' : Lm} (hl : IsLog w' bv bm bo G' lm') (k : Chg (fun x => S x ∨ V.lm.F x) w w') (hS : ∀ x, S x → x = V.bk i ∨ (∃ s, s < 2 ∧ SdB (V.B i) s x) ∨ ((∃ id, V.oid id = some x) ∧ Apart V i x))
    (hom : ∀ j, j < V.nb → j ≠ i → ∀ s, s < 2 → ∀ l, l < (V.B j).n s → om' ((V.B j).h s l) = V.om ((V.B j).h s l)) (hid : ∀ x, (om' x).id = (V.om x).id) (hsym : B'.sym = (V.B i).sym)
    (hsd : ∀ s, s < 2 → ∀ x, SdB B' s x → Apart V i x ∨ w.heap.size ≤ x) : Rep w' bv bm bo { V.turn i B' om' with lg := G', lm := lm' } := by
  have typ : ∀ x, S x → ∃ c t, Blk w x c t ∧ (t = 67 ∨ t = 75 ∨ t = 68) := fun x hx => by
    refine (R.mkt hi).typ ?_
    rcases hS x hx with h | h | ⟨h, _⟩
    · exact .inl h
    · exact .inr (.inr h)
    · exact .inr (.inl h)
  obtain ⟨fB, mB, fB1, fB2⟩ := R.books
  obtain ⟨fO, mO, fO1⟩ := R.orders
  have nB : ¬ (S bm ∨ V.lm.F bm) := by
    rintro (h | h)
    · obtain ⟨c, t, hc, _⟩ := typ bm h; exact mB.ne hc rfl
    · obtain ⟨c, t, hc, _⟩ := R.log.log.typ h; exact mB.ne hc rfl
  have nO : ¬ (S bo ∨ V.lm.F bo) := by
    rintro (h | h)
    · obtain ⟨c, t, hc, _⟩ := typ bo h; exact mO.ne hc rfl
    · obtain ⟨c, t, hc, _⟩ := R.log.log.typ h; exact mO.ne hc rfl
  have sdlt : ∀ j, j < V.nb → ∀ x, x < 2 → ∀ y, SdB (V.B j) x y → y < w.heap.size := fun j hj x hx y h => by
    rcases h with h | ⟨l, hl, rfl⟩
    · exact ((R.book j hj).side x hx).lt h
    · exact (((R.book j hj).side x hx).ords hl).lt
  have apart0 : ∀ s, s < 2 → ∀ x, SdB (V.B i) s x → Apart V i x := fun s hs x hx j hj hne t ht h => R.seps i j hi hj (fun e => hne e.symm) s t hs ht x hx h
  have far : ∀ j, j < V.nb → j ≠ i → IsBook w' (V.bk j) (V.B j) om' := fun j hj hne => by
    have h6 : IsBook w' (V.bk j) (V.B j) V.om := (R.book j hj).kept k (by
      intro x hxx hSF
      have hx : S x := hSF.resolve_right (fun hF => by
        obtain ⟨c, t', hc, ht'⟩ := R.log.log.typ hF
        rcases hxx with rfl | ⟨y, hy, h⟩
        · exact Blk.ne (R.book j hj).blk hc (by rcases ht' with rfl | rfl | rfl | rfl | rfl | rfl <;> decide) rfl
        · rcases h with h | ⟨l, hl, h⟩
          · exact ((R.book j hj).side y hy).ne hc (by rcases ht' with rfl | rfl | rfl | rfl | rfl | rfl <;> decide) h
          · subst h; exact Blk.ne hc (((R.book j hj).side y hy).ords hl) (by rcases ht' with rfl | rfl | rfl | rfl | rfl | rfl <;> decide) rfl)
      clear hSF
      rcases hxx with rfl | ⟨y, hy, h⟩
      · rcases hS _ hx with h | ⟨s, hs, h⟩ | ⟨⟨id, h⟩, _⟩
        · exact R.sepb j i hj hi hne h
        · rcases h with h | ⟨l, hl, h⟩
          · exact ((R.book i hi).side s hs).ne (R.book j hj).blk (by decide) h
          · exact Blk.ne (R.book j hj).blk (((R.book i hi).side s hs).ords hl) (by decide) h
        · obtain ⟨_, ix, ho⟩ := R.ords id _ h
          exact Blk.ne (R.book j hj).blk ho (by decide) rfl
      · rcases hS _ hx with e | ⟨s, hs, e⟩ | ⟨_, e⟩
        · rw [e] at h
          rcases h with h | ⟨l, hl, h⟩
          · exact ((R.book j hj).side y hy).ne (R.book i hi).blk (by decide) h
          · exact Blk.ne (R.book i hi).blk (((R.book j hj).side y hy).ords hl) (by decide) h
        · exact apart0 s hs x e j hj hne y hy h
        · exact e j hj hne y hy h)
    exact ⟨h6.blk, fun y hy => (h6.side y hy).om (fun l hl => hom j hj hne y hy l hl), h6.apart, h6.disj⟩
  refine ⟨hl, ⟨fB, mB.kept k nB, ?_, ?_⟩, ⟨fO, mO.kept k nO, fO1⟩, R.mne, ?_, ?_, ?_, R.sepb, ?_, R.no200⟩
  · intro j hj
    by_cases e : j = i
    · subst e; simp only [Ven.turn, upd_same, hsym]; exact fB1 j hj
    · simp only [Ven.turn, upd_other _ _ e]; exact fB1 j hj
  · intro s' b' h
    obtain ⟨j, hj, e1, e2⟩ := fB2 s' b' h
    refine ⟨j, hj, e1, ?_⟩
    by_cases e : j = i
    · subst e; simp only [Ven.turn, upd_same, hsym]; exact e2
    · simp only [Ven.turn, upd_other _ _ e]; exact e2
  · intro j hj
    by_cases e : j = i
    · subst e; simp only [Ven.turn, upd_same]; exact hm.book
    · simp only [Ven.turn, upd_other _ _ e]; exact far j hj e
  · intro id x hx
    simp only [Ven.turn] at hx ⊢
    rw [hid]
    exact ⟨(R.ords id x hx).1, hm.ords x ⟨id, hx⟩⟩
  · intro j hj x hx l hl
    simp only [Ven.turn] at hj hl ⊢
    by_cases e : j = i
    · subst e
      simp only [upd_same] at hl ⊢
      exact hm.mem x hx l hl
    · simp only [upd_other _ _ e] at hl ⊢
      exact R.mem j hj x hx l hl
  · intro p q hp hq hne x y hx hy z h1 h2
    have half : ∀ q, q < V.nb → q ≠ i → ∀ x y, x < 2 → y < 2 → ∀ z, SdB B' x z → SdB (V.B q) y z → False := by
      intro q hq hne x y hx hy z h1 h2
      rcases hsd x hx z h1 with h | h
      · exact h q hq hne y hy h2
      · have := sdlt q hq y hy z h2; omega
    simp only [Ven.turn] at h1 h2
    by_cases e : p = i
    · rw [e, upd_same] at h1
      rw [upd_other _ _ (show q ≠ i by omega)] at h2
      exact half q hq (by omega) x y hx hy z h1 h2
    · rw [upd_other _ _ e] at h1
      by_cases e2 : q = i
      · rw [e2, upd_same] at h2
        exact half p hp e y x hy hx z h2 h1
      · rw [upd_other _ _ e2] at h2
        exact R.seps p q hp hq hne x y hx hy z h1 h2

theorem Rep.turn {w w' : World} {bv bm bo i : Nat} {V : Ven} (R : Rep w bv bm bo V) (hi : i < V.nb) {B' : Bk} {om' : Nat → Ord} {S : Nat → Prop}
    (hm : Mk w' (V.bk i) B' om' (fun x => ∃ id, V.oid id = some x)) (k : Chg S w w') (hS : ∀ x, S x → x = V.bk i ∨ (∃ s, s < 2 ∧ SdB (V.B i) s x) ∨ ((∃ id, V.oid id = some x) ∧ Apart V i x))
    (hom : ∀ j, j < V.nb → j ≠ i → ∀ s, s < 2 → ∀ l, l < (V.B j).n s → om' ((V.B j).h s l) = V.om ((V.B j).h s l)) (hid : ∀ x, (om' x).id = (V.om x).id) (hsym : B'.sym = (V.B i).sym)
    (hsd : ∀ s, s < 2 → ∀ x, SdB B' s x → Apart V i x ∨ w.heap.size ≤ x) : Rep w' bv bm bo (V.turn i B' om') :=
  R.turnG hi hm (R.log.keptT k (fun x hx => (R.mkt hi).typ (by
    rcases hS x hx with h | h | ⟨h, _⟩
    · exact .inl h
    · exact .inr (.inr h)
    · exact .inr (.inl h)))) (k.mono (fun x h => .inl h)) hS hom hid hsym hsd

end Go.Proofs.YtigaphnafnpfnaaDoor
