import Derived.Test.YtigaphnafnpfnaaGreatDoorPVB5
set_option linter.unusedVariables false
set_option linter.unusedSimpArgs false
namespace Go.Proofs.YtigaphnafnpfnaaGreatDoor
open Go.RowKit
attribute [local go_sem ↓] Go.wp_at_zero Go.wp_at_succ

/-- does what is left wait? -/
def waitsB (o : Ord) : Bool := decide (0 < o.opn) && restsB o.kind

def comeOm (oc : Nat) (st : MS) : Nat → Ord :=
  if waitsB (st.om oc) then upd st.om oc { st.om oc with place := wrap64 (st.B.places + 1) } else upd st.om oc (cancO (st.om oc))
def comeB (oc t g cap' : Nat) (st : MS) : Bk :=
  if waitsB (st.om oc) then st.B.rest (comeOm oc st) t oc g cap' else st.B

def repV (f r c a n : Int) : Value := .agg #[.int .i64 f, .int .i64 r, .int .i64 c, .int .i64 a, .int .i64 n]
def rep (o o' : Ord) (tr tr' : Int) : Value :=
  if tr < tr' then repV (wrap64 (o'.filled - o.filled)) o'.opn (wrap64 (o'.canc - o.canc)) (wrap64 (tr + 1)) (wrap64 (tr' - tr))
  else repV (wrap64 (o'.filled - o.filled)) o'.opn (wrap64 (o'.canc - o.canc)) 0 0

def zero5 : Array Value := #[.int .i64 0, .int .i64 0, .int .i64 0, .int .i64 0, .int .i64 0]
theorem Mk.sd_lt {w : World} {bb : Nat} {B : Bk} {om : Nat → Ord} {L : Nat → Prop} (m : Mk w bb B om L) {s : Nat} (hs : s < 2) {b : Nat} (h : SdB B s b) : b < w.heap.size := by
  rcases h with h | ⟨k, hk, rfl⟩
  · exact (m.book.side s hs).lt h
  · exact ((m.book.side s hs).ords hk).lt

theorem wrapEq (x : Int) : IntKind.i64.wrap x = wrap64 x := by rw [IntKind.wrap_i64]; unfold wrap64; omega
theorem keep_set {w : World} {b b' o o' : Nat} {v u : Value} (h : w.cell? ⟨b, o, none⟩ = some v) (hne : b ≠ b') : (w.setCell ⟨b', o', none⟩ u).cell? ⟨b, o, none⟩ = some v :=
  (World.cell?_of_block (Below.heap_setCell w ⟨b', o', none⟩ u b hne)).trans h
theorem keep_setd {w : World} {b b' o o' : Nat} {v u : Value} (h : w.cell? ⟨b, o, none⟩ = some v) (hne : b ≠ b') : (w.setCell ⟨b', o', none⟩ u).drew.cell? ⟨b, o, none⟩ = some v := keep_set h hne
theorem res24 (tmps : Array Value) (H : Nat) (w : World) (a b c d e : Int) (ht : tmps.getD 6 undef = .pointer (some ⟨H, 0, none⟩)) (hb : Blk w H #[.int .i64 a, .int .i64 b, .int .i64 c, .int .i64 d, .int .i64 e] 87) :
    (results Tryz.f70 tmps).run Tryz.prog w = .ok (repV a b c d e) w := by
  have c0 : w.cell? ⟨H, 0, none⟩ = some (.int .i64 a) := hb.cell 0
  have c1 : w.cell? ⟨H, 1, none⟩ = some (.int .i64 b) := hb.cell 1
  have c2 : w.cell? ⟨H, 2, none⟩ = some (.int .i64 c) := hb.cell 2
  have c3 : w.cell? ⟨H, 3, none⟩ = some (.int .i64 d) := hb.cell 3
  have c4 : w.cell? ⟨H, 4, none⟩ = some (.int .i64 e) := hb.cell 4
  simp only [Array.getD_eq_getD_getElem?] at ht
  simp [results, Tryz.results70, go_sem, ht, c0, c1, c2, c3, c4, repV]

theorem matchF_frame (oc s : Nat) : ∀ (f : Nat) (st : MS), (∀ t, t ≠ s → (matchF oc s f st).B.n t = st.B.n t ∧ (matchF oc s f st).B.h t = st.B.h t) ∧ (matchF oc s f st).B.sl = st.B.sl ∧ (matchF oc s f st).B.cap = st.B.cap ∧ (matchF oc s f st).B.sym = st.B.sym ∧ (matchF oc s f st).B.places = st.B.places := by
  intro f
  induction f with
  | zero => intro st; exact ⟨fun _ _ => ⟨rfl, rfl⟩, rfl, rfl, rfl, rfl⟩
  | succ f ih =>
    intro st
    rw [matchF]
    split
    · exact ⟨fun _ _ => ⟨rfl, rfl⟩, rfl, rfl, rfl, rfl⟩
    · obtain ⟨h1, h2, h3, h4, h5⟩ := ih (mstep oc s st)
      have e : (∀ t, t ≠ s → (mstep oc s st).B.n t = st.B.n t ∧ (mstep oc s st).B.h t = st.B.h t) ∧ (mstep oc s st).B.sl = st.B.sl ∧ (mstep oc s st).B.cap = st.B.cap ∧ (mstep oc s st).B.sym = st.B.sym ∧ (mstep oc s st).B.places = st.B.places := by
        unfold mstep
        split
        · exact ⟨fun t ht => ⟨upd_other _ _ ht, upd_other _ _ ht⟩, rfl, rfl, rfl, rfl⟩
        · simp only [tradeB]
          split
          · exact ⟨fun t ht => ⟨upd_other _ _ ht, upd_other _ _ ht⟩, rfl, rfl, rfl, rfl⟩
          · exact ⟨fun _ _ => ⟨rfl, rfl⟩, rfl, rfl, rfl, rfl⟩
      exact ⟨fun t ht => ⟨(h1 t ht).1.trans (e.1 t ht).1, (h1 t ht).2.trans (e.1 t ht).2⟩, h2.trans e.2.1, h3.trans e.2.2.1, h4.trans e.2.2.2.1, h5.trans e.2.2.2.2⟩

theorem Mk.rest {w w' : World} {bb ob s g cap' : Nat} {B : Bk} {om om' : Nat → Ord} {L : Nat → Prop} (m : Mk w bb B om L) (hs : s < 2) (hL : L ob) (hom : ∀ b, b ≠ ob → om' b = om b) (h1 : IsBook w' bb (B.rest om' s ob g cap') om') (h3 : Chg (fun b => b = bb ∨ b = ob ∨ SdB B s b) w w') : Mk w' bb (B.rest om' s ob g cap') om' L := by
  have hmem : ∀ b, Mem (B.n s) (B.h s) b ∨ b = ob → ∃ ix, IsOrd w' b (om' b) ix := by
    intro b hb
    obtain ⟨k, hk, e⟩ := (mem_push (lt := ltB om') (B.h s) ob b).2 hb
    have := (h1.side s hs).ords (i := k) (by simp only [Bk.rest, upd_same]; exact hk)
    simp only [Bk.rest, upd_same] at this
    rw [← e] at this
    exact ⟨k, this⟩
  refine ⟨h1, fun b hb => ?_, fun t ht k hk => ?_⟩
  · by_cases e : b = ob
    · exact hmem b (.inr e)
    · by_cases hm : Mem (B.n s) (B.h s) b
      · exact hmem b (.inl hm)
      · obtain ⟨ix, ho⟩ := m.ords b hb
        rw [hom b e]
        refine ⟨ix, h3.blk ho ?_⟩
        rintro (rfl | h | h | h)
        · exact Blk.ne ho m.book.blk (by decide) rfl
        · exact e h
        · exact (m.book.side s hs).ne ho (by decide) h
        · exact hm h
  · by_cases e : t = s
    · subst e
      simp only [Bk.rest, upd_same] at hk ⊢
      rcases (mem_push (lt := ltB om') (B.h t) ob _).1 ⟨k, hk, rfl⟩ with ⟨k', hk', e'⟩ | e'
      · rw [e']; exact m.mem t ht k' hk'
      · rw [e']; exact hL
    · simp only [Bk.rest, upd_other _ _ e] at hk ⊢
      exact m.mem t ht k hk

/-- what come notes last -/
def comeG (oc : Nat) (st : MS) : Lg := st.lg.noted [if waitsB (st.om oc) then .rested oc (st.om oc).place else .now oc (st.om oc)]

theorem comeG_tr (oc : Nat) (st : MS) : (comeG oc st).tr = st.lg.tr := rfl
theorem comeG_tp (oc : Nat) (st : MS) : (comeG oc st).tp = st.lg.tp := rfl
theorem comeG_day (oc : Nat) (st : MS) : (comeG oc st).day = st.lg.day := rfl
theorem comeG_na (oc : Nat) (st : MS) : (comeG oc st).na = st.lg.na := rfl

theorem mstep_na (oc s : Nat) (st : MS) : (mstep oc s st).lg.na = st.lg.na ∧ (mstep oc s st).lg.nt.length ≤ st.lg.nt.length + 4 := by
  unfold mstep
  split
  · exact ⟨rfl, by simp only [Lg.noted, List.length_append, List.length_cons, List.length_nil]; omega⟩
  · have g4 := tradeG_nt st.lg st.om oc (st.B.h s 0)
    exact ⟨by simp only [Lg.addT, Lg.told, Lg.kept, Lg.noted, tradeG_na], by simp only [Lg.addT, Lg.told, Lg.kept, Lg.noted, List.length_append, List.length_cons, List.length_nil]; omega⟩

theorem matchF_na (oc s : Nat) : ∀ (f : Nat) (st : MS), (matchF oc s f st).lg.na = st.lg.na ∧ (matchF oc s f st).lg.nt.length ≤ st.lg.nt.length + 4 * f
  | 0, st => ⟨rfl, by simp [matchF]⟩
  | f + 1, st => by
    rw [matchF]
    split
    · exact ⟨rfl, by omega⟩
    · have h1 := matchF_na oc s f (mstep oc s st)
      have h2 := mstep_na oc s st
      exact ⟨h1.1.trans h2.1, by omega⟩

def IsRestF (w : World) (bb b : Nat) (p : Int) (lo : Nat) (fn : Fn) (cp : Array Value) : Prop := fn = .func 153 ∧ ∃ H, lo ≤ H ∧ cp = #[ptrT H, ptrT (H + 1), ptrT (H + 2)] ∧ RestB w H bb b p

theorem rest_fn (bb ob s : Nat) (B : Bk) (om : Nat → Ord) (ix : Int) (w : World) (hb : IsBook w bb B om) (ho : IsOrd w ob (om ob) ix) (hs : s < 2) (hside : (om ob).side = (s : Int)) (hnew : ∀ t, t < 2 → ∀ k, k < B.n t → B.h t k ≠ ob) (hn : B.n s < 1000) :
    Calls Tryz.prog 122 #[.pointer (some ⟨bb, 0, none⟩), .pointer (some ⟨ob, 0, none⟩)] w fun e w' => ∃ fn cp, e = .returned (.func fn #[] cp) ∧ IsRestF w' bb ob (om ob).place w.heap.size fn cp ∧
      ∃ g cap', IsBook w' bb (B.rest (upd om ob { om ob with place := wrap64 (B.places + 1) }) s ob g cap') (upd om ob { om ob with place := wrap64 (B.places + 1) }) ∧ Chg (fun b => b = bb ∨ b = ob ∨ SdB B s b) w w' ∧ (adB (B.sl s) = some g ∨ w.heap.size ≤ g) := by
  refine (rest_any bb ob s B om ix w hb ho hs hside hnew hn).mono ?_
  rintro e w' ⟨rfl, h0, h1⟩
  exact ⟨_, _, rfl, ⟨rfl, _, Nat.le_refl _, rfl, h0⟩, h1⟩

/-- what is so behind come -/
def ComePost (bv bb oc s t bm bo : Nat) (st0 : MS) (lm : Lm) (L : Nat → Prop) (w : World) (v : Value) (w' : World) : Prop :=
  v = rep (st0.om oc) (comeOm oc (mF oc s st0) oc) st0.tr (mF oc s st0).tr ∧
      ∃ g cap' lm', Mk w' bb (comeB oc t g cap' (mF oc s st0)) (comeOm oc (mF oc s st0)) L ∧ IsLog w' bv bm bo (comeG oc (mF oc s st0)) lm' ∧ (∀ b, lm'.F b → lm.F b ∨ w.heap.size ≤ b) ∧
        Chg (fun b => b = bv ∨ lm.F b ∨ b = bb ∨ b = oc ∨ SdB st0.B s b ∨ SdB st0.B t b) w w' ∧ (adB (st0.B.sl t) = some g ∨ w.heap.size ≤ g)

theorem LogVp.tvForm {w : World} {G : Lg} {m : Lm} (h : LogV w G m) {n : Nat} (hn : G.tr.length = n) : ∃ a c, m.tv = .slice a n c := by
  rcases h.trow.2 with ⟨h, h0⟩ | ⟨g, cap, cs, h, _⟩
  · exact ⟨none, 0, by rw [h, ← hn, h0]⟩
  · exact ⟨_, cap, by rw [h, hn]⟩

set_option maxHeartbeats 4000000 in
set_option maxRecDepth 100000 in
theorem come_any (bv bb oc s t bm bo : Nat) (st0 : MS) (lm : Lm) (L : Nat → Prop) (w : World) (hv : IsLog w bv bm bo st0.lg lm) (m : Mk w bb st0.B st0.om L) (hs : s < 2) (ht : t = 1 - s) (hc : L oc) (iv : Inv oc s st0)
    (hnew : ∀ t, t < 2 → ∀ k, k < st0.B.n t → st0.B.h t k ≠ oc) (hn : st0.B.n t < 1000) (M : Nat) (hM : M < 1000000000) (hl1 : st0.lg.tp.length + mu oc s st0 ≤ M) (hl2 : st0.lg.tr.length + mu oc s st0 ≤ M) (hna : 0 < st0.lg.na) (hna2 : st0.lg.na ≤ 3000000) (hl3 : st0.lg.nt.length + 4 * mu oc s st0 + 1 ≤ M) :
    Calls Tryz.prog 70 #[.pointer (some ⟨bv, 0, none⟩), .pointer (some ⟨bb, 0, none⟩), .pointer (some ⟨oc, 0, none⟩)] w fun e w' =>
      ∃ v, e = .returned v ∧ ComePost bv bb oc s t bm bo st0 lm L w v w' := by
  obtain ⟨ixc, hoc⟩ := m.ords oc hc
  have c0 : w.cell? ⟨oc, 0, none⟩ = some (.int .i64 (st0.om oc).id) := hoc.cell 0
  have c1 : w.cell? ⟨oc, 1, none⟩ = some (.int .i64 (st0.om oc).owner) := hoc.cell 1
  have c2 : w.cell? ⟨oc, 2, none⟩ = some (.string (st0.om oc).sym) := hoc.cell 2
  have c3 : w.cell? ⟨oc, 3, none⟩ = some (.int .i64 (st0.om oc).side) := hoc.cell 3
  have c4 : w.cell? ⟨oc, 4, none⟩ = some (.int .i64 (st0.om oc).kind) := hoc.cell 4
  have c5 : w.cell? ⟨oc, 5, none⟩ = some (.int .i64 (st0.om oc).price) := hoc.cell 5
  have c6 : w.cell? ⟨oc, 6, none⟩ = some (.int .i64 (st0.om oc).qty) := hoc.cell 6
  have c7 : w.cell? ⟨oc, 7, none⟩ = some (.int .i64 (st0.om oc).entered) := hoc.cell 7
  have c8 : w.cell? ⟨oc, 8, none⟩ = some (.int .i64 (st0.om oc).opn) := hoc.cell 8
  have c9 : w.cell? ⟨oc, 9, none⟩ = some (.int .i64 (st0.om oc).filled) := hoc.cell 9
  have c10 : w.cell? ⟨oc, 10, none⟩ = some (.int .i64 (st0.om oc).canc) := hoc.cell 10
  have c11 : w.cell? ⟨oc, 11, none⟩ = some (.int .i64 (st0.om oc).exp) := hoc.cell 11
  obtain ⟨cA, hn0⟩ : ∃ cA, st0.lg.tr.length = cA := ⟨_, rfl⟩
  obtain ⟨pa0, pc0, htv0⟩ := hv.log.tvForm hn0
  have v2 : w.cell? ⟨bv, 2, none⟩ = some (.slice pa0 cA pc0) := by rw [← htv0]; exact hv.ven.cell 2
  have HN0 := hide hn0
  have lo := hoc.lt
  have lv := hv.ven.lt
  have lb := m.book.blk.lt
  obtain ⟨w1, hw1⟩ : ∃ w1, w1 = ((w.alloc (.cells #[.int .i64 0, .int .i64 0, .int .i64 0, .int .i64 0, .int .i64 0] 87)).alloc (.cells #[.int .i64 (st0.om oc).id, .int .i64 (st0.om oc).owner, .string (st0.om oc).sym, .int .i64 (st0.om oc).side, .int .i64 (st0.om oc).kind, .int .i64 (st0.om oc).price, .int .i64 (st0.om oc).qty,
    .int .i64 (st0.om oc).entered, .int .i64 (st0.om oc).opn, .int .i64 (st0.om oc).filled, .int .i64 (st0.om oc).canc, .int .i64 (st0.om oc).exp] 54)).drew := ⟨_, rfl⟩
  have HW := hide hw1
  have k1 : Chg Non w w1 := by rw [hw1]; exact (((Chg.refl Non w).alloc _).alloc _).drew
  have hr1 : Blk w1 w.heap.size zero5 87 := by rw [hw1]; exact ((Blk.new w _ _).alloc _).drew
  have hs1 : Blk w1 (w.heap.size + 1) (statC (st0.om oc)) 54 := by
    rw [hw1]
    have := (Blk.new (w.alloc (.cells #[.int .i64 0, .int .i64 0, .int .i64 0, .int .i64 0, .int .i64 0] 87)) (statC (st0.om oc)) 54).drew
    have e : (w.alloc (.cells #[.int .i64 0, .int .i64 0, .int .i64 0, .int .i64 0, .int .i64 0] 87)).heap.size = w.heap.size + 1 := by simp
    rw [e] at this
    exact this
  have m1 := m.kept k1 (fun x => x) (fun _ _ x => x) (fun _ _ _ _ x => x)
  have hv1 := hv.kept0 k1
  have hmatch := match_any bv bb oc s bm bo st0 lm L w1 hv1 m1 hs hc iv M hM hl1 hl2 hna hna2 (by omega)
  have hna3 := matchF_na oc s (mu oc s st0) st0
  have HN1 : Hid (0 < (mF oc s st0).lg.na ∧ (mF oc s st0).lg.na ≤ 3000000 ∧ (mF oc s st0).lg.nt.length + 1 < 1000000000) := by
    show _ ∧ _
    unfold mF
    rw [hna3.1]
    exact ⟨hna, hna2, by omega⟩
  have outS : ∀ b, w.heap.size ≤ b → ¬ (b = bv ∨ lm.F b ∨ b = bb ∨ b = oc ∨ SdB st0.B s b) := by
    rintro b hb (h | h | h | h | h)
    · omega
    · have := hv.log.lt h; omega
    · omega
    · omega
    · have := m.sd_lt hs h; omega
  have HX := hide hmatch
  have HT := hide ht
  clear hmatch hw1 ht hn0 htv0 hM hl1 hl2 hl3 hna hna2 hna3
  go_enter Tryz.func70, Tryz.ntmps70
  go_wp2
  go_region
  rw [← unhide HW]
  clear c0 c1 c2 c3 c4 c5 c6 c7 c8 c9 c10 c11 v2
  go_wp2_with fail
  refine (unhide HX).mono ?_
  rintro e w2 ⟨rfl, m2, ⟨lm2, hv2, hf2⟩, iv2, k2⟩
  have hr2 := k2.blk hr1 (outS _ (Nat.le_refl _))
  have hs2 := k2.blk hs1 (outS _ (by omega))
  obtain ⟨ix2, ho2⟩ := m2.ords oc hc
  have o8 : w2.cell? ⟨oc, 8, none⟩ = some (.int .i64 ((mF oc s st0).om oc).opn) := ho2.cell 8
  by_cases hp : 0 < ((mF oc s st0).om oc).opn
  · cases hr : restsB ((mF oc s st0).om oc).kind
    · have HWt : Hid (waitsB ((mF oc s st0).om oc) = false) := by show _ = _; unfold waitsB; rw [hr]; simp
      go_wp2_with fail
      refine (rests_any oc _ ix2 w2 ho2).mono ?_
      rintro e w2' ⟨rfl, rfl⟩
      rw [hr]
      clear hr
      go_wp2_with fail
      refine (cancelOpen_mk bb oc _ _ L _ m2 hc).mono ?_
      rintro e wq ⟨fnq, cpq, rfl, -, mq, kq⟩
      have hom : upd (mF oc s st0).om oc { (mF oc s st0).om oc with opn := 0, canc := wrap64 (((mF oc s st0).om oc).canc + ((mF oc s st0).om oc).opn) } = comeOm oc (mF oc s st0) := by unfold comeOm; rw [unhide HWt]; rfl
      rw [hom] at mq
      have hB : comeB oc t 0 0 (mF oc s st0) = (mF oc s st0).B := by unfold comeB; rw [unhide HWt]; rfl
      rw [← hB] at mq
      have hgq : ∃ g cap', Mk wq bb (comeB oc t g cap' (mF oc s st0)) (comeOm oc (mF oc s st0)) L ∧ (adB (st0.B.sl t) = some g ∨ w.heap.size ≤ g) := ⟨w.heap.size, 0, by have e : comeB oc t w.heap.size 0 (mF oc s st0) = comeB oc t 0 0 (mF oc s st0) := by { unfold comeB; rw [unhide HWt]; rfl }; rw [e]; exact mq, .inr (Nat.le_refl _)⟩
      have kcq : Chg (fun b => b = bv ∨ lm.F b ∨ b = bb ∨ b = oc ∨ SdB st0.B s b ∨ SdB st0.B t b) w wq := (k1.of_non.trans (k2.mono (fun b h => by rcases h with h | h | h | h | h; exact .inl h; exact .inr (.inl h); exact .inr (.inr (.inl h)); exact .inr (.inr (.inr (.inl h))); exact .inr (.inr (.inr (.inr (.inl h))))))).trans (kq.mono (fun b h => .inr (.inr (.inr (.inl h)))))
      have hvq := hv2.keptT kq (fun b h => by subst h; exact m2.typ (.inr (.inl hc)))
      have hrq := kq.blk hr2 (fun h => by omega)
      have hsq := kq.blk hs2 (fun h => by omega)
      have HNt := hide (note1 bv bm bo _ lm2 (.now oc ((mF oc s st0).om oc)) fnq cpq wq hvq (unhide HN1).1 (unhide HN1).2.1 (unhide HN1).2.2)
      have HVq := hide hvq
      have HMq := hide hgq
      have HKq := hide kcq
      clear mq kq hgq hvq kcq
      go_wp2_with fail
      refine (unhide HNt).mono ?_
      rintro e w3 ⟨rfl, lm3, hv3, hf3, k3⟩
      have hvq := unhide HVq
      have kcq := unhide HKq
      have hG : comeG oc (mF oc s st0) = (mF oc s st0).lg.noted [.now oc ((mF oc s st0).om oc)] := by unfold comeG; rw [unhide HWt]; rfl
      rw [← hG] at hv3
      obtain ⟨gq, capq, mq, hgq⟩ := unhide HMq
      have m3 := mq.keptLog hvq (k3.mono (fun b h => .inr h))
      have hgc : ∃ g cap', Mk w3 bb (comeB oc t g cap' (mF oc s st0)) (comeOm oc (mF oc s st0)) L ∧ (adB (st0.B.sl t) = some g ∨ w.heap.size ≤ g) := ⟨gq, capq, m3, hgq⟩
      have hf2' : ∀ b, lm2.F b → lm.F b ∨ w.heap.size ≤ b := fun b hb => (hf2 b hb).imp_right (fun h => Nat.le_trans k1.size h)
      have hf3' : ∀ b, lm3.F b → lm.F b ∨ w.heap.size ≤ b := fun b hb => by
        rcases hf3 b hb with h | h
        · exact hf2' b h
        · exact .inr (Nat.le_trans kcq.size h)
      have kc : Chg (fun b => b = bv ∨ lm.F b ∨ b = bb ∨ b = oc ∨ SdB st0.B s b ∨ SdB st0.B t b) w w3 := kcq.from (k3.mono (fun b h => (hf2' b h).imp_left (fun h => .inr (.inl h))))
      have hr3 := k3.blk hrq (hvq.log.ne hrq (by decide) (by decide) (by decide) (by decide) (by decide))
      have hs3 := k3.blk hsq (hvq.log.ne hsq (by decide) (by decide) (by decide) (by decide) (by decide))
      clear hvq mq kcq hrq hsq hf3 HNt hG HVq HMq HKq hgq hf2'
      clear hom hB
      obtain ⟨ix3, ho3⟩ := m3.ords oc hc
      obtain ⟨F1, R1, C1, hF1, hR1, hC1⟩ : ∃ F1 R1 C1, F1 = (comeOm oc (mF oc s st0) oc).filled ∧ R1 = (comeOm oc (mF oc s st0) oc).opn ∧ C1 = (comeOm oc (mF oc s st0) oc).canc := ⟨_, _, _, rfl, rfl, rfl⟩
      obtain ⟨F0, C0, cB, hF0, hC0, hT1⟩ : ∃ F0 C0 cB, F0 = (st0.om oc).filled ∧ C0 = (st0.om oc).canc ∧ (mF oc s st0).lg.tr.length = cB := ⟨_, _, _, rfl, rfl, rfl⟩
      have a8 : w3.cell? ⟨oc, 8, none⟩ = some (.int .i64 R1) := by rw [hR1]; exact ho3.cell 8
      have a9 : w3.cell? ⟨oc, 9, none⟩ = some (.int .i64 F1) := by rw [hF1]; exact ho3.cell 9
      have a10 : w3.cell? ⟨oc, 10, none⟩ = some (.int .i64 C1) := by rw [hC1]; exact ho3.cell 10
      have b9 : w3.cell? ⟨w.heap.size + 1, 9, none⟩ = some (.int .i64 F0) := by rw [hF0]; exact hs3.cell 9
      have b10 : w3.cell? ⟨w.heap.size + 1, 10, none⟩ = some (.int .i64 C0) := by rw [hC0]; exact hs3.cell 10
      have l1 : w.heap.size + 1 < w3.heap.size := hs3.lt
      have l2 : oc < w3.heap.size := ho3.lt
      have fin : ∀ w' v, v = rep (st0.om oc) (comeOm oc (mF oc s st0) oc) st0.tr (mF oc s st0).tr → Chg (fun b => b = w.heap.size) w3 w' → ComePost bv bb oc s t bm bo st0 lm L w v w' := by
        intro w' v hv' kw
        obtain ⟨g, cap', hm, hg⟩ := hgc
        refine ⟨hv', g, cap', lm3, hm.kept kw (by omega) (fun b hb e => ?_) (fun x hx b hb e => ?_), hv3.kept kw (by omega) (fun b hb e => hv3.log.ne hr3 (by decide) (by decide) (by decide) (by decide) (by decide) (e ▸ hb)), hf3', ?_, hg⟩
        · obtain ⟨ix, ho⟩ := hm.ords b hb
          subst e
          exact Blk.ne ho hr3 (by decide) rfl
        · subst e
          exact (hm.book.side x hx).ne hr3 (by decide) hb
        · exact kc.from (kw.mono (fun b h => .inr (by omega)))
      have HFin := hide fin
      have nn1 := World.new_ne w3 _ a8
      have nn2 := World.new_ne w3 _ a9
      have nn3 := World.new_ne w3 _ a10
      have nn4 := World.new_ne w3 _ b9
      have nn5 := World.new_ne w3 _ b10
      have HRep : Hid (rep (st0.om oc) (comeOm oc (mF oc s st0) oc) st0.tr (mF oc s st0).tr = if (cA : Int) < (cB : Int) then repV (wrap64 (F1 - F0)) R1 (wrap64 (C1 - C0)) (wrap64 ((cA : Int) + 1)) (wrap64 ((cB : Int) - (cA : Int))) else repV (wrap64 (F1 - F0)) R1 (wrap64 (C1 - C0)) 0 0) := by
        show _ = _
        unfold rep MS.tr
        rw [hF1, hR1, hC1, hF0, hC0, hT1, unhide HN0]
      obtain ⟨pa1, pc1, htv1⟩ := hv3.log.tvForm (n := cB) (by rw [comeG_tr]; exact hT1)
      have v2 : w3.cell? ⟨bv, 2, none⟩ = some (.slice pa1 cB pc1) := by rw [← htv1]; exact hv3.ven.cell 2
      clear htv1
      have l3 : bv < w3.heap.size := hv3.ven.lt
      have HR3 := hide hr3
      obtain ⟨w4, hw4⟩ : ∃ w4, w4 = (w3.alloc (.cells #[.int .i64 (wrap64 (F1 - F0)), .int .i64 R1, .int .i64 (wrap64 (C1 - C0)), .int .i64 0, .int .i64 0] 87)).drew := ⟨_, rfl⟩
      have hn4 : Blk w4 w3.heap.size #[.int .i64 (wrap64 (F1 - F0)), .int .i64 R1, .int .i64 (wrap64 (C1 - C0)), .int .i64 0, .int .i64 0] 87 := by rw [hw4]; exact (Blk.new w3 _ _).drew
      have k4 : Chg Non w3 w4 := by rw [hw4]; exact ((Chg.refl Non w3).alloc _).drew
      have HW4 := hide hw4
      have HN4 := hide hn4
      clear hw4
      have HK4 := hide k4
      have HR4 := hide (k4.blk hr3 (fun x => x))
      have v4 := k4.cell v2 (fun x => x)
      have HV4 := hide v4
      clear hn4 v4
      clear fin hF1 hR1 hC1 hF0 hC0 hT1 m3 hv3 hf2 hf3' hs3 ho3 hs2 hr2 m2 hv2 iv2 ho2 k2 k1 hr1 hs1 m1 hv1 HW HX outS hnew iv hgc kc hr3 m hv hn hoc k3 k4
      go_wp2
      go_region_held3 (fun w' => w'.cell? ⟨oc, 8, none⟩ = some (.int .i64 R1) ∧ w'.cell? ⟨oc, 9, none⟩ = some (.int .i64 F1) ∧ w'.cell? ⟨oc, 10, none⟩ = some (.int .i64 C1) ∧ w'.cell? ⟨w.heap.size + 1, 9, none⟩ = some (.int .i64 F0) ∧ w'.cell? ⟨w.heap.size + 1, 10, none⟩ = some (.int .i64 C0)) (go_keep) (fail)
      rw [wrapEq (F1 - F0), wrapEq (C1 - C0), ← unhide HW4]
      rename_i hS4
      clear hS4 nn1 nn2 nn3 nn4 nn5
      clear a8 a9 a10 b9 b10 v2
      have v4 := unhide HV4
      have n0 : w4.cell? ⟨w3.heap.size, 0, none⟩ = some (.int .i64 (wrap64 (F1 - F0))) := (unhide HN4).cell 0
      have n1 : w4.cell? ⟨w3.heap.size, 1, none⟩ = some (.int .i64 R1) := (unhide HN4).cell 1
      have n2 : w4.cell? ⟨w3.heap.size, 2, none⟩ = some (.int .i64 (wrap64 (C1 - C0))) := (unhide HN4).cell 2
      have n3 : w4.cell? ⟨w3.heap.size, 3, none⟩ = some (.int .i64 0) := (unhide HN4).cell 3
      have n4 : w4.cell? ⟨w3.heap.size, 4, none⟩ = some (.int .i64 0) := (unhide HN4).cell 4
      have f3 := (unhide HN4).frozen 3
      have f4 := (unhide HN4).frozen 4
      have hne : w3.heap.size ≠ w.heap.size := by omega
      have hvn : bv ≠ w3.heap.size := by omega
      by_cases htr : (cA : Int) < (cB : Int)
      · obtain ⟨w5, hw5⟩ : ∃ w5, w5 = ((w4.setCell ⟨w3.heap.size, 3, none⟩ (.int .i64 (wrap64 ((cA : Int) + 1)))).setCell ⟨w3.heap.size, 4, none⟩ (.int .i64 (wrap64 ((cB : Int) - (cA : Int))))).drew := ⟨_, rfl⟩
        have hn5 : Blk w5 w3.heap.size #[.int .i64 (wrap64 (F1 - F0)), .int .i64 R1, .int .i64 (wrap64 (C1 - C0)), .int .i64 (wrap64 ((cA : Int) + 1)), .int .i64 (wrap64 ((cB : Int) - (cA : Int)))] 87 := by rw [hw5]; exact (((unhide HN4).set 3 _).set 4 _).drew
        have k5 : Chg (fun b => b = w3.heap.size) w4 w5 := by rw [hw5]; exact (((Chg.refl (fun b => b = w3.heap.size) w4).setCell (p := ⟨w3.heap.size, 3, none⟩) (.inl rfl) _).setCell (p := ⟨w3.heap.size, 4, none⟩) (.inl rfl) _).drew
        have HW5 := hide hw5
        have HN5 := hide hn5
        have HR5 := hide (k5.blk (unhide HR4) (fun e => hne e.symm))
        have HK5 := hide k5
        have HH := hide htr
        clear hw5 hn5 k5
        go_wp2
        go_region
        rw [← unhide HW5]
        clear v4 n0 n1 n2 n3 n4 f3 f4
        have n0 : w5.cell? ⟨w3.heap.size, 0, none⟩ = some (.int .i64 (wrap64 (F1 - F0))) := (unhide HN5).cell 0
        have n1 : w5.cell? ⟨w3.heap.size, 1, none⟩ = some (.int .i64 R1) := (unhide HN5).cell 1
        have n2 : w5.cell? ⟨w3.heap.size, 2, none⟩ = some (.int .i64 (wrap64 (C1 - C0))) := (unhide HN5).cell 2
        have n3 : w5.cell? ⟨w3.heap.size, 3, none⟩ = some (.int .i64 (wrap64 ((cA : Int) + 1))) := (unhide HN5).cell 3
        have n4 : w5.cell? ⟨w3.heap.size, 4, none⟩ = some (.int .i64 (wrap64 ((cB : Int) - (cA : Int)))) := (unhide HN5).cell 4
        have r0 : w5.cell? ⟨w.heap.size, 0, none⟩ = some (.int .i64 0) := (unhide HR5).cell 0
        have r1 : w5.cell? ⟨w.heap.size, 1, none⟩ = some (.int .i64 0) := (unhide HR5).cell 1
        have r2 : w5.cell? ⟨w.heap.size, 2, none⟩ = some (.int .i64 0) := (unhide HR5).cell 2
        have r3 : w5.cell? ⟨w.heap.size, 3, none⟩ = some (.int .i64 0) := (unhide HR5).cell 3
        have r4 : w5.cell? ⟨w.heap.size, 4, none⟩ = some (.int .i64 0) := (unhide HR5).cell 4
        have q0 := (unhide HR5).frozen 0
        have q1 := (unhide HR5).frozen 1
        have q2 := (unhide HR5).frozen 2
        have q3 := (unhide HR5).frozen 3
        have q4 := (unhide HR5).frozen 4
        clear htr
        go_wp2
        refine bodyPost_ret (v := repV (wrap64 (F1 - F0)) R1 (wrap64 (C1 - C0)) (wrap64 ((cA : Int) + 1)) (wrap64 ((cB : Int) - (cA : Int)))) (res24 _ w.heap.size _ _ _ _ _ _ rfl ?_) rfl ⟨_, rfl, unhide HFin _ _ ?_ ?_⟩
        · exact (((((unhide HR5).set 0 _).set 1 _).set 2 _).set 3 _).set 4 _
        · rw [unhide HRep, if_pos (unhide HH)]
        · have kk : Chg (fun b => b = w.heap.size) w3 w5 := (unhide HK4).of_non.from ((unhide HK5).mono (fun b h => .inr (by omega)))
          exact (((((kk).setCell (p := ⟨w.heap.size, 0, none⟩) (.inl rfl) _).setCell (p := ⟨w.heap.size, 1, none⟩) (.inl rfl) _).setCell (p := ⟨w.heap.size, 2, none⟩) (.inl rfl) _).setCell (p := ⟨w.heap.size, 3, none⟩) (.inl rfl) _).setCell (p := ⟨w.heap.size, 4, none⟩) (.inl rfl) _
      · have HH := hide htr
        have r0 : w4.cell? ⟨w.heap.size, 0, none⟩ = some (.int .i64 0) := (unhide HR4).cell 0
        have r1 : w4.cell? ⟨w.heap.size, 1, none⟩ = some (.int .i64 0) := (unhide HR4).cell 1
        have r2 : w4.cell? ⟨w.heap.size, 2, none⟩ = some (.int .i64 0) := (unhide HR4).cell 2
        have r3 : w4.cell? ⟨w.heap.size, 3, none⟩ = some (.int .i64 0) := (unhide HR4).cell 3
        have r4 : w4.cell? ⟨w.heap.size, 4, none⟩ = some (.int .i64 0) := (unhide HR4).cell 4
        have q0 := (unhide HR4).frozen 0
        have q1 := (unhide HR4).frozen 1
        have q2 := (unhide HR4).frozen 2
        have q3 := (unhide HR4).frozen 3
        have q4 := (unhide HR4).frozen 4
        clear f3 f4
        go_wp2
        refine bodyPost_ret (v := repV (wrap64 (F1 - F0)) R1 (wrap64 (C1 - C0)) 0 0) (res24 _ w.heap.size _ _ _ _ _ _ rfl ?_) rfl ⟨_, rfl, unhide HFin _ _ ?_ ?_⟩
        · exact (((((unhide HR4).set 0 _).set 1 _).set 2 _).set 3 _).set 4 _
        · have := unhide HH; rw [unhide HRep, if_neg (by omega)]
        · have kk : Chg (fun b => b = w.heap.size) w3 w4 := (unhide HK4).of_non
          exact (((((kk).setCell (p := ⟨w.heap.size, 0, none⟩) (.inl rfl) _).setCell (p := ⟨w.heap.size, 1, none⟩) (.inl rfl) _).setCell (p := ⟨w.heap.size, 2, none⟩) (.inl rfl) _).setCell (p := ⟨w.heap.size, 3, none⟩) (.inl rfl) _).setCell (p := ⟨w.heap.size, 4, none⟩) (.inl rfl) _
    · have HWt : Hid (waitsB ((mF oc s st0).om oc) = true) := by show _ = _; unfold waitsB; rw [hr]; simp [hp]
      have htt := unhide HT
      have hF2 := matchF_frame oc s (mu oc s st0) st0
      change (∀ t, t ≠ s → (mF oc s st0).B.n t = st0.B.n t ∧ (mF oc s st0).B.h t = st0.B.h t) ∧ (mF oc s st0).B.sl = st0.B.sl ∧ (mF oc s st0).B.cap = st0.B.cap ∧ (mF oc s st0).B.sym = st0.B.sym ∧ (mF oc s st0).B.places = st0.B.places at hF2
      have hN2 : (mF oc s st0).B.n t = st0.B.n t := (hF2.1 t (by omega)).1
      have hnew2 : ∀ x, x < 2 → ∀ k, k < (mF oc s st0).B.n x → (mF oc s st0).B.h x k ≠ oc := fun x hx k hk => by
        by_cases e : x = s
        · subst e; exact (iv2.mem k hk).2.2.2
        · rw [(hF2.1 x e).1] at hk
          rw [(hF2.1 x e).2]
          exact hnew x hx k hk
      have HN2 := hide hN2
      have HF2 := hide hF2
      have HE2 := hide hnew2
      clear hN2 hF2 hnew2 htt
      go_wp2_with fail
      refine (rests_any oc _ ix2 w2 ho2).mono ?_
      rintro e w2' ⟨rfl, rfl⟩
      rw [hr]
      clear hr
      go_wp2_with fail
      have htt := unhide HT
      have hN2 := unhide HN2
      have hF2 := unhide HF2
      have hnew2 := unhide HE2
      refine (rest_fn bb oc t (mF oc s st0).B (mF oc s st0).om ix2 _ m2.book ho2 (by omega) (by rw [iv2.side]; omega) hnew2 (by rw [hN2]; exact hn)).mono ?_
      rintro e wq ⟨fnq, cpq, rfl, -, g, cap', hbq, kq, hgq3⟩
      have hom : upd (mF oc s st0).om oc { (mF oc s st0).om oc with place := wrap64 ((mF oc s st0).B.places + 1) } = comeOm oc (mF oc s st0) := by unfold comeOm; rw [unhide HWt]; rfl
      rw [hom] at hbq
      have mq := m2.rest (om' := comeOm oc (mF oc s st0)) (by omega) hc (fun b hb => by rw [← hom, upd_other _ _ hb]) hbq kq
      have hB : (mF oc s st0).B.rest (comeOm oc (mF oc s st0)) t oc g cap' = comeB oc t g cap' (mF oc s st0) := by unfold comeB; rw [unhide HWt]; rfl
      rw [hB] at mq
      have hgq : ∃ g cap', Mk wq bb (comeB oc t g cap' (mF oc s st0)) (comeOm oc (mF oc s st0)) L ∧ (adB (st0.B.sl t) = some g ∨ w.heap.size ≤ g) := ⟨g, cap', mq, by
        rcases hgq3 with h | h
        · left; rw [← hF2.2.1]; exact h
        · right
          have := k1.size
          have := k2.size
          omega⟩
      have sdt : ∀ b, SdB (mF oc s st0).B t b → SdB st0.B t b := fun b h => by
        unfold SdB at h ⊢
        rw [hF2.2.1, (hF2.1 t (by omega)).1, (hF2.1 t (by omega)).2] at h
        exact h
      have kcq : Chg (fun b => b = bv ∨ lm.F b ∨ b = bb ∨ b = oc ∨ SdB st0.B s b ∨ SdB st0.B t b) w wq := (k1.of_non.trans (k2.mono (fun b h => by rcases h with h | h | h | h | h; exact .inl h; exact .inr (.inl h); exact .inr (.inr (.inl h)); exact .inr (.inr (.inr (.inl h))); exact .inr (.inr (.inr (.inr (.inl h))))))).trans (kq.mono (fun b h => by rcases h with h | h | h; exact .inr (.inr (.inl h)); exact .inr (.inr (.inr (.inl h))); exact .inr (.inr (.inr (.inr (.inr (sdt b h)))))))
      have hvq := hv2.keptT kq (fun b h => m2.typ (by rcases h with h | h | h; exact .inl h; exact .inr (.inl (h ▸ hc)); exact .inr (.inr ⟨t, by omega, h⟩)))
      have out3 : ∀ b, w.heap.size ≤ b → ¬ (b = bb ∨ b = oc ∨ SdB (mF oc s st0).B t b) := by
        rintro b hb (h | h | h)
        · omega
        · omega
        · have := m.sd_lt (by omega) (sdt b h); omega
      have hrq := kq.blk hr2 (out3 _ (Nat.le_refl _))
      have hsq := kq.blk hs2 (out3 _ (by omega))
      have HNt := hide (note1 bv bm bo _ lm2 (.rested oc ((mF oc s st0).om oc).place) fnq cpq wq hvq (unhide HN1).1 (unhide HN1).2.1 (unhide HN1).2.2)
      have HVq := hide hvq
      have HMq := hide hgq
      have HKq := hide kcq
      clear mq kq hgq hvq kcq
      go_wp2_with fail
      refine (unhide HNt).mono ?_
      rintro e w3 ⟨rfl, lm3, hv3, hf3, k3⟩
      have hvq := unhide HVq
      have kcq := unhide HKq
      have hG : comeG oc (mF oc s st0) = (mF oc s st0).lg.noted [.rested oc ((mF oc s st0).om oc).place] := by unfold comeG; rw [unhide HWt]; rfl
      rw [← hG] at hv3
      obtain ⟨gq, capq, mq, hgq⟩ := unhide HMq
      have m3 := mq.keptLog hvq (k3.mono (fun b h => .inr h))
      have hgc : ∃ g cap', Mk w3 bb (comeB oc t g cap' (mF oc s st0)) (comeOm oc (mF oc s st0)) L ∧ (adB (st0.B.sl t) = some g ∨ w.heap.size ≤ g) := ⟨gq, capq, m3, hgq⟩
      have hf2' : ∀ b, lm2.F b → lm.F b ∨ w.heap.size ≤ b := fun b hb => (hf2 b hb).imp_right (fun h => Nat.le_trans k1.size h)
      have hf3' : ∀ b, lm3.F b → lm.F b ∨ w.heap.size ≤ b := fun b hb => by
        rcases hf3 b hb with h | h
        · exact hf2' b h
        · exact .inr (Nat.le_trans kcq.size h)
      have kc : Chg (fun b => b = bv ∨ lm.F b ∨ b = bb ∨ b = oc ∨ SdB st0.B s b ∨ SdB st0.B t b) w w3 := kcq.from (k3.mono (fun b h => (hf2' b h).imp_left (fun h => .inr (.inl h))))
      have hr3 := k3.blk hrq (hvq.log.ne hrq (by decide) (by decide) (by decide) (by decide) (by decide))
      have hs3 := k3.blk hsq (hvq.log.ne hsq (by decide) (by decide) (by decide) (by decide) (by decide))
      clear hvq mq kcq hrq hsq hf3 HNt hG HVq HMq HKq hgq hf2'
      clear hom hB hbq hgq3 sdt out3 hF2 hN2 hnew2
      clear HN2 HF2 HE2 htt
      obtain ⟨ix3, ho3⟩ := m3.ords oc hc
      obtain ⟨F1, R1, C1, hF1, hR1, hC1⟩ : ∃ F1 R1 C1, F1 = (comeOm oc (mF oc s st0) oc).filled ∧ R1 = (comeOm oc (mF oc s st0) oc).opn ∧ C1 = (comeOm oc (mF oc s st0) oc).canc := ⟨_, _, _, rfl, rfl, rfl⟩
      obtain ⟨F0, C0, cB, hF0, hC0, hT1⟩ : ∃ F0 C0 cB, F0 = (st0.om oc).filled ∧ C0 = (st0.om oc).canc ∧ (mF oc s st0).lg.tr.length = cB := ⟨_, _, _, rfl, rfl, rfl⟩
      have a8 : w3.cell? ⟨oc, 8, none⟩ = some (.int .i64 R1) := by rw [hR1]; exact ho3.cell 8
      have a9 : w3.cell? ⟨oc, 9, none⟩ = some (.int .i64 F1) := by rw [hF1]; exact ho3.cell 9
      have a10 : w3.cell? ⟨oc, 10, none⟩ = some (.int .i64 C1) := by rw [hC1]; exact ho3.cell 10
      have b9 : w3.cell? ⟨w.heap.size + 1, 9, none⟩ = some (.int .i64 F0) := by rw [hF0]; exact hs3.cell 9
      have b10 : w3.cell? ⟨w.heap.size + 1, 10, none⟩ = some (.int .i64 C0) := by rw [hC0]; exact hs3.cell 10
      have l1 : w.heap.size + 1 < w3.heap.size := hs3.lt
      have l2 : oc < w3.heap.size := ho3.lt
      have fin : ∀ w' v, v = rep (st0.om oc) (comeOm oc (mF oc s st0) oc) st0.tr (mF oc s st0).tr → Chg (fun b => b = w.heap.size) w3 w' → ComePost bv bb oc s t bm bo st0 lm L w v w' := by
        intro w' v hv' kw
        obtain ⟨g, cap', hm, hg⟩ := hgc
        refine ⟨hv', g, cap', lm3, hm.kept kw (by omega) (fun b hb e => ?_) (fun x hx b hb e => ?_), hv3.kept kw (by omega) (fun b hb e => hv3.log.ne hr3 (by decide) (by decide) (by decide) (by decide) (by decide) (e ▸ hb)), hf3', ?_, hg⟩
        · obtain ⟨ix, ho⟩ := hm.ords b hb
          subst e
          exact Blk.ne ho hr3 (by decide) rfl
        · subst e
          exact (hm.book.side x hx).ne hr3 (by decide) hb
        · exact kc.from (kw.mono (fun b h => .inr (by omega)))
      have HFin := hide fin
      have nn1 := World.new_ne w3 _ a8
      have nn2 := World.new_ne w3 _ a9
      have nn3 := World.new_ne w3 _ a10
      have nn4 := World.new_ne w3 _ b9
      have nn5 := World.new_ne w3 _ b10
      have HRep : Hid (rep (st0.om oc) (comeOm oc (mF oc s st0) oc) st0.tr (mF oc s st0).tr = if (cA : Int) < (cB : Int) then repV (wrap64 (F1 - F0)) R1 (wrap64 (C1 - C0)) (wrap64 ((cA : Int) + 1)) (wrap64 ((cB : Int) - (cA : Int))) else repV (wrap64 (F1 - F0)) R1 (wrap64 (C1 - C0)) 0 0) := by
        show _ = _
        unfold rep MS.tr
        rw [hF1, hR1, hC1, hF0, hC0, hT1, unhide HN0]
      obtain ⟨pa1, pc1, htv1⟩ := hv3.log.tvForm (n := cB) (by rw [comeG_tr]; exact hT1)
      have v2 : w3.cell? ⟨bv, 2, none⟩ = some (.slice pa1 cB pc1) := by rw [← htv1]; exact hv3.ven.cell 2
      clear htv1
      have l3 : bv < w3.heap.size := hv3.ven.lt
      have HR3 := hide hr3
      obtain ⟨w4, hw4⟩ : ∃ w4, w4 = (w3.alloc (.cells #[.int .i64 (wrap64 (F1 - F0)), .int .i64 R1, .int .i64 (wrap64 (C1 - C0)), .int .i64 0, .int .i64 0] 87)).drew := ⟨_, rfl⟩
      have hn4 : Blk w4 w3.heap.size #[.int .i64 (wrap64 (F1 - F0)), .int .i64 R1, .int .i64 (wrap64 (C1 - C0)), .int .i64 0, .int .i64 0] 87 := by rw [hw4]; exact (Blk.new w3 _ _).drew
      have k4 : Chg Non w3 w4 := by rw [hw4]; exact ((Chg.refl Non w3).alloc _).drew
      have HW4 := hide hw4
      have HN4 := hide hn4
      clear hw4
      have HK4 := hide k4
      have HR4 := hide (k4.blk hr3 (fun x => x))
      have v4 := k4.cell v2 (fun x => x)
      have HV4 := hide v4
      clear hn4 v4
      clear fin hF1 hR1 hC1 hF0 hC0 hT1 m3 hv3 hf2 hf3' hs3 ho3 hs2 hr2 m2 hv2 iv2 ho2 k2 k1 hr1 hs1 m1 hv1 HW HX outS hnew iv hgc kc hr3 m hv hn hoc k3 k4
      go_wp2
      go_region_held3 (fun w' => w'.cell? ⟨oc, 8, none⟩ = some (.int .i64 R1) ∧ w'.cell? ⟨oc, 9, none⟩ = some (.int .i64 F1) ∧ w'.cell? ⟨oc, 10, none⟩ = some (.int .i64 C1) ∧ w'.cell? ⟨w.heap.size + 1, 9, none⟩ = some (.int .i64 F0) ∧ w'.cell? ⟨w.heap.size + 1, 10, none⟩ = some (.int .i64 C0)) (go_keep) (fail)
      rw [wrapEq (F1 - F0), wrapEq (C1 - C0), ← unhide HW4]
      rename_i hS4
      clear hS4 nn1 nn2 nn3 nn4 nn5
      clear a8 a9 a10 b9 b10 v2
      have v4 := unhide HV4
      have n0 : w4.cell? ⟨w3.heap.size, 0, none⟩ = some (.int .i64 (wrap64 (F1 - F0))) := (unhide HN4).cell 0
      have n1 : w4.cell? ⟨w3.heap.size, 1, none⟩ = some (.int .i64 R1) := (unhide HN4).cell 1
      have n2 : w4.cell? ⟨w3.heap.size, 2, none⟩ = some (.int .i64 (wrap64 (C1 - C0))) := (unhide HN4).cell 2
      have n3 : w4.cell? ⟨w3.heap.size, 3, none⟩ = some (.int .i64 0) := (unhide HN4).cell 3
      have n4 : w4.cell? ⟨w3.heap.size, 4, none⟩ = some (.int .i64 0) := (unhide HN4).cell 4
      have f3 := (unhide HN4).frozen 3
      have f4 := (unhide HN4).frozen 4
      have hne : w3.heap.size ≠ w.heap.size := by omega
      have hvn : bv ≠ w3.heap.size := by omega
      by_cases htr : (cA : Int) < (cB : Int)
      · obtain ⟨w5, hw5⟩ : ∃ w5, w5 = ((w4.setCell ⟨w3.heap.size, 3, none⟩ (.int .i64 (wrap64 ((cA : Int) + 1)))).setCell ⟨w3.heap.size, 4, none⟩ (.int .i64 (wrap64 ((cB : Int) - (cA : Int))))).drew := ⟨_, rfl⟩
        have hn5 : Blk w5 w3.heap.size #[.int .i64 (wrap64 (F1 - F0)), .int .i64 R1, .int .i64 (wrap64 (C1 - C0)), .int .i64 (wrap64 ((cA : Int) + 1)), .int .i64 (wrap64 ((cB : Int) - (cA : Int)))] 87 := by rw [hw5]; exact (((unhide HN4).set 3 _).set 4 _).drew
        have k5 : Chg (fun b => b = w3.heap.size) w4 w5 := by rw [hw5]; exact (((Chg.refl (fun b => b = w3.heap.size) w4).setCell (p := ⟨w3.heap.size, 3, none⟩) (.inl rfl) _).setCell (p := ⟨w3.heap.size, 4, none⟩) (.inl rfl) _).drew
        have HW5 := hide hw5
        have HN5 := hide hn5
        have HR5 := hide (k5.blk (unhide HR4) (fun e => hne e.symm))
        have HK5 := hide k5
        have HH := hide htr
        clear hw5 hn5 k5
        go_wp2
        go_region
        rw [← unhide HW5]
        clear v4 n0 n1 n2 n3 n4 f3 f4
        have n0 : w5.cell? ⟨w3.heap.size, 0, none⟩ = some (.int .i64 (wrap64 (F1 - F0))) := (unhide HN5).cell 0
        have n1 : w5.cell? ⟨w3.heap.size, 1, none⟩ = some (.int .i64 R1) := (unhide HN5).cell 1
        have n2 : w5.cell? ⟨w3.heap.size, 2, none⟩ = some (.int .i64 (wrap64 (C1 - C0))) := (unhide HN5).cell 2
        have n3 : w5.cell? ⟨w3.heap.size, 3, none⟩ = some (.int .i64 (wrap64 ((cA : Int) + 1))) := (unhide HN5).cell 3
        have n4 : w5.cell? ⟨w3.heap.size, 4, none⟩ = some (.int .i64 (wrap64 ((cB : Int) - (cA : Int)))) := (unhide HN5).cell 4
        have r0 : w5.cell? ⟨w.heap.size, 0, none⟩ = some (.int .i64 0) := (unhide HR5).cell 0
        have r1 : w5.cell? ⟨w.heap.size, 1, none⟩ = some (.int .i64 0) := (unhide HR5).cell 1
        have r2 : w5.cell? ⟨w.heap.size, 2, none⟩ = some (.int .i64 0) := (unhide HR5).cell 2
        have r3 : w5.cell? ⟨w.heap.size, 3, none⟩ = some (.int .i64 0) := (unhide HR5).cell 3
        have r4 : w5.cell? ⟨w.heap.size, 4, none⟩ = some (.int .i64 0) := (unhide HR5).cell 4
        have q0 := (unhide HR5).frozen 0
        have q1 := (unhide HR5).frozen 1
        have q2 := (unhide HR5).frozen 2
        have q3 := (unhide HR5).frozen 3
        have q4 := (unhide HR5).frozen 4
        clear htr
        go_wp2
        refine bodyPost_ret (v := repV (wrap64 (F1 - F0)) R1 (wrap64 (C1 - C0)) (wrap64 ((cA : Int) + 1)) (wrap64 ((cB : Int) - (cA : Int)))) (res24 _ w.heap.size _ _ _ _ _ _ rfl ?_) rfl ⟨_, rfl, unhide HFin _ _ ?_ ?_⟩
        · exact (((((unhide HR5).set 0 _).set 1 _).set 2 _).set 3 _).set 4 _
        · rw [unhide HRep, if_pos (unhide HH)]
        · have kk : Chg (fun b => b = w.heap.size) w3 w5 := (unhide HK4).of_non.from ((unhide HK5).mono (fun b h => .inr (by omega)))
          exact (((((kk).setCell (p := ⟨w.heap.size, 0, none⟩) (.inl rfl) _).setCell (p := ⟨w.heap.size, 1, none⟩) (.inl rfl) _).setCell (p := ⟨w.heap.size, 2, none⟩) (.inl rfl) _).setCell (p := ⟨w.heap.size, 3, none⟩) (.inl rfl) _).setCell (p := ⟨w.heap.size, 4, none⟩) (.inl rfl) _
      · have HH := hide htr
        have r0 : w4.cell? ⟨w.heap.size, 0, none⟩ = some (.int .i64 0) := (unhide HR4).cell 0
        have r1 : w4.cell? ⟨w.heap.size, 1, none⟩ = some (.int .i64 0) := (unhide HR4).cell 1
        have r2 : w4.cell? ⟨w.heap.size, 2, none⟩ = some (.int .i64 0) := (unhide HR4).cell 2
        have r3 : w4.cell? ⟨w.heap.size, 3, none⟩ = some (.int .i64 0) := (unhide HR4).cell 3
        have r4 : w4.cell? ⟨w.heap.size, 4, none⟩ = some (.int .i64 0) := (unhide HR4).cell 4
        have q0 := (unhide HR4).frozen 0
        have q1 := (unhide HR4).frozen 1
        have q2 := (unhide HR4).frozen 2
        have q3 := (unhide HR4).frozen 3
        have q4 := (unhide HR4).frozen 4
        clear f3 f4
        go_wp2
        refine bodyPost_ret (v := repV (wrap64 (F1 - F0)) R1 (wrap64 (C1 - C0)) 0 0) (res24 _ w.heap.size _ _ _ _ _ _ rfl ?_) rfl ⟨_, rfl, unhide HFin _ _ ?_ ?_⟩
        · exact (((((unhide HR4).set 0 _).set 1 _).set 2 _).set 3 _).set 4 _
        · have := unhide HH; rw [unhide HRep, if_neg (by omega)]
        · have kk : Chg (fun b => b = w.heap.size) w3 w4 := (unhide HK4).of_non
          exact (((((kk).setCell (p := ⟨w.heap.size, 0, none⟩) (.inl rfl) _).setCell (p := ⟨w.heap.size, 1, none⟩) (.inl rfl) _).setCell (p := ⟨w.heap.size, 2, none⟩) (.inl rfl) _).setCell (p := ⟨w.heap.size, 3, none⟩) (.inl rfl) _).setCell (p := ⟨w.heap.size, 4, none⟩) (.inl rfl) _
  · have HWt : Hid (waitsB ((mF oc s st0).om oc) = false) := by show _ = _; unfold waitsB; simp [hp]
    go_wp2_with fail
    refine (cancelOpen_mk bb oc _ _ L _ m2 hc).mono ?_
    rintro e wq ⟨fnq, cpq, rfl, -, mq, kq⟩
    have hom : upd (mF oc s st0).om oc { (mF oc s st0).om oc with opn := 0, canc := wrap64 (((mF oc s st0).om oc).canc + ((mF oc s st0).om oc).opn) } = comeOm oc (mF oc s st0) := by unfold comeOm; rw [unhide HWt]; rfl
    rw [hom] at mq
    have hB : comeB oc t 0 0 (mF oc s st0) = (mF oc s st0).B := by unfold comeB; rw [unhide HWt]; rfl
    rw [← hB] at mq
    have hgq : ∃ g cap', Mk wq bb (comeB oc t g cap' (mF oc s st0)) (comeOm oc (mF oc s st0)) L ∧ (adB (st0.B.sl t) = some g ∨ w.heap.size ≤ g) := ⟨w.heap.size, 0, by have e : comeB oc t w.heap.size 0 (mF oc s st0) = comeB oc t 0 0 (mF oc s st0) := by { unfold comeB; rw [unhide HWt]; rfl }; rw [e]; exact mq, .inr (Nat.le_refl _)⟩
    have kcq : Chg (fun b => b = bv ∨ lm.F b ∨ b = bb ∨ b = oc ∨ SdB st0.B s b ∨ SdB st0.B t b) w wq := (k1.of_non.trans (k2.mono (fun b h => by rcases h with h | h | h | h | h; exact .inl h; exact .inr (.inl h); exact .inr (.inr (.inl h)); exact .inr (.inr (.inr (.inl h))); exact .inr (.inr (.inr (.inr (.inl h))))))).trans (kq.mono (fun b h => .inr (.inr (.inr (.inl h)))))
    have hvq := hv2.keptT kq (fun b h => by subst h; exact m2.typ (.inr (.inl hc)))
    have hrq := kq.blk hr2 (fun h => by omega)
    have hsq := kq.blk hs2 (fun h => by omega)
    have HNt := hide (note1 bv bm bo _ lm2 (.now oc ((mF oc s st0).om oc)) fnq cpq wq hvq (unhide HN1).1 (unhide HN1).2.1 (unhide HN1).2.2)
    have HVq := hide hvq
    have HMq := hide hgq
    have HKq := hide kcq
    clear mq kq hgq hvq kcq
    go_wp2_with fail
    refine (unhide HNt).mono ?_
    rintro e w3 ⟨rfl, lm3, hv3, hf3, k3⟩
    have hvq := unhide HVq
    have kcq := unhide HKq
    have hG : comeG oc (mF oc s st0) = (mF oc s st0).lg.noted [.now oc ((mF oc s st0).om oc)] := by unfold comeG; rw [unhide HWt]; rfl
    rw [← hG] at hv3
    obtain ⟨gq, capq, mq, hgq⟩ := unhide HMq
    have m3 := mq.keptLog hvq (k3.mono (fun b h => .inr h))
    have hgc : ∃ g cap', Mk w3 bb (comeB oc t g cap' (mF oc s st0)) (comeOm oc (mF oc s st0)) L ∧ (adB (st0.B.sl t) = some g ∨ w.heap.size ≤ g) := ⟨gq, capq, m3, hgq⟩
    have hf2' : ∀ b, lm2.F b → lm.F b ∨ w.heap.size ≤ b := fun b hb => (hf2 b hb).imp_right (fun h => Nat.le_trans k1.size h)
    have hf3' : ∀ b, lm3.F b → lm.F b ∨ w.heap.size ≤ b := fun b hb => by
      rcases hf3 b hb with h | h
      · exact hf2' b h
      · exact .inr (Nat.le_trans kcq.size h)
    have kc : Chg (fun b => b = bv ∨ lm.F b ∨ b = bb ∨ b = oc ∨ SdB st0.B s b ∨ SdB st0.B t b) w w3 := kcq.from (k3.mono (fun b h => (hf2' b h).imp_left (fun h => .inr (.inl h))))
    have hr3 := k3.blk hrq (hvq.log.ne hrq (by decide) (by decide) (by decide) (by decide) (by decide))
    have hs3 := k3.blk hsq (hvq.log.ne hsq (by decide) (by decide) (by decide) (by decide) (by decide))
    clear hvq mq kcq hrq hsq hf3 HNt hG HVq HMq HKq hgq hf2'
    clear hom hB
    obtain ⟨ix3, ho3⟩ := m3.ords oc hc
    obtain ⟨F1, R1, C1, hF1, hR1, hC1⟩ : ∃ F1 R1 C1, F1 = (comeOm oc (mF oc s st0) oc).filled ∧ R1 = (comeOm oc (mF oc s st0) oc).opn ∧ C1 = (comeOm oc (mF oc s st0) oc).canc := ⟨_, _, _, rfl, rfl, rfl⟩
    obtain ⟨F0, C0, cB, hF0, hC0, hT1⟩ : ∃ F0 C0 cB, F0 = (st0.om oc).filled ∧ C0 = (st0.om oc).canc ∧ (mF oc s st0).lg.tr.length = cB := ⟨_, _, _, rfl, rfl, rfl⟩
    have a8 : w3.cell? ⟨oc, 8, none⟩ = some (.int .i64 R1) := by rw [hR1]; exact ho3.cell 8
    have a9 : w3.cell? ⟨oc, 9, none⟩ = some (.int .i64 F1) := by rw [hF1]; exact ho3.cell 9
    have a10 : w3.cell? ⟨oc, 10, none⟩ = some (.int .i64 C1) := by rw [hC1]; exact ho3.cell 10
    have b9 : w3.cell? ⟨w.heap.size + 1, 9, none⟩ = some (.int .i64 F0) := by rw [hF0]; exact hs3.cell 9
    have b10 : w3.cell? ⟨w.heap.size + 1, 10, none⟩ = some (.int .i64 C0) := by rw [hC0]; exact hs3.cell 10
    have l1 : w.heap.size + 1 < w3.heap.size := hs3.lt
    have l2 : oc < w3.heap.size := ho3.lt
    have fin : ∀ w' v, v = rep (st0.om oc) (comeOm oc (mF oc s st0) oc) st0.tr (mF oc s st0).tr → Chg (fun b => b = w.heap.size) w3 w' → ComePost bv bb oc s t bm bo st0 lm L w v w' := by
      intro w' v hv' kw
      obtain ⟨g, cap', hm, hg⟩ := hgc
      refine ⟨hv', g, cap', lm3, hm.kept kw (by omega) (fun b hb e => ?_) (fun x hx b hb e => ?_), hv3.kept kw (by omega) (fun b hb e => hv3.log.ne hr3 (by decide) (by decide) (by decide) (by decide) (by decide) (e ▸ hb)), hf3', ?_, hg⟩
      · obtain ⟨ix, ho⟩ := hm.ords b hb
        subst e
        exact Blk.ne ho hr3 (by decide) rfl
      · subst e
        exact (hm.book.side x hx).ne hr3 (by decide) hb
      · exact kc.from (kw.mono (fun b h => .inr (by omega)))
    have HFin := hide fin
    have nn1 := World.new_ne w3 _ a8
    have nn2 := World.new_ne w3 _ a9
    have nn3 := World.new_ne w3 _ a10
    have nn4 := World.new_ne w3 _ b9
    have nn5 := World.new_ne w3 _ b10
    have HRep : Hid (rep (st0.om oc) (comeOm oc (mF oc s st0) oc) st0.tr (mF oc s st0).tr = if (cA : Int) < (cB : Int) then repV (wrap64 (F1 - F0)) R1 (wrap64 (C1 - C0)) (wrap64 ((cA : Int) + 1)) (wrap64 ((cB : Int) - (cA : Int))) else repV (wrap64 (F1 - F0)) R1 (wrap64 (C1 - C0)) 0 0) := by
      show _ = _
      unfold rep MS.tr
      rw [hF1, hR1, hC1, hF0, hC0, hT1, unhide HN0]
    obtain ⟨pa1, pc1, htv1⟩ := hv3.log.tvForm (n := cB) (by rw [comeG_tr]; exact hT1)
    have v2 : w3.cell? ⟨bv, 2, none⟩ = some (.slice pa1 cB pc1) := by rw [← htv1]; exact hv3.ven.cell 2
    clear htv1
    have l3 : bv < w3.heap.size := hv3.ven.lt
    have HR3 := hide hr3
    obtain ⟨w4, hw4⟩ : ∃ w4, w4 = (w3.alloc (.cells #[.int .i64 (wrap64 (F1 - F0)), .int .i64 R1, .int .i64 (wrap64 (C1 - C0)), .int .i64 0, .int .i64 0] 87)).drew := ⟨_, rfl⟩
    have hn4 : Blk w4 w3.heap.size #[.int .i64 (wrap64 (F1 - F0)), .int .i64 R1, .int .i64 (wrap64 (C1 - C0)), .int .i64 0, .int .i64 0] 87 := by rw [hw4]; exact (Blk.new w3 _ _).drew
    have k4 : Chg Non w3 w4 := by rw [hw4]; exact ((Chg.refl Non w3).alloc _).drew
    have HW4 := hide hw4
    have HN4 := hide hn4
    clear hw4
    have HK4 := hide k4
    have HR4 := hide (k4.blk hr3 (fun x => x))
    have v4 := k4.cell v2 (fun x => x)
    have HV4 := hide v4
    clear hn4 v4
    clear fin hF1 hR1 hC1 hF0 hC0 hT1 m3 hv3 hf2 hf3' hs3 ho3 hs2 hr2 m2 hv2 iv2 ho2 k2 k1 hr1 hs1 m1 hv1 HW HX outS hnew iv hgc kc hr3 m hv hn hoc k3 k4
    go_wp2
    go_region_held3 (fun w' => w'.cell? ⟨oc, 8, none⟩ = some (.int .i64 R1) ∧ w'.cell? ⟨oc, 9, none⟩ = some (.int .i64 F1) ∧ w'.cell? ⟨oc, 10, none⟩ = some (.int .i64 C1) ∧ w'.cell? ⟨w.heap.size + 1, 9, none⟩ = some (.int .i64 F0) ∧ w'.cell? ⟨w.heap.size + 1, 10, none⟩ = some (.int .i64 C0)) (go_keep) (fail)
    rw [wrapEq (F1 - F0), wrapEq (C1 - C0), ← unhide HW4]
    rename_i hS4
    clear hS4 nn1 nn2 nn3 nn4 nn5
    clear a8 a9 a10 b9 b10 v2
    have v4 := unhide HV4
    have n0 : w4.cell? ⟨w3.heap.size, 0, none⟩ = some (.int .i64 (wrap64 (F1 - F0))) := (unhide HN4).cell 0
    have n1 : w4.cell? ⟨w3.heap.size, 1, none⟩ = some (.int .i64 R1) := (unhide HN4).cell 1
    have n2 : w4.cell? ⟨w3.heap.size, 2, none⟩ = some (.int .i64 (wrap64 (C1 - C0))) := (unhide HN4).cell 2
    have n3 : w4.cell? ⟨w3.heap.size, 3, none⟩ = some (.int .i64 0) := (unhide HN4).cell 3
    have n4 : w4.cell? ⟨w3.heap.size, 4, none⟩ = some (.int .i64 0) := (unhide HN4).cell 4
    have f3 := (unhide HN4).frozen 3
    have f4 := (unhide HN4).frozen 4
    have hne : w3.heap.size ≠ w.heap.size := by omega
    have hvn : bv ≠ w3.heap.size := by omega
    by_cases htr : (cA : Int) < (cB : Int)
    · obtain ⟨w5, hw5⟩ : ∃ w5, w5 = ((w4.setCell ⟨w3.heap.size, 3, none⟩ (.int .i64 (wrap64 ((cA : Int) + 1)))).setCell ⟨w3.heap.size, 4, none⟩ (.int .i64 (wrap64 ((cB : Int) - (cA : Int))))).drew := ⟨_, rfl⟩
      have hn5 : Blk w5 w3.heap.size #[.int .i64 (wrap64 (F1 - F0)), .int .i64 R1, .int .i64 (wrap64 (C1 - C0)), .int .i64 (wrap64 ((cA : Int) + 1)), .int .i64 (wrap64 ((cB : Int) - (cA : Int)))] 87 := by rw [hw5]; exact (((unhide HN4).set 3 _).set 4 _).drew
      have k5 : Chg (fun b => b = w3.heap.size) w4 w5 := by rw [hw5]; exact (((Chg.refl (fun b => b = w3.heap.size) w4).setCell (p := ⟨w3.heap.size, 3, none⟩) (.inl rfl) _).setCell (p := ⟨w3.heap.size, 4, none⟩) (.inl rfl) _).drew
      have HW5 := hide hw5
      have HN5 := hide hn5
      have HR5 := hide (k5.blk (unhide HR4) (fun e => hne e.symm))
      have HK5 := hide k5
      have HH := hide htr
      clear hw5 hn5 k5
      go_wp2
      go_region
      rw [← unhide HW5]
      clear v4 n0 n1 n2 n3 n4 f3 f4
      have n0 : w5.cell? ⟨w3.heap.size, 0, none⟩ = some (.int .i64 (wrap64 (F1 - F0))) := (unhide HN5).cell 0
      have n1 : w5.cell? ⟨w3.heap.size, 1, none⟩ = some (.int .i64 R1) := (unhide HN5).cell 1
      have n2 : w5.cell? ⟨w3.heap.size, 2, none⟩ = some (.int .i64 (wrap64 (C1 - C0))) := (unhide HN5).cell 2
      have n3 : w5.cell? ⟨w3.heap.size, 3, none⟩ = some (.int .i64 (wrap64 ((cA : Int) + 1))) := (unhide HN5).cell 3
      have n4 : w5.cell? ⟨w3.heap.size, 4, none⟩ = some (.int .i64 (wrap64 ((cB : Int) - (cA : Int)))) := (unhide HN5).cell 4
      have r0 : w5.cell? ⟨w.heap.size, 0, none⟩ = some (.int .i64 0) := (unhide HR5).cell 0
      have r1 : w5.cell? ⟨w.heap.size, 1, none⟩ = some (.int .i64 0) := (unhide HR5).cell 1
      have r2 : w5.cell? ⟨w.heap.size, 2, none⟩ = some (.int .i64 0) := (unhide HR5).cell 2
      have r3 : w5.cell? ⟨w.heap.size, 3, none⟩ = some (.int .i64 0) := (unhide HR5).cell 3
      have r4 : w5.cell? ⟨w.heap.size, 4, none⟩ = some (.int .i64 0) := (unhide HR5).cell 4
      have q0 := (unhide HR5).frozen 0
      have q1 := (unhide HR5).frozen 1
      have q2 := (unhide HR5).frozen 2
      have q3 := (unhide HR5).frozen 3
      have q4 := (unhide HR5).frozen 4
      clear htr
      go_wp2
      refine bodyPost_ret (v := repV (wrap64 (F1 - F0)) R1 (wrap64 (C1 - C0)) (wrap64 ((cA : Int) + 1)) (wrap64 ((cB : Int) - (cA : Int)))) (res24 _ w.heap.size _ _ _ _ _ _ rfl ?_) rfl ⟨_, rfl, unhide HFin _ _ ?_ ?_⟩
      · exact (((((unhide HR5).set 0 _).set 1 _).set 2 _).set 3 _).set 4 _
      · rw [unhide HRep, if_pos (unhide HH)]
      · have kk : Chg (fun b => b = w.heap.size) w3 w5 := (unhide HK4).of_non.from ((unhide HK5).mono (fun b h => .inr (by omega)))
        exact (((((kk).setCell (p := ⟨w.heap.size, 0, none⟩) (.inl rfl) _).setCell (p := ⟨w.heap.size, 1, none⟩) (.inl rfl) _).setCell (p := ⟨w.heap.size, 2, none⟩) (.inl rfl) _).setCell (p := ⟨w.heap.size, 3, none⟩) (.inl rfl) _).setCell (p := ⟨w.heap.size, 4, none⟩) (.inl rfl) _
    · have HH := hide htr
      have r0 : w4.cell? ⟨w.heap.size, 0, none⟩ = some (.int .i64 0) := (unhide HR4).cell 0
      have r1 : w4.cell? ⟨w.heap.size, 1, none⟩ = some (.int .i64 0) := (unhide HR4).cell 1
      have r2 : w4.cell? ⟨w.heap.size, 2, none⟩ = some (.int .i64 0) := (unhide HR4).cell 2
      have r3 : w4.cell? ⟨w.heap.size, 3, none⟩ = some (.int .i64 0) := (unhide HR4).cell 3
      have r4 : w4.cell? ⟨w.heap.size, 4, none⟩ = some (.int .i64 0) := (unhide HR4).cell 4
      have q0 := (unhide HR4).frozen 0
      have q1 := (unhide HR4).frozen 1
      have q2 := (unhide HR4).frozen 2
      have q3 := (unhide HR4).frozen 3
      have q4 := (unhide HR4).frozen 4
      clear f3 f4
      go_wp2
      refine bodyPost_ret (v := repV (wrap64 (F1 - F0)) R1 (wrap64 (C1 - C0)) 0 0) (res24 _ w.heap.size _ _ _ _ _ _ rfl ?_) rfl ⟨_, rfl, unhide HFin _ _ ?_ ?_⟩
      · exact (((((unhide HR4).set 0 _).set 1 _).set 2 _).set 3 _).set 4 _
      · have := unhide HH; rw [unhide HRep, if_neg (by omega)]
      · have kk : Chg (fun b => b = w.heap.size) w3 w4 := (unhide HK4).of_non
        exact (((((kk).setCell (p := ⟨w.heap.size, 0, none⟩) (.inl rfl) _).setCell (p := ⟨w.heap.size, 1, none⟩) (.inl rfl) _).setCell (p := ⟨w.heap.size, 2, none⟩) (.inl rfl) _).setCell (p := ⟨w.heap.size, 3, none⟩) (.inl rfl) _).setCell (p := ⟨w.heap.size, 4, none⟩) (.inl rfl) _

end Go.Proofs.YtigaphnafnpfnaaGreatDoor

