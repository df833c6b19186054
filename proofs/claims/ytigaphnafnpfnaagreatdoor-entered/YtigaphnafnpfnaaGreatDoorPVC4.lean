import Derived.Test.YtigaphnafnpfnaaGreatDoorPVC3
import Derived.Laws.ResultCell
import Derived.Test.YtigaphnafnpfnaaGreatDoorPVX12
set_option linter.unusedVariables false
set_option linter.unusedSimpArgs false
namespace Go.Proofs.YtigaphnafnpfnaaGreatDoor
open Go.RowKit Go.Maps
attribute [local go_sem ↓] Go.wp_at_zero Go.wp_at_succ

def askC (o : Ask) : Array Value := #[.int .i64 o.id, .int .i64 o.owner, .string o.sym, .int .i64 o.side, .int .i64 o.kind, .int .i64 o.price, .int .i64 o.qty]

theorem Rep.kept0 {w w' : World} {bv bm bo : Nat} {V : Ven} (R : Rep w bv bm bo V) (k : Chg Non w w') : Rep w' bv bm bo V := by
  obtain ⟨fB, mB, h1, h2⟩ := R.books
  obtain ⟨fO, mO, h3⟩ := R.orders
  exact ⟨R.log.kept0 k, ⟨fB, mB.kept k (fun x => x), h1, h2⟩, ⟨fO, mO.kept k (fun x => x), h3⟩, R.mne, fun i hi => (R.book i hi).kept k (fun _ _ x => x),
    fun id b h => ⟨(R.ords id b h).1, (R.ords id b h).2.elim fun ix ho => ⟨ix, k.blk ho (fun x => x)⟩⟩, R.mem, R.sepb, R.seps, R.no200⟩

/-- the blocks of a venue -/
def Foot (bv bm bo : Nat) (V : Ven) (x : Nat) : Prop := x = bv ∨ x = bm ∨ x = bo ∨ (∃ i, i < V.nb ∧ (x = V.bk i ∨ ∃ s, s < 2 ∧ SdB (V.B i) s x)) ∨ (∃ id, V.oid id = some x) ∨ V.lm.F x

/-- a block of another type is none of them -/
theorem Rep.foot {w : World} {bv bm bo : Nat} {V : Ven} (R : Rep w bv bm bo V) {x : Nat} {c : Array Value} {t : TypeId} (hb : Blk w x c t) (h1 : t ≠ 100) (h2 : t ≠ 158) (h3 : t ≠ 114) (h4 : t ≠ 116) (h5 : t ≠ 103) (h6 : t ≠ 62) (h7 : t ≠ 105) (h8 : t ≠ 109 := by decide) (h9 : t ≠ 1 ∧ t ≠ 5 := by decide) : ¬ Foot bv bm bo V x := by
  obtain ⟨fB, mB, _⟩ := R.books
  obtain ⟨fO, mO, _⟩ := R.orders
  rintro (e | e | e | ⟨i, hi, e | ⟨s, hs, e | ⟨k, hk, e⟩⟩⟩ | ⟨id, e⟩ | e)
  · exact Blk.ne hb R.ven h1 e
  · exact mB.ne hb e.symm
  · exact mO.ne hb e.symm
  · exact Blk.ne hb (R.book i hi).blk h2 e
  · exact ((R.book i hi).side s hs).ne hb h3 e
  · exact Blk.ne hb (((R.book i hi).side s hs).ords hk) h4 e
  · obtain ⟨_, ix, ho⟩ := R.ords id x e
    exact Blk.ne hb ho h4 rfl
  · exact R.log.log.ne hb h5 h6 h7 h8 h9 e

theorem Rep.foot_lt {w : World} {bv bm bo : Nat} {V : Ven} (R : Rep w bv bm bo V) {x : Nat} (h : Foot bv bm bo V x) : x < w.heap.size := by
  obtain ⟨fB, mB, _⟩ := R.books
  obtain ⟨fO, mO, _⟩ := R.orders
  rcases h with rfl | rfl | rfl | ⟨i, hi, rfl | ⟨s, hs, e | ⟨k, hk, rfl⟩⟩⟩ | ⟨id, e⟩ | e
  · exact R.ven.lt
  · exact mB.lt
  · exact mO.lt
  · exact (R.book i hi).blk.lt
  · exact ((R.book i hi).side s hs).lt e
  · exact (((R.book i hi).side s hs).ords hk).lt
  · obtain ⟨_, ix, ho⟩ := R.ords id x e
    exact ho.lt
  · exact R.log.log.lt e

/-- what is so behind Enter -/
def EnterPost (bv bm bo i s t : Nat) (V : Ven) (o : Ask) (w : World) (v : Value) (w' : World) : Prop :=
  ∃ b g cap' lm', w.heap.size ≤ b ∧ v = .tuple #[rep (newOrd o) ((V.enter i b s t g cap' o lm').om b) V.tr (V.enter i b s t g cap' o lm').tr, .int .i64 0] ∧ Rep w' bv bm bo (V.enter i b s t g cap' o lm') ∧
    Chg (Foot bv bm bo V) w w' ∧ (∀ x, Foot bv bm bo (V.enter i b s t g cap' o lm') x → Foot bv bm bo V x ∨ w.heap.size ≤ x) ∧ (adB ((V.B i).sl t) = some g ∨ w.heap.size ≤ g)

theorem rep_form (o o' : Ord) (tr tr' : Int) : ∃ f r c a n, rep o o' tr tr' = .agg #[.int .i64 f, .int .i64 r, .int .i64 c, .int .i64 a, .int .i64 n] := by
  unfold rep
  split <;> exact ⟨_, _, _, _, _, rfl⟩

theorem res9 (tmps : Array Value) (H : Nat) (w : World) (a b c d e : Int) (ht : tmps.getD 4 undef = .pointer (some ⟨H, 0, none⟩)) (hu : tmps.getD 5 undef = .int .i64 0) (hb : Blk w H #[.int .i64 a, .int .i64 b, .int .i64 c, .int .i64 d, .int .i64 e] 87) :
    (results Tryz.f64 tmps).run Tryz.prog w = .ok (.tuple #[.agg #[.int .i64 a, .int .i64 b, .int .i64 c, .int .i64 d, .int .i64 e], .int .i64 0]) w := by
  have c0 : w.cell? ⟨H, 0, none⟩ = some (.int .i64 a) := hb.cell 0
  have c1 : w.cell? ⟨H, 1, none⟩ = some (.int .i64 b) := hb.cell 1
  have c2 : w.cell? ⟨H, 2, none⟩ = some (.int .i64 c) := hb.cell 2
  have c3 : w.cell? ⟨H, 3, none⟩ = some (.int .i64 d) := hb.cell 3
  have c4 : w.cell? ⟨H, 4, none⟩ = some (.int .i64 e) := hb.cell 4
  simp only [Array.getD_eq_getD_getElem?] at ht hu
  simp [results, Tryz.results64, go_sem, ht, hu, c0, c1, c2, c3, c4]

theorem Blk.new2 (w : World) (o o2 : Obj) (c : Array Value) (t : TypeId) (h : Blk (w.alloc o) w.heap.size c t) : Blk ((w.alloc o).alloc o2) w.heap.size c t := h.alloc _

theorem IsBook.keptT {w w' : World} {bb : Nat} {B : Bk} {om : Nat → Ord} (hb : IsBook w bb B om) {S : Nat → Prop} (k : Chg S w w') (hS : ∀ x c t, Blk w x c t → (t = 158 ∨ t = 114 ∨ t = 116) → ¬ S x) : IsBook w' bb B om := by
  refine hb.kept k ?_
  rintro x (rfl | ⟨y, hy, h⟩)
  · exact hS _ _ _ hb.blk (.inl rfl)
  · rcases h with h | ⟨l, hl, rfl⟩
    · rcases (hb.side y hy) with ⟨h0, _⟩ | ⟨ab, hab, hsd⟩
      · rw [h0] at h; simp [adB] at h
      · obtain ⟨cs, hcs, _⟩ := hsd.arr
        rw [hab] at h
        simp [adB] at h
        rw [h] at hcs
        exact hS _ _ _ hcs (.inr (.inl rfl))
    · exact hS _ _ _ ((hb.side y hy).ords hl) (.inr (.inr rfl))

/-- the log has turned -/
theorem Rep.turnLog {w w' : World} {bv bm bo : Nat} {V : Ven} (R : Rep w bv bm bo V) {G' : Lg} {lm' : Lm} (hl : IsLog w' bv bm bo G' lm') (k : Chg (fun x => x = bv ∨ V.lm.F x) w w') : Rep w' bv bm bo { V with lg := G', lm := lm' } := by
  obtain ⟨fB, mB, g1, g2⟩ := R.books
  obtain ⟨fO, mO, g3⟩ := R.orders
  have key : ∀ {x c t}, Blk w x c t → (t = 158 ∨ t = 114 ∨ t = 116) → ¬ (x = bv ∨ V.lm.F x) := by
    rintro x c t hx ht (e | e)
    · exact Blk.ne hx R.ven (by rcases ht with rfl | rfl | rfl <;> decide) e
    · exact R.log.log.ne hx (by rcases ht with rfl | rfl | rfl <;> decide) (by rcases ht with rfl | rfl | rfl <;> decide) (by rcases ht with rfl | rfl | rfl <;> decide) (by rcases ht with rfl | rfl | rfl <;> decide) (by rcases ht with rfl | rfl | rfl <;> decide) e
  have mapk : ∀ z, (∀ b c t, Blk w b c t → z ≠ b) → ¬ (z = bv ∨ V.lm.F z) := by
    rintro z hz (e | e)
    · exact hz _ _ _ R.ven e
    · obtain ⟨c, t, hc, _⟩ := R.log.log.typ e
      exact hz _ _ _ hc rfl
  refine ⟨hl, ⟨fB, mB.kept k (mapk bm (fun b c t hb => mB.ne hb)), g1, g2⟩, ⟨fO, mO.kept k (mapk bo (fun b c t hb => mO.ne hb)), g3⟩, R.mne, fun j hj => (R.book j hj).kept k ?_, fun id x h => ⟨(R.ords id x h).1, (R.ords id x h).2.elim fun ix ho => ⟨ix, k.blk ho (key ho (.inr (.inr rfl)))⟩⟩, R.mem, R.sepb, R.seps, R.no200⟩
  rintro x (rfl | ⟨y, hy, h⟩)
  · exact key (R.book j hj).blk (.inl rfl)
  · rcases h with h | ⟨l, hl, rfl⟩
    · rcases ((R.book j hj).side y hy) with ⟨h0, _⟩ | ⟨ab, hab, hsd⟩
      · rw [h0] at h; simp [adB] at h
      · obtain ⟨cs, hcs, _⟩ := hsd.arr
        rw [hab] at h
        simp [adB] at h
        rw [h] at hcs
        exact key hcs (.inr (.inl rfl))
    · exact key (((R.book j hj).side y hy).ords hl) (.inr (.inr rfl))

set_option maxHeartbeats 4000000 in
set_option maxRecDepth 100000 in
theorem enter_ok (bv bm bo i s t : Nat) (V : Ven) (o : Ask) (w : World) (R : Rep w bv bm bo V) (hT : Tab w) (hi : i < V.nb) (hsym : (V.B i).sym = o.sym) (hlen1 : o.sym.size ≤ 100)
    (h1 : numB o.id = true) (h2 : V.oid o.id = none) (h3 : ownB' o.owner = true) (h4 : sideB o.side = true) (h5 : kindB o.kind = true) (h6 : numB o.qty = true) (h7 : priceB o.kind o.price = true) (h8 : V.no < 200) (h9 : o.kind ≠ 3) (h10 : o.kind ≠ 4)
    (hs : s < 2) (ht : t = 1 - s) (hside : o.side = (t : Int)) (hinv : ∀ k, k < (V.B i).n s → (V.om ((V.B i).h s k)).side = (s : Int) ∧ 0 < (V.om ((V.B i).h s k)).opn ∧ (V.om ((V.B i).h s k)).opn ≤ 1000000000000000) (hcnt : (V.B i).n t ≤ V.no) (hcs : (V.B i).n s ≤ V.no) (hl1 : V.lg.tp.length + 300 < 1000000000) (hl2 : V.lg.tr.length + 300 < 1000000000) (hna : V.lg.na < 3000000) :
    Calls Tryz.prog 64 #[.pointer (some ⟨bv, 0, none⟩), o.val] w fun e w' => ∃ v, e = .returned v ∧ EnterPost bv bm bo i s t V o w v w' := by
  have hwf : (Lit.int .i64 o.id).wf = true := by
    simp [numB] at h1
    exact WalkArith.wf_i64 (by omega)
  have hqb : 1 ≤ o.qty ∧ o.qty ≤ 1000000 := by simpa [numB] using h6
  have hlen : o.sym.size ≤ maxLen := by unfold maxLen; omega
  have bId : i64B o.id := i64_of (by simp [numB] at h1; omega)
  have bOw : i64B o.owner := i64_of (by simp [ownB'] at h3; omega)
  have bSd : i64B o.side := i64_of (by rw [hside]; omega)
  have bKd : i64B o.kind := i64_of (by simp [kindB] at h5; omega)
  have bPr : i64B o.price := i64_of (by unfold priceB at h7; split at h7 <;> simp [numB] at h7 <;> omega)
  have bQt : i64B o.qty := i64_of (by omega)
  have HSz := hide (enterL_size o.id o.owner o.sym o.side o.kind o.price o.qty hlen1 bId bOw bSd bKd bPr bQt)
  have HLE := hide (fun W h => lineE_from o.id o.owner o.sym o.side o.kind o.price o.qty W h hlen1 bId bOw bSd bKd bPr bQt)
  clear bId bOw bSd bKd bPr bQt hlen1
  generalize enterL o.id o.owner o.sym o.side o.kind o.price o.qty = ln at HSz HLE
  obtain ⟨w1, hw1⟩ : ∃ w1, w1 = ((w.alloc (.cells #[.pointer (some ⟨bv, 0, none⟩)] 35)).alloc (.cells (askC o) 52)).alloc (.cells zero5 87) := ⟨_, rfl⟩
  have k1 : Chg Non w w1 := by rw [hw1]; exact (((Chg.refl Non w).alloc _).alloc _).alloc _
  have hbx1 : Blk w1 w.heap.size #[.pointer (some ⟨bv, 0, none⟩)] 35 := by rw [hw1]; exact ((Blk.new w _ _).alloc _).alloc _
  have hx1 : Blk w1 (w.heap.size + 1) (askC o) 52 := by rw [hw1]; exact (Blk.new1 w _ _ _).alloc _
  have hr1 : Blk w1 (w.heap.size + 2) zero5 87 := by rw [hw1]; exact Blk.new2' w _ _ _ _
  have R1 := R.kept0 k1
  have href := refusal_ok bv bm bo i V o w1 R1 hi hsym hlen h1 h2 h3 h4 h5 h6 h7 h8 h9 h10
  obtain ⟨fB, mB, fB1, fB2⟩ := R.books
  have hlb : fB (sl o.sym) = some (V.bk i) := by rw [← hsym]; exact fB1 i hi
  have hlk : ∀ w2, Chg Non w w2 → ∀ q, (Instr.lookup 94 (.map (some bm)) (.string o.sym) false).run Tryz.prog (w2.drewN q) = .ok (.pointer (some ⟨V.bk i, 0, none⟩)) (w2.drewN q) := fun w2 k2 q => by
    rw [(mB.kept (k2.drewN q) (fun x => x)).look law9 Tryz.underlying94 (zero70 _) (WideMaps.keyOf_string_mk Tryz.underlying9 hlen)]
    show _ = Result.ok (ptrO (some (V.bk i))) _
    rw [← hlb]; rfl
  have hsl : Blk w1 (V.bk i) (V.B i).cells 158 := (R1.book i hi).blk
  have HW1 := hide hw1
  have HX := hide href
  have HL := hide hlk
  have hfree := hide h2
  clear hw1 href hlk h1 h2 h3 h4 h5 h6 h7 h9 h10
  have HR := hide R
  have HSY := hide hsym
  have HSD := hide hside
  have HT := hide ht
  clear R R1 mB fB1 fB2 hlb hsym hside ht
  simp only [Ask.val]
  go_enter Tryz.func64, Tryz.ntmps64
  have HW1' : Hid (w1 = ((w.alloc (.cells #[.pointer (some ⟨bv, 0, none⟩)] 35)).alloc (.cells #[.int .i64 o.id, .int .i64 o.owner, .string o.sym, .int .i64 o.side, .int .i64 o.kind, .int .i64 o.price, .int .i64 o.qty] 52)).alloc (.cells #[.int .i64 0, .int .i64 0, .int .i64 0, .int .i64 0, .int .i64 0] 87)) := HW1
  have ls2 : w.heap.size < w.heap.size + 1 + 1 := by omega
  go_wp2_with fail
  rw [← unhide HW1']
  refine (unhide HX).mono ?_
  rintro e w2 ⟨rfl, k2⟩
  have kk2 := k1.trans k2
  have hbx2 := k2.blk hbx1 (fun x => x)
  have hx2 := k2.blk hx1 (fun x => x)
  have hr2 := k2.blk hr1 (fun x => x)
  have R2 := (unhide HR).kept0 kk2
  have L1 := unhide HL w2 kk2
  have v0 : w2.cell? ⟨bv, 0, none⟩ = some (.map (some bm)) := R2.ven.cell 0
  have xb : w2.cell? ⟨w.heap.size, 0, none⟩ = some (.pointer (some ⟨bv, 0, none⟩)) := hbx2.cell 0
  have x2 : w2.cell? ⟨w.heap.size + 1, 2, none⟩ = some (.string o.sym) := hx2.cell 2
  have x0 : w2.cell? ⟨w.heap.size + 1, 0, none⟩ = some (.int .i64 o.id) := hx2.cell 0
  have x1 : w2.cell? ⟨w.heap.size + 1, 1, none⟩ = some (.int .i64 o.owner) := hx2.cell 1
  have x3 : w2.cell? ⟨w.heap.size + 1, 3, none⟩ = some (.int .i64 o.side) := hx2.cell 3
  have x4 : w2.cell? ⟨w.heap.size + 1, 4, none⟩ = some (.int .i64 o.kind) := hx2.cell 4
  have x5 : w2.cell? ⟨w.heap.size + 1, 5, none⟩ = some (.int .i64 o.price) := hx2.cell 5
  have x6 : w2.cell? ⟨w.heap.size + 1, 6, none⟩ = some (.int .i64 o.qty) := hx2.cell 6
  have f2 := hx2.frozen 2
  have y0 : w2.cell? ⟨V.bk i, 0, none⟩ = some (.string o.sym) := ((R2.book i hi).blk.cell 0).trans (by rw [← unhide HSY]; rfl)
  clear k1 k2 hx1 hr1 hbx1 HW1 HW1' HX HL hsl ls2
  go_wp2
  go_quiet (fail)
  obtain ⟨w3, hw3⟩ : ∃ w3, w3 = (w2.drewN nq).setCell ⟨w.heap.size + 1, 2, none⟩ (.string o.sym) := ⟨_, rfl⟩
  have k3 : Chg (fun x => x = w.heap.size + 1) w2 w3 := by rw [hw3]; exact ((Chg.refl (fun x => x = w.heap.size + 1) w2).drewN _).setCell (p := ⟨w.heap.size + 1, 2, none⟩) (.inl rfl) _
  have hx3 : Blk w3 (w.heap.size + 1) (askC o) 52 := by rw [hw3]; exact (hx2.drewN _).set 2 _
  have HW3 := hide hw3
  clear hw3
  go_wp2_with fail
  rw [← unhide HW3]
  refine (newOrder_any o w3).mono ?_
  rintro e w4 ⟨b, rfl, hb, ho4, k4⟩
  clear x0 x1 x2 x3 x4 x5 x6 xb f2 y0 v0 L1
  have kk4 : Chg Non w w4 := (kk2.from (k3.mono (fun x h => .inr (by omega)))).trans k4
  have hbx4 := k4.blk (k3.blk hbx2 (fun h => by omega)) (fun x => x)
  have hx4 := k4.blk hx3 (fun x => x)
  have hr4 := k4.blk (k3.blk hr2 (fun h => by omega)) (fun x => x)
  have R4 := (unhide HR).kept0 kk4
  have hb0 : w.heap.size ≤ b := by have := kk2.size; have := k3.size; omega
  have HBeg := hide (begin_from bv bm bo V.lg V.lm ln w4 R4.log hna (unhide HSz).1 (unhide HSz).2)
  have HLn := hide (unhide HLE w4 (hT.kept0 kk4))
  have xb4 : w4.cell? ⟨w.heap.size, 0, none⟩ = some (.pointer (some ⟨bv, 0, none⟩)) := hbx4.cell 0
  have y0 : w4.cell? ⟨w.heap.size + 1, 0, none⟩ = some (.int .i64 o.id) := hx4.cell 0
  have y1 : w4.cell? ⟨w.heap.size + 1, 1, none⟩ = some (.int .i64 o.owner) := hx4.cell 1
  have y2 : w4.cell? ⟨w.heap.size + 1, 2, none⟩ = some (.string o.sym) := hx4.cell 2
  have y3 : w4.cell? ⟨w.heap.size + 1, 3, none⟩ = some (.int .i64 o.side) := hx4.cell 3
  have y4 : w4.cell? ⟨w.heap.size + 1, 4, none⟩ = some (.int .i64 o.kind) := hx4.cell 4
  have y5 : w4.cell? ⟨w.heap.size + 1, 5, none⟩ = some (.int .i64 o.price) := hx4.cell 5
  have y6 : w4.cell? ⟨w.heap.size + 1, 6, none⟩ = some (.int .i64 o.qty) := hx4.cell 6
  have outF : ∀ x, w.heap.size ≤ x → ¬ (x = bv ∨ V.lm.F x) := by
    rintro x hx (e | e)
    · have := (unhide HR).ven.lt; omega
    · have := (unhide HR).log.log.lt e; omega
  have HOut := hide outF
  clear outF hbx2 hx2 hr2 hx3 k3 k4 HW3 HLE
  go_wp2
  go_region_held3 (fun w' => w'.cell? ⟨w.heap.size, 0, none⟩ = some (.pointer (some ⟨bv, 0, none⟩)) ∧ w'.cell? ⟨w.heap.size + 1, 0, none⟩ = some (.int .i64 o.id) ∧ w'.cell? ⟨w.heap.size + 1, 1, none⟩ = some (.int .i64 o.owner) ∧ w'.cell? ⟨w.heap.size + 1, 2, none⟩ = some (.string o.sym) ∧ w'.cell? ⟨w.heap.size + 1, 3, none⟩ = some (.int .i64 o.side) ∧ w'.cell? ⟨w.heap.size + 1, 4, none⟩ = some (.int .i64 o.kind) ∧ w'.cell? ⟨w.heap.size + 1, 5, none⟩ = some (.int .i64 o.price) ∧ w'.cell? ⟨w.heap.size + 1, 6, none⟩ = some (.int .i64 o.qty)) (go_keep)
    (first
      | (go_at_call 113; refine (unhide HLn _ ?cc).mono ?_; (case cc => repeat (first | exact Chg.refl _ _ | refine Chg.drew ?_)); rintro e wl ⟨rfl, hk⟩; have z0 := hk.cell (p := ⟨w.heap.size, 0, none⟩) xb4 (fun x => x); have z1 := hk.cell (p := ⟨w.heap.size + 1, 0, none⟩) y0 (fun x => x); have z2 := hk.cell (p := ⟨w.heap.size + 1, 1, none⟩) y1 (fun x => x); have z3 := hk.cell (p := ⟨w.heap.size + 1, 2, none⟩) y2 (fun x => x); have z4 := hk.cell (p := ⟨w.heap.size + 1, 3, none⟩) y3 (fun x => x); have z5 := hk.cell (p := ⟨w.heap.size + 1, 4, none⟩) y4 (fun x => x); have z6 := hk.cell (p := ⟨w.heap.size + 1, 5, none⟩) y5 (fun x => x); have z7 := hk.cell (p := ⟨w.heap.size + 1, 6, none⟩) y6 (fun x => x); have HKl := hide hk; clear hk)
      | (go_at_call 51; refine (unhide HBeg _ ?cc).mono ?_; (case cc => repeat (first | exact unhide HKl | refine Chg.drew ?_)); rintro e wb ⟨rfl, lmb, hLb, hFb, kb, -, -⟩; have z0 := kb.cell (p := ⟨w.heap.size, 0, none⟩) xb4 (unhide HOut _ (Nat.le_refl _)); have z1 := kb.cell (p := ⟨w.heap.size + 1, 0, none⟩) y0 (unhide HOut _ (Nat.le_succ _)); have z2 := kb.cell (p := ⟨w.heap.size + 1, 1, none⟩) y1 (unhide HOut _ (Nat.le_succ _)); have z3 := kb.cell (p := ⟨w.heap.size + 1, 2, none⟩) y2 (unhide HOut _ (Nat.le_succ _)); have z4 := kb.cell (p := ⟨w.heap.size + 1, 3, none⟩) y3 (unhide HOut _ (Nat.le_succ _)); have z5 := kb.cell (p := ⟨w.heap.size + 1, 4, none⟩) y4 (unhide HOut _ (Nat.le_succ _)); have z6 := kb.cell (p := ⟨w.heap.size + 1, 5, none⟩) y5 (unhide HOut _ (Nat.le_succ _)); have z7 := kb.cell (p := ⟨w.heap.size + 1, 6, none⟩) y6 (unhide HOut _ (Nat.le_succ _)); have HLb0 := hide hLb; have HFb0 := hide hFb; have HKb0 := hide kb; clear hLb hFb kb))
  rename_i hSk
  clear hSk z0 z1 z2 z3 z4 z5 z6 z7 y0 y1 y2 y3 y4 y5 y6 HLn HKl
  have hLb := unhide HLb0
  have hFb := unhide HFb0
  have kb := unhide HKb0
  clear HLb0 HFb0 HKb0
  clear xb4
  have Rb := R4.turnLog hLb kb
  have hbxb := kb.blk hbx4 (unhide HOut _ (Nat.le_refl _))
  have hxb := kb.blk hx4 (unhide HOut _ (by omega))
  have hrb := kb.blk hr4 (unhide HOut _ (by omega))
  have hob : IsOrd wb b (newOrd o) 0 := kb.blk ho4 (unhide HOut _ hb0)
  have kkb : Chg (fun x => x = bv ∨ V.lm.F x) w wb := kk4.of_non.trans kb
  obtain ⟨fO, mOb, fOb⟩ := Rb.orders
  simp only at mOb fOb
  obtain ⟨wm, hU, mOm, km⟩ := (mOb.kept ((Chg.refl Non wb).drew) (fun x => x)).put (x := b) law3 Tryz.underlying95 (by unfold maxLen; omega) (keyOf_int_mk Tryz.underlying3 hwf) trivial (by rw [fOb]; exact unhide hfree)
  have v1 : wb.cell? ⟨bv, 1, none⟩ = some (.map (some bo)) := Rb.ven.cell 1
  have xb5 : wb.cell? ⟨w.heap.size, 0, none⟩ = some (.pointer (some ⟨bv, 0, none⟩)) := hbxb.cell 0
  have x0 : wb.cell? ⟨w.heap.size + 1, 0, none⟩ = some (.int .i64 o.id) := hxb.cell 0
  have HMm := hide mOm
  have HKb := hide kb
  have HK4 := hide kk4
  have HR4 := hide R4
  clear mOm kb kk4 R4 hbx4 hx4 hr4 ho4 HBeg
  go_wp2
  go_region
  clear hU v1 x0 xb5
  have bnm : ∀ {b' : Nat} {c : Array Value} {t' : TypeId}, Blk wb b' c t' → Blk wm b' c t' := fun h => km.blk h.drew (Ne.symm (mOb.ne h))
  have hvm : IsLog wm bv bm bo V.lg.begun lmb := (hLb.kept0 (Chg.refl Non wb).drew).kept km (Ne.symm (mOb.ne hLb.ven)) (fun y hy e => by
    obtain ⟨c, t', hc, _⟩ := hLb.log.typ hy
    exact mOb.ne hc e.symm)
  have hbxm := bnm hbxb
  have xbm : wm.cell? ⟨w.heap.size, 0, none⟩ = some (.pointer (some ⟨bv, 0, none⟩)) := hbxm.cell 0
  have HNt := hide (note1 bv bm bo V.lg.begun lmb (.entered o.id) (.func 114) #[.pointer (some ⟨w.heap.size, 0, none⟩), .pointer (some ⟨w.heap.size + 1, 0, none⟩)] wm hvm (by show 0 < V.lg.na + 1; omega) (by show V.lg.na + 1 ≤ 3000000; omega) (by show 0 + 1 < 1000000000; omega))
  go_wp2_with fail
  refine (unhide HNt).mono ?_
  rintro e w5 ⟨rfl, lm5, hv5, hFn, kn⟩
  clear xbm
  change IsLog w5 bv bm bo (V.lg.opened o.id) lm5 at hv5
  have bne : ∀ {b' : Nat} {c : Array Value} {t' : TypeId}, Blk wb b' c t' → t' ≠ 103 → t' ≠ 62 → t' ≠ 105 → t' ≠ 109 → t' ≠ 1 ∧ t' ≠ 5 → Blk w5 b' c t' := fun h h1 h2 h3 h4 h5 => kn.blk (bnm h) (hvm.log.ne (bnm h) h1 h2 h3 h4 h5)
  have ho5 : IsOrd w5 b (newOrd o) 0 := bne hob (by decide) (by decide) (by decide) (by decide) (by decide)
  have hr5 := bne hrb (by decide) (by decide) (by decide) (by decide) (by decide)
  have hbx5 := bne hbxb (by decide) (by decide) (by decide) (by decide) (by decide)
  have hFm : ∀ x, lmb.F x → V.lm.F x ∨ w.heap.size ≤ x := fun x hx => (hFb x hx).imp_right (fun h => Nat.le_trans (unhide HK4).size h)
  have kkm : Chg (fun x => x = bo ∨ x = bv ∨ V.lm.F x) w wm := (kkb.mono (fun x h => .inr h)).drew.trans (km.mono (fun x h => .inl h))
  have hF5 : ∀ x, lm5.F x → V.lm.F x ∨ w.heap.size ≤ x := fun x hx => by
    rcases hFn x hx with h | h
    · exact hFm x h
    · exact .inr (Nat.le_trans kkm.size h)
  have kk5 : Chg (fun x => x = bo ∨ x = bv ∨ V.lm.F x) w w5 := kkm.from (kn.mono (fun x h => (hFm x h).imp_left (fun h => .inr (.inr h))))
  have hlo4 : ∀ x, x < 2 → ∀ y, SdB (V.B i) x y → y < w.heap.size := fun x hx y h => by
    rcases h with h | ⟨l, hl, rfl⟩
    · exact (((unhide HR).book i hi).side x hx).lt h
    · exact ((((unhide HR).book i hi).side x hx).ords hl).lt
  have kb5 : Chg (fun x => x = bo ∨ lmb.F x) wb w5 := ((Chg.refl (fun x => x = bo ∨ lmb.F x) wb).drew.trans (km.mono (fun x h => .inl h))).trans (kn.mono (fun x h => .inr h))
  have hnoS : ∀ x c t, Blk wb x c t → (t = 158 ∨ t = 114 ∨ t = 116) → ¬ (x = bo ∨ lmb.F x) := by
    rintro x c t' hx ht' (e | e)
    · exact mOb.ne hx e.symm
    · exact hLb.log.ne hx (by rcases ht' with rfl | rfl | rfl <;> decide) (by rcases ht' with rfl | rfl | rfl <;> decide) (by rcases ht' with rfl | rfl | rfl <;> decide) (by rcases ht' with rfl | rfl | rfl <;> decide) (by rcases ht' with rfl | rfl | rfl <;> decide) e
  have hbook0 : IsBook w5 (V.bk i) (V.B i) V.om := (Rb.book i hi).keptT kb5 hnoS
  have hbook5 : IsBook w5 (V.bk i) (V.B i) (upd V.om b (newOrd o)) := by
    refine ⟨hbook0.blk, fun x hx => (hbook0.side x hx).om (fun l hl => upd_other _ _ (fun e => ?_)), hbook0.apart, hbook0.disj⟩
    have := hlo4 x hx _ (.inr ⟨l, hl, rfl⟩)
    omega
  have hmk5 : Mk w5 (V.bk i) (V.B i) (upd V.om b (newOrd o)) (fun x => x = b ∨ ∃ id, V.oid id = some x) := by
    refine ⟨hbook5, fun x hx => ?_, fun x hx l hl => .inr ((unhide HR).mem i hi x hx l hl)⟩
    rcases hx with rfl | ⟨id, hx⟩
    · rw [upd_same]; exact ⟨0, ho5⟩
    · obtain ⟨_, ix, h⟩ := (unhide HR).ords id x hx
      have := h.lt
      obtain ⟨_, ix4, h4⟩ := Rb.ords id x hx
      rw [upd_other _ _ (by omega)]
      exact ⟨ix4, kb5.blk h4 (hnoS _ _ _ h4 (.inr (.inr rfl)))⟩
  have mO5 : MapP w5 3 bo (putF fO (.int .i64 o.id) b) (V.no + 1) := (unhide HMm).kept kn (fun e => by
    obtain ⟨c, t', hc, _⟩ := hvm.log.typ e
    exact (unhide HMm).ne hc rfl)
  have HM5 := hide mO5
  have xb6 : w5.cell? ⟨w.heap.size, 0, none⟩ = some (.pointer (some ⟨bv, 0, none⟩)) := hbx5.cell 0
  clear mO5 HNt HMm HKb HK4 HR4 kb5 hnoS hbook0 bnm hbxb hxb hrb hob hbxm hvm kkm kkb kn km Rb hLb hFb hFn
  have hT := unhide HT
  have iv5 : Inv b s ⟨V.B i, upd V.om b (newOrd o), V.lg.opened o.id⟩ := by
    refine ⟨fun l hl => ?_, (hbook5.side s hs).inj, ?_, ?_, ?_⟩
    · have hlt := hlo4 s hs _ (.inr ⟨l, hl, rfl⟩)
      simp only
      rw [upd_other _ _ (by omega)]
      exact ⟨(hinv l hl).1, (hinv l hl).2.1, (hinv l hl).2.2, by omega⟩
    · simp only [upd_same, newOrd]; omega
    · simp only [upd_same, newOrd]; omega
    · simp only [upd_same, newOrd]; rw [unhide HSD]; omega
  have hcome := come_any bv (V.bk i) b s t bm bo ⟨V.B i, upd V.om b (newOrd o), V.lg.opened o.id⟩ lm5 (fun x => x = b ∨ ∃ id, V.oid id = some x) w5 hv5 hmk5 hs hT (.inl rfl) iv5 (fun x hx l hl => by
    have := hlo4 x hx _ (.inr ⟨l, hl, rfl⟩)
    simp only
    omega) (by simp only; omega) 999999999 (by omega) (by unfold mu; simp only [Lg.opened, Lg.begun, Lg.noted]; split <;> omega) (by unfold mu; simp only [Lg.opened, Lg.begun, Lg.noted]; split <;> omega) (by simp only [Lg.opened, Lg.begun, Lg.noted]; omega) (by simp only [Lg.opened, Lg.begun, Lg.noted]; omega) (by unfold mu; simp only [Lg.opened, Lg.begun, Lg.noted, List.length_append, List.length_cons, List.length_nil]; split <;> omega)
  have fin : ∀ v6 w6 w7, ComePost bv (V.bk i) b s t bm bo ⟨V.B i, upd V.om b (newOrd o), V.lg.opened o.id⟩ lm5 (fun x => x = b ∨ ∃ id, V.oid id = some x) w5 v6 w6 → Chg (fun x => x = w.heap.size + 2) w6 w7 → EnterPost bv bm bo i s t V o w (.tuple #[v6, .int .i64 0]) w7 := by
    rintro v6 w6 w7 ⟨hv6, g, cap', lm', hm6, hb6, hf6, k6, hg6⟩ k7
    have hR : Rep w6 bv bm bo (V.enter i b s t g cap' o lm') := by
      refine (unhide HR).enter hi hs hT h8 (unhide hfree) hb0 ho5 hv5 hF5 kk5 ⟨_, unhide HM5, fun id => ?_⟩ iv5 rfl hm6 hb6 k6 hg6
      by_cases e : id = o.id
      · rw [if_pos e, e, putF_same (kl := .int .i64 o.id) trivial]
      · rw [if_neg e, putF_other (kl := .int .i64 o.id) (k := .int .i64 id) trivial (fun h => e (by simpa using h)), fOb]
    have sdF : ∀ x, x < 2 → ∀ y, SdB (V.B i) x y → Foot bv bm bo V y := fun x hx y h => .inr (.inr (.inr (.inl ⟨i, hi, .inr ⟨x, hx, h⟩⟩)))
    have kF : Chg (Foot bv bm bo V) w w6 := by
      refine (kk5.mono (S' := Foot bv bm bo V) (fun x h => by rcases h with h | h | h; exact .inr (.inr (.inl h)); exact .inl h; exact .inr (.inr (.inr (.inr (.inr h)))))).from (k6.mono (fun x h => ?_))
      rcases h with h | h | h | h | h | h
      · exact .inl (.inl h)
      · exact (hF5 x h).imp_left (fun h => .inr (.inr (.inr (.inr (.inr h)))))
      · exact .inl (.inr (.inr (.inr (.inl ⟨i, hi, .inl h⟩))))
      · right; omega
      · exact .inl (sdF s hs x h)
      · exact .inl (sdF t (by omega) x h)
    have hnew7 : ¬ Foot bv bm bo (V.enter i b s t g cap' o lm') (w.heap.size + 2) := hR.foot (c := zero5) (t := 87) (k6.blk hr5 (by
      rintro (h | h | h | h | h | h)
      · have := (unhide HR).ven.lt; omega
      · exact hv5.log.ne hr5 (by decide) (by decide) (by decide) (by decide) (by decide) h
      · have := ((unhide HR).book i hi).blk.lt; omega
      · exact Blk.ne ho5 hr5 (by decide) h.symm
      · have := hlo4 s hs _ h; omega
      · have := hlo4 t (by omega) _ h; omega)) (by decide) (by decide) (by decide) (by decide) (by decide) (by decide) (by decide)
    have hR7 : Rep w7 bv bm bo (V.enter i b s t g cap' o lm') := by
      obtain ⟨gB, nB, g1, g2⟩ := hR.books
      obtain ⟨gO, nO, g3⟩ := hR.orders
      have nf : ∀ x, Foot bv bm bo (V.enter i b s t g cap' o lm') x → ¬ x = w.heap.size + 2 := fun x h e => hnew7 (e ▸ h)
      exact ⟨hR.log.kept k7 (nf _ (.inl rfl)) (fun y hy => nf y (.inr (.inr (.inr (.inr (.inr hy)))))), ⟨gB, nB.kept k7 (nf _ (.inr (.inl rfl))), g1, g2⟩, ⟨gO, nO.kept k7 (nf _ (.inr (.inr (.inl rfl)))), g3⟩, hR.mne,
        fun j hj => (hR.book j hj).kept k7 (fun x hx => nf x (by
          rcases hx with h | ⟨y, hy, h⟩
          · exact .inr (.inr (.inr (.inl ⟨j, hj, .inl h⟩)))
          · exact .inr (.inr (.inr (.inl ⟨j, hj, .inr ⟨y, hy, h⟩⟩))))),
        fun id x h => ⟨(hR.ords id x h).1, (hR.ords id x h).2.elim fun ix ho => ⟨ix, k7.blk ho (nf x (.inr (.inr (.inr (.inr (.inl ⟨id, h⟩))))))⟩⟩, hR.mem, hR.sepb, hR.seps, hR.no200⟩
    refine ⟨b, g, cap', lm', hb0, by rw [hv6]; simp only [upd_same]; rfl, hR7, kF.from (k7.mono (fun x h => .inr (by omega))), fun x hx => ?_, ?_⟩
    · rcases hx with h | h | h | ⟨j, hj, h⟩ | ⟨id, h⟩ | h
      · exact .inl (.inl h)
      · exact .inl (.inr (.inl h))
      · exact .inl (.inr (.inr (.inl h)))
      · rcases h with h | ⟨y, hy, h⟩
        · exact .inl (.inr (.inr (.inr (.inl ⟨j, hj, .inl h⟩))))
        · by_cases e : j = i
          · subst e
            simp only [Ven.enter, upd_same] at h
            rcases comeB_sd h with h | h | h
            · left
              refine .inr (.inr (.inr (.inl ⟨j, hi, .inr ⟨y, hy, ?_⟩⟩)))
              obtain ⟨f1, f2, _⟩ := matchF_frame b s (mu b s ⟨V.B j, upd V.om b (newOrd o), V.lg.opened o.id⟩) ⟨V.B j, upd V.om b (newOrd o), V.lg.opened o.id⟩
              by_cases es : y = s
              · subst es
                exact (matchF_om _ _ iv5).2.2.1 x h
              · change SdB (mF b s ⟨V.B j, upd V.om b (newOrd o), V.lg.opened o.id⟩).B y x at h
                unfold SdB mF at h
                rw [f2, (f1 y es).1, (f1 y es).2] at h
                exact h
            · right; omega
            · rcases hg6 with h' | h'
              · exact .inl (sdF t (by omega) x (.inl (by rw [h]; exact h')))
              · right
                have := kk5.size
                omega
          · simp only [Ven.enter, upd_other _ _ e] at h
            exact .inl (.inr (.inr (.inr (.inl ⟨j, hj, .inr ⟨y, hy, h⟩⟩))))
      · simp only [Ven.enter] at h
        split at h
        · simp at h; right; omega
        · exact .inl (.inr (.inr (.inr (.inr (.inl ⟨id, h⟩)))))
      · rcases hf6 x h with h | h
        · exact (hF5 x h).imp_left (fun h => .inr (.inr (.inr (.inr (.inr h)))))
        · right
          have := kk5.size
          omega
    · rcases hg6 with h' | h'
      · exact .inl h'
      · right
        have := kk5.size
        omega
  have res6 : ∀ v6 w6, ComePost bv (V.bk i) b s t bm bo ⟨V.B i, upd V.om b (newOrd o), V.lg.opened o.id⟩ lm5 (fun x => x = b ∨ ∃ id, V.oid id = some x) w5 v6 w6 → Blk w6 (w.heap.size + 2) zero5 87 := by
    rintro v6 w6 ⟨_, g, cap', lm', _, _, _, k6, _⟩
    refine k6.blk hr5 ?_
    rintro (h | h | h | h | h | h)
    · have := (unhide HR).ven.lt; omega
    · exact hv5.log.ne hr5 (by decide) (by decide) (by decide) (by decide) (by decide) h
    · have := ((unhide HR).book i hi).blk.lt; omega
    · exact Blk.ne ho5 hr5 (by decide) h.symm
    · have := hlo4 s hs _ h; omega
    · have := hlo4 t (by omega) _ h; omega
  have HQ6 := hide res6
  clear res6
  have HC := hide hcome
  have HF := hide fin
  have HR5 := hide hr5
  clear fin hcome iv5 hmk5 hbook5 hlo4 kk5 hr5 hv5 ho5 bne HM5 hT hF5 hFm hbx5
  go_wp2_with fail
  refine (unhide HC).mono ?_
  rintro e w6 ⟨v6, rfl, hp6⟩
  obtain ⟨f, r, c, a, n, hrep⟩ := rep_form ((⟨V.B i, upd V.om b (newOrd o), V.lg.opened o.id⟩ : MS).om b) (comeOm b (mF b s ⟨V.B i, upd V.om b (newOrd o), V.lg.opened o.id⟩) b) V.tr (mF b s ⟨V.B i, upd V.om b (newOrd o), V.lg.opened o.id⟩).tr
  have hv6 : v6 = .agg #[.int .i64 f, .int .i64 r, .int .i64 c, .int .i64 a, .int .i64 n] := by rw [hp6.1]; exact hrep
  have hr6 : Blk w6 (w.heap.size + 2) zero5 87 := unhide HQ6 _ _ hp6
  have HP := hide hp6
  clear hp6 hrep
  rw [hv6] at HP
  rw [hv6]
  have r0 : w6.cell? ⟨w.heap.size + 2, 0, none⟩ = some (.int .i64 0) := hr6.cell 0
  have r1 : w6.cell? ⟨w.heap.size + 2, 1, none⟩ = some (.int .i64 0) := hr6.cell 1
  have r2 : w6.cell? ⟨w.heap.size + 2, 2, none⟩ = some (.int .i64 0) := hr6.cell 2
  have r3 : w6.cell? ⟨w.heap.size + 2, 3, none⟩ = some (.int .i64 0) := hr6.cell 3
  have r4 : w6.cell? ⟨w.heap.size + 2, 4, none⟩ = some (.int .i64 0) := hr6.cell 4
  have q0 := hr6.frozen 0
  have q1 := hr6.frozen 1
  have q2 := hr6.frozen 2
  have q3 := hr6.frozen 3
  have q4 := hr6.frozen 4
  clear hv6
  go_wp2
  refine bodyPost_ret (res9 _ (w.heap.size + 2) _ f r c a n rfl rfl ?_) rfl ⟨_, rfl, unhide HF _ _ _ (unhide HP) ?_⟩
  · exact ((((hr6.set 0 _).set 1 _).set 2 _).set 3 _).set 4 _
  · exact (((((Chg.refl (fun x => x = w.heap.size + 2) w6).setCell (p := ⟨w.heap.size + 2, 0, none⟩) (.inl rfl) _).setCell (p := ⟨w.heap.size + 2, 1, none⟩) (.inl rfl) _).setCell (p := ⟨w.heap.size + 2, 2, none⟩) (.inl rfl) _).setCell (p := ⟨w.heap.size + 2, 3, none⟩) (.inl rfl) _).setCell (p := ⟨w.heap.size + 2, 4, none⟩) (.inl rfl) _

end Go.Proofs.YtigaphnafnpfnaaGreatDoor

set_option linter.unusedVariables false
set_option linter.unusedSimpArgs false
/- The document's acts. -/
namespace Go.Proofs.YtigaphnafnpfnaaGreatDoor
open Go.RowKit
attribute [local go_sem ↓] Go.wp_at_zero Go.wp_at_succ

def RS.fresh (S : RS) : RS := { S with told := [] }
def SM.fresh (m : SM) : SM := { m with ov := .slice none 0 0 }

/-- what was told is forgotten -/
theorem StV.fresh {w : World} {base sb : Nat} {S : RS} {m : SM} (h : StV w base sb S m) : StV (w.setCell ⟨sb, 5, none⟩ (.slice none 0 0)) base sb S.fresh m.fresh ∧ Chg (SF sb m) w (w.setCell ⟨sb, 5, none⟩ (.slice none 0 0)) ∧ ∀ b, SF sb m.fresh b → SF sb m b := by
  have k : Chg (fun b => b = sb) w (w.setCell ⟨sb, 5, none⟩ (.slice none 0 0)) := (Chg.refl (fun b => b = sb) w).setCell (p := ⟨sb, 5, none⟩) (.inl rfl) _
  have ty : ∀ e, e ≠ 207 → ∀ b, b = sb → ∃ c t', Blk w b c t' ∧ t' ≠ e := fun e he b hb => by subst hb; exact ⟨_, _, h.blk, fun x => he x.symm⟩
  refine ⟨⟨h.ge, h.blk.set 5 _, own_typ (t := 0) h.yrow k (ty _ (by decide)), own_typ (t := 0) h.lrow k (ty _ (by decide)), own_typ (t := 0) h.trow k (ty _ (by decide)), World.ownsRow_nil _ _ _ _⟩, k.mono (fun b hb => .inl hb), ?_⟩
  rintro b (rfl | hb | hb | hb | hb)
  · exact .inl rfl
  · exact .inr (.inl hb)
  · exact .inr (.inr (.inl hb))
  · exact .inr (.inr (.inr (.inl hb)))
  · simp [SM.fresh, Value.ownBlock] at hb

/-- from the state without what was told -/
theorem StN.ofFresh {base sb : Nat} {S S' : RS} {m : SM} {w W1 W2 : World} (h0 : StV w base sb S m) (k : Chg (SF sb m) w W1) (h : StN base sb S' m.fresh W1 W2) : StN base sb S' m w W2 := by
  obtain ⟨m', p, q, kk⟩ := h
  have hs := h0.fresh.2.2
  refine ⟨m', p, fun b hb => ?_, k.trans (kk.mono hs)⟩
  rcases q b hb with h | h
  · exact .inl (hs b h)
  · exact .inr (Nat.le_trans k.size h)

/-- where an act begins -/
theorem StV.starts {w : World} {base sb : Nat} {S : RS} {m : SM} (h : StV w base sb S m) (box : Array Value) :
    StV (((w.setCell ⟨sb, 5, none⟩ (.slice none 0 0)).alloc (.cells box 169)).alloc (.cells zero5 87)) base sb S.fresh m.fresh ∧ Chg (SF sb m) w (((w.setCell ⟨sb, 5, none⟩ (.slice none 0 0)).alloc (.cells box 169)).alloc (.cells zero5 87)) ∧
      Blk (((w.setCell ⟨sb, 5, none⟩ (.slice none 0 0)).alloc (.cells box 169)).alloc (.cells zero5 87)) (w.heap.size + 1) zero5 87 ∧ Blk (((w.setCell ⟨sb, 5, none⟩ (.slice none 0 0)).alloc (.cells box 169)).alloc (.cells zero5 87)) w.heap.size box 169 := by
  obtain ⟨p, q, _⟩ := h.fresh
  have e : (w.setCell ⟨sb, 5, none⟩ (.slice none 0 0)).heap.size = w.heap.size := by simp
  have b1 := Blk.new1 (w.setCell ⟨sb, 5, none⟩ (.slice none 0 0)) (.cells box 169) zero5 87
  have b0 := (Blk.new (w.setCell ⟨sb, 5, none⟩ (.slice none 0 0)) box 169).alloc (.cells zero5 87)
  rw [e] at b1 b0
  exact ⟨p.kept0 (((Chg.refl Non _).alloc _).alloc _), (q.alloc _).alloc _, b1, b0⟩

theorem res138 (tmps : Array Value) (H : Nat) (w : World) (a b c d e E : Int) (ht : tmps.getD 4 undef = .pointer (some ⟨H, 0, none⟩)) (hu : tmps.getD 5 undef = .int .i64 E) (hb : Blk w H #[.int .i64 a, .int .i64 b, .int .i64 c, .int .i64 d, .int .i64 e] 87) :
    (results Tryz.f138 tmps).run Tryz.prog w = .ok (.tuple #[repV a b c d e, .int .i64 E]) w := by
  have c0 : w.cell? ⟨H, 0, none⟩ = some (.int .i64 a) := hb.cell 0
  have c1 : w.cell? ⟨H, 1, none⟩ = some (.int .i64 b) := hb.cell 1
  have c2 : w.cell? ⟨H, 2, none⟩ = some (.int .i64 c) := hb.cell 2
  have c3 : w.cell? ⟨H, 3, none⟩ = some (.int .i64 d) := hb.cell 3
  have c4 : w.cell? ⟨H, 4, none⟩ = some (.int .i64 e) := hb.cell 4
  simp only [Array.getD_eq_getD_getElem?] at ht hu
  simp [results, Tryz.results138, go_sem, ht, hu, c0, c1, c2, c3, c4, repV]

set_option maxRecDepth 100000 in
set_option maxHeartbeats 4000000 in
theorem rdoes_replace (base sb : Nat) (S S' : RS) (m : SM) (x : RAct) (rf rr rn ra rk E : Int) (w : World) (h : StV w base sb S m) (hx : x.kind = 114)
    (hr : ∀ W m', StV W base sb S.fresh m' → Calls Tryz.prog 170 #[.pointer (some ⟨sb, 0, none⟩), x.val] W fun e w' => e = .returned (.tuple #[repV rf rr rn ra rk, .int .i64 E]) ∧ StN base sb S' m' W w') :
    Calls Tryz.prog 138 #[.pointer (some ⟨sb, 0, none⟩), x.val] w fun e w' => e = .returned (.tuple #[repV rf rr rn ra rk, .int .i64 E]) ∧ StN base sb S' m w w' := by
  have lsb := h.blk.lt
  have v5 : w.cell? ⟨sb, 5, none⟩ = some m.ov := h.blk.cell 5
  have f5 := h.blk.frozen 5
  have sz : sb ≠ w.heap.size := by omega
  have sr : sb ≠ w.heap.size + 1 := by omega
  have sz' := sz.symm
  have sr' := sr.symm
  have lsb1 : sb < w.heap.size + 1 := by omega
  obtain ⟨kind, s, ⟨id, owner, sym, side, okind, price, qty⟩, a, b, c, again⟩ := x
  simp only at hx
  subst hx
  simp only [RAct.val, RAct.cells] at hr ⊢
  have HS := hide h
  have HR := hide hr
  clear h hr
  go_enter Tryz.func138, Tryz.ntmps138
  go_wp2_with fail
  obtain ⟨p1, q1, b1, _⟩ := (unhide HS).starts #[.int .u8 114, .string s, .int .i64 id, .int .i64 owner, .string sym, .int .i64 side, .int .i64 okind, .int .i64 price, .int .i64 qty, .int .i64 a, .int .i64 b, .int .i64 c, .bool again]
  refine (unhide HR _ _ p1).mono ?_
  rintro e w3 ⟨rfl, hn3⟩
  have b3 := hn3.blk87 p1 b1 (by decide)
  have HN3 := hide (hn3.ofFresh (unhide HS) q1)
  have z0 := b3.cell 0
  have z1 := b3.cell 1
  have z2 := b3.cell 2
  have z3 := b3.cell 3
  have z4 := b3.cell 4
  simp [zero5] at z0 z1 z2 z3 z4
  have fz0 := b3.frozen 0
  have fz1 := b3.frozen 1
  have fz2 := b3.frozen 2
  have fz3 := b3.frozen 3
  have fz4 := b3.frozen 4
  have HB3 := hide b3
  clear p1 q1 b1 hn3 b3
  simp only [repV]
  go_wp2
  refine bodyPost_ret (res138 _ (w.heap.size + 1) _ rf rr rn ra rk E rfl rfl ?_) rfl ⟨rfl, ?_⟩
  · exact set5 (unhide HB3) _ _ _ _ _
  · exact (unhide HN3).off (unhide HB3) (by omega) (chg5 _ _ _ _ _)

end Go.Proofs.YtigaphnafnpfnaaGreatDoor

