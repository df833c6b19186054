import Derived.Test.YtigaphnafnpfnaaGreatDoorPVC1
import Derived.Test.YtigaphnafnpfnaaGreatDoorPVE9
set_option linter.unusedVariables false
set_option linter.unusedSimpArgs false
namespace Go.Proofs.YtigaphnafnpfnaaGreatDoor
open Go.RowKit
attribute [local go_sem ↓] Go.wp_at_zero Go.wp_at_succ

/-- a number of the state's block is set -/
theorem StV.setPlaces {w : World} {base sb : Nat} {S : RS} {m : SM} (h : StV w base sb S m) (p : Int) :
    StV (w.setCell ⟨sb, 4, none⟩ (.int .i64 p)) base sb { S with places := p } m ∧ Chg (SF sb m) w (w.setCell ⟨sb, 4, none⟩ (.int .i64 p)) := by
  have k : Chg (fun b => b = sb) w (w.setCell ⟨sb, 4, none⟩ (.int .i64 p)) := (Chg.refl (fun b => b = sb) w).setCell (p := ⟨sb, 4, none⟩) (.inl rfl) _
  have ty : ∀ e, e ≠ 207 → ∀ b, b = sb → ∃ c t', Blk w b c t' ∧ t' ≠ e := fun e he b hb => by subst hb; exact ⟨_, _, h.blk, fun x => he x.symm⟩
  exact ⟨⟨h.ge, h.blk.set 4 _, own_typ (t := 0) h.yrow k (ty _ (by decide)), own_typ (t := 0) h.lrow k (ty _ (by decide)), own_typ (t := 0) h.trow k (ty _ (by decide)), own_typ (t := 0) h.orow k (ty _ (by decide))⟩, k.mono (fun b hb => .inl hb)⟩
theorem StV.setDay {w : World} {base sb : Nat} {S : RS} {m : SM} (h : StV w base sb S m) (p : Int) :
    StV (w.setCell ⟨sb, 3, none⟩ (.int .i64 p)) base sb { S with day := p } m ∧ Chg (SF sb m) w (w.setCell ⟨sb, 3, none⟩ (.int .i64 p)) := by
  have k : Chg (fun b => b = sb) w (w.setCell ⟨sb, 3, none⟩ (.int .i64 p)) := (Chg.refl (fun b => b = sb) w).setCell (p := ⟨sb, 3, none⟩) (.inl rfl) _
  have ty : ∀ e, e ≠ 207 → ∀ b, b = sb → ∃ c t', Blk w b c t' ∧ t' ≠ e := fun e he b hb => by subst hb; exact ⟨_, _, h.blk, fun x => he x.symm⟩
  exact ⟨⟨h.ge, h.blk.set 3 _, own_typ (t := 0) h.yrow k (ty _ (by decide)), own_typ (t := 0) h.lrow k (ty _ (by decide)), own_typ (t := 0) h.trow k (ty _ (by decide)), own_typ (t := 0) h.orow k (ty _ (by decide))⟩, k.mono (fun b hb => .inl hb)⟩


theorem nthO_sets {l : List Ord} {i : Nat} {o : Ord} (h : i < l.length) : nthO (l.set i o) i = o := nthO_eq (by rw [List.getElem?_set_self h])

/-- so much more is open, behind all others -/
def RS.stand (S : RS) (i : Nat) (n : Int) : RS := { S with places := wrap64 (S.places + 1), l := S.l.set i { nthO S.l i with place := wrap64 (S.places + 1), opn := wrap64 ((nthO S.l i).opn + n) } }

set_option maxHeartbeats 1000000 in
theorem rstand_any (base sb i : Nat) (S : RS) (m : SM) (n : Int) (w : World) (h : StV w base sb S m) (hlen : S.l.length ≤ 1000) (hi : i < S.l.length) :
    Calls Tryz.prog 203 #[.pointer (some ⟨sb, 0, none⟩), .int .i64 (i : Int), .int .i64 n] w fun e w' => e = .returned (.tuple #[]) ∧ StN base sb (S.stand i n) m w w' := by
  obtain ⟨N, hN⟩ : ∃ N, S.l.length = N := ⟨_, rfl⟩
  obtain ⟨a, c, hv⟩ := row_slice h.lrow
  obtain ⟨g, rfl, hgb, hc, hf⟩ := h.ordc hv hi
  have HV := hide hv
  have HI := hide hi
  rw [hN] at hv hlen hi
  have v1 : w.cell? ⟨sb, 1, none⟩ = some (.slice (some ⟨g, 0, none⟩) N c) := by rw [← hv]; exact h.blk.cell 1
  have v4 : w.cell? ⟨sb, 4, none⟩ = some (.int .i64 S.places) := h.blk.cell 4
  have f4 := h.blk.frozen 4
  have lsb := h.blk.lt
  obtain ⟨x, hx⟩ : ∃ x, nthO S.l i = x := ⟨_, rfl⟩
  rw [hx] at hc
  have c8 : w.cell? ⟨g, i * 13 + 8, none⟩ = some (.int .i64 x.opn) := hc 8 _ rfl
  have c12 : w.cell? ⟨g, i * 13 + 12, none⟩ = some (.int .i64 x.place) := hc 12 _ rfl
  have f8 := hf (i * 13 + 8)
  have f12 := hf (i * 13 + 12)
  have hsg : sb ≠ g := fun e => by
    have r := h.lrow
    rw [unhide HV] at r
    obtain ⟨cs, hcs⟩ := own_blk r (b := g) rfl
    exact Blk.ne h.blk hcs (by decide) e
  have hgs := hsg.symm
  have n1 : ¬ i * 13 + 8 = i * 13 + 12 := by omega
  have fin : StV (((w.setCell ⟨sb, 4, none⟩ (.int .i64 (wrap64 (S.places + 1)))).setCell ⟨g, i * 13 + 12, none⟩ (.int .i64 (wrap64 (S.places + 1)))).setCell ⟨g, i * 13 + 8, none⟩ (.int .i64 (wrap64 (x.opn + n)))) base sb (S.stand i n) m ∧
      Chg (SF sb m) w (((w.setCell ⟨sb, 4, none⟩ (.int .i64 (wrap64 (S.places + 1)))).setCell ⟨g, i * 13 + 12, none⟩ (.int .i64 (wrap64 (S.places + 1)))).setCell ⟨g, i * 13 + 8, none⟩ (.int .i64 (wrap64 (x.opn + n)))) := by
    obtain ⟨p0, q0⟩ := h.setPlaces (wrap64 (S.places + 1))
    obtain ⟨p1, q1⟩ := p0.setOrd (i := i) (unhide HV) (unhide HI) (j := 12) (by omega) (.int .i64 (wrap64 (S.places + 1))) { x with place := wrap64 (S.places + 1) } (by simp only; rw [hx]; rfl)
    obtain ⟨p2, q2⟩ := p1.setOrd (i := i) (by simp only [List.length_set]; exact unhide HV) (by simp only [List.length_set]; exact unhide HI) (j := 8) (by omega) (.int .i64 (wrap64 (x.opn + n))) { x with place := wrap64 (S.places + 1), opn := wrap64 (x.opn + n) } (by simp only; rw [nthO_sets (unhide HI)]; rfl)
    refine ⟨?_, (q0.trans q1).trans q2⟩
    have e : ({ S with places := wrap64 (S.places + 1), l := (S.l.set i { x with place := wrap64 (S.places + 1) }).set i { x with place := wrap64 (S.places + 1), opn := wrap64 (x.opn + n) } } : RS) = S.stand i n := by
      unfold RS.stand
      rw [hx, List.set_set]
    rw [← e]
    exact p2
  have HF := hide fin
  clear fin hc hf h hv hx hN
  go_enter Tryz.func203, Tryz.ntmps203
  go_wp2
  go_region
  go_wp2
  go_region
  go_wp2
  go_end0
  exact ⟨rfl, m, (unhide HF).1.kept0 (Chg.refl Non _).drew.drew, fun b hb => .inl hb, (unhide HF).2.drew.drew⟩

end Go.Proofs.YtigaphnafnpfnaaGreatDoor

set_option linter.unusedVariables false
set_option linter.unusedSimpArgs false
namespace Go.Proofs.YtigaphnafnpfnaaGreatDoor
open Go.RowKit Go.Maps
attribute [local go_sem ↓] Go.wp_at_zero Go.wp_at_succ

/-- a venue, without memory -/
structure Ven where
  nb : Nat
  bk : Nat → Nat
  B : Nat → Bk
  om : Nat → Ord
  oid : Int → Option Nat
  no : Nat
  lg : Lg
  lm : Lm

/-- how many trades -/
def Ven.tr (V : Ven) : Int := V.lg.tr.length

def sl (s : ByteArray) : Lit := .string s.data.toList

structure Rep (w : World) (bv bm bo : Nat) (V : Ven) : Prop where
  log : IsLog w bv bm bo V.lg V.lm
  books : ∃ fB, MapP w 9 bm fB V.nb ∧ (∀ i, i < V.nb → fB (sl (V.B i).sym) = some (V.bk i)) ∧ (∀ s b, fB (sl s) = some b → ∃ i, i < V.nb ∧ b = V.bk i ∧ (V.B i).sym = s)
  orders : ∃ fO, MapP w 3 bo fO V.no ∧ (∀ id, fO (.int .i64 id) = V.oid id)
  mne : bm ≠ bo
  book : ∀ i, i < V.nb → IsBook w (V.bk i) (V.B i) V.om
  ords : ∀ id b, V.oid id = some b → (V.om b).id = id ∧ ∃ ix, IsOrd w b (V.om b) ix
  mem : ∀ i, i < V.nb → ∀ s, s < 2 → ∀ k, k < (V.B i).n s → ∃ id, V.oid id = some ((V.B i).h s k)
  sepb : ∀ i j, i < V.nb → j < V.nb → i ≠ j → V.bk i ≠ V.bk j
  seps : ∀ i j, i < V.nb → j < V.nb → i ≠ j → ∀ s t, s < 2 → t < 2 → ∀ b, SdB (V.B i) s b → ¬ SdB (V.B j) t b
  no200 : V.no ≤ 200

theorem Rep.ven {w : World} {bv bm bo : Nat} {V : Ven} (R : Rep w bv bm bo V) : Blk w bv (venC bm bo V.lm V.lg.day) 100 := R.log.ven

theorem ask_cells (o : Ask) : o.val = .agg #[.int .i64 o.id, .int .i64 o.owner, .string o.sym, .int .i64 o.side, .int .i64 o.kind, .int .i64 o.price, .int .i64 o.qty] := rfl

set_option maxHeartbeats 4000000 in
set_option maxRecDepth 100000 in
/-- nothing is wrong with the order -/
theorem refusal_ok (bv bm bo i : Nat) (V : Ven) (o : Ask) (w : World) (R : Rep w bv bm bo V) (hi : i < V.nb) (hsym : (V.B i).sym = o.sym) (hlen : o.sym.size ≤ maxLen)
    (h1 : numB o.id = true) (h2 : V.oid o.id = none) (h3 : ownB' o.owner = true) (h4 : sideB o.side = true) (h5 : kindB o.kind = true) (h6 : numB o.qty = true) (h7 : priceB o.kind o.price = true) (h8 : V.no < 200) (h9 : o.kind ≠ 3) (h10 : o.kind ≠ 4) :
    Calls Tryz.prog 111 #[.pointer (some ⟨bv, 0, none⟩), o.val] w fun e w' => e = .returned (.int .i64 0) ∧ Chg Non w w' := by
  obtain ⟨fB, mB, fB1, fB2⟩ := R.books
  obtain ⟨fO, mO, fO1⟩ := R.orders
  obtain ⟨id, owner, sym, side, kind, price, qty⟩ := o
  simp only at hsym hlen h1 h2 h3 h4 h5 h6 h7 h9 h10
  simp only [Ask.val]
  have hid : (Lit.int .i64 id).wf = true := by
    simp [numB] at h1
    exact WalkArith.wf_i64 (by omega)
  have hlb : fB (sl sym) = some (V.bk i) := by rw [← hsym]; exact fB1 i hi
  have hlo : fO (.int .i64 id) = none := by rw [fO1, h2]
  obtain ⟨w1, hw1⟩ : ∃ w1, w1 = w.alloc (.cells #[.int .i64 id, .int .i64 owner, .string sym, .int .i64 side, .int .i64 kind, .int .i64 price, .int .i64 qty] 52) := ⟨_, rfl⟩
  have k1 : Chg Non w w1 := by rw [hw1]; exact (Chg.refl Non w).alloc _
  have hbx : Blk w1 w.heap.size #[.int .i64 id, .int .i64 owner, .string sym, .int .i64 side, .int .i64 kind, .int .i64 price, .int .i64 qty] 52 := by rw [hw1]; exact Blk.new w _ _
  have L1 : ∀ q, (Instr.lookup 94 (.map (some bm)) (.string sym) false).run Tryz.prog (w1.drewN q) = .ok (.pointer (some ⟨V.bk i, 0, none⟩)) (w1.drewN q) := fun q => by
    rw [(mB.kept (k1.drewN q) (fun x => x)).look law9 Tryz.underlying94 (zero70 _) (WideMaps.keyOf_string_mk Tryz.underlying9 hlen)]
    show _ = Result.ok (ptrO (some (V.bk i))) _
    rw [← hlb]; rfl
  have L2 : ∀ q, (Instr.lookup 95 (.map (some bo)) (.int .i64 id) false).run Tryz.prog (w1.drewN q) = .ok (.pointer none) (w1.drewN q) := fun q => by
    rw [(mO.kept (k1.drewN q) (fun x => x)).look law3 Tryz.underlying95 (zero80 _) (keyOf_int_mk Tryz.underlying3 hid)]
    show _ = Result.ok (ptrO none) _
    rw [← hlo]
  have L3 : ∀ q, (Builtin.len_ #[95] 3 #[.map (some bo)]).run Tryz.prog (w1.drewN q) = .ok (.int .i64 V.no) (w1.drewN q) := fun q => (mO.kept (k1.drewN q) (fun x => x)).len Tryz.underlying95 _
  have v0 : w1.cell? ⟨bv, 0, none⟩ = some (.map (some bm)) := (k1.blk R.ven (fun x => x)).cell 0
  have v1 : w1.cell? ⟨bv, 1, none⟩ = some (.map (some bo)) := (k1.blk R.ven (fun x => x)).cell 1
  have x0 : w1.cell? ⟨w.heap.size, 0, none⟩ = some (.int .i64 id) := hbx.cell 0
  have x1 : w1.cell? ⟨w.heap.size, 1, none⟩ = some (.int .i64 owner) := hbx.cell 1
  have x2 : w1.cell? ⟨w.heap.size, 2, none⟩ = some (.string sym) := hbx.cell 2
  have x3 : w1.cell? ⟨w.heap.size, 3, none⟩ = some (.int .i64 side) := hbx.cell 3
  have x4 : w1.cell? ⟨w.heap.size, 4, none⟩ = some (.int .i64 kind) := hbx.cell 4
  have x5 : w1.cell? ⟨w.heap.size, 5, none⟩ = some (.int .i64 price) := hbx.cell 5
  have x6 : w1.cell? ⟨w.heap.size, 6, none⟩ = some (.int .i64 qty) := hbx.cell 6
  have e3 : (kind == 3) = false := by simp [h9]
  have e4 : (kind == 4) = false := by simp [h10]
  have e8 : decide ((200 : Int) ≤ (V.no : Int)) = false := by simp; omega
  have HW := hide hw1
  have HK := hide k1
  clear hw1 k1 hbx h9 h10 hlb hlo fB1 fB2 fO1 mB mO hid
  go_enter Tryz.func111, Tryz.ntmps111
  go_wp2
  rw [← unhide HW]
  go_quiet (fail)
  go_wp2_with (first | (go_at_call 68; refine (isNumber_any _ _).mono ?_; rintro e w' ⟨rfl, rfl⟩) | (go_at_call 144; refine (isOwner_any _ _).mono ?_; rintro e w' ⟨rfl, rfl⟩) | (go_at_call 47; refine (isSide_any _ _).mono ?_; rintro e w' ⟨rfl, rfl⟩) | (go_at_call 145; refine (isKind_any _ _).mono ?_; rintro e w' ⟨rfl, rfl⟩) | (go_at_call 146; refine (isPriceOf_any _ _ _).mono ?_; rintro e w' ⟨rfl, rfl⟩))
  go_quiet (fail)
  go_wp2_with (first | (go_at_call 68; refine (isNumber_any _ _).mono ?_; rintro e w' ⟨rfl, rfl⟩) | (go_at_call 144; refine (isOwner_any _ _).mono ?_; rintro e w' ⟨rfl, rfl⟩) | (go_at_call 47; refine (isSide_any _ _).mono ?_; rintro e w' ⟨rfl, rfl⟩) | (go_at_call 145; refine (isKind_any _ _).mono ?_; rintro e w' ⟨rfl, rfl⟩) | (go_at_call 146; refine (isPriceOf_any _ _ _).mono ?_; rintro e w' ⟨rfl, rfl⟩))
  go_quiet (fail)
  go_wp2
  go_ret
  exact ⟨rfl, ((unhide HK).drewN _).drewN _⟩

end Go.Proofs.YtigaphnafnpfnaaGreatDoor

/- refusal, where the order is one that must not cross, or must be filled whole -/
set_option linter.unusedVariables false
set_option linter.unusedSimpArgs false
namespace Go.Proofs.YtigaphnafnpfnaaGreatDoor
open Go.RowKit Go.Maps
attribute [local go_sem ↓] Go.wp_at_zero Go.wp_at_succ

set_option maxRecDepth 100000 in
set_option maxHeartbeats 4000000 in
theorem refusal_post (bv bm bo i s : Nat) (V : Ven) (o : Ask) (w : World) (R : Rep w bv bm bo V) (hi : i < V.nb) (hsym : (V.B i).sym = o.sym) (hlen : o.sym.size ≤ maxLen)
    (h1 : numB o.id = true) (h2 : V.oid o.id = none) (h3 : ownB' o.owner = true) (h4 : sideB o.side = true) (h5 : kindB o.kind = true) (h6 : numB o.qty = true) (h7 : priceB o.kind o.price = true) (h8 : V.no < 200) (h9 : o.kind = 4) (hs : s < 2) (hside : o.side = 1 - (s : Int)) :
    Calls Tryz.prog 111 #[.pointer (some ⟨bv, 0, none⟩), o.val] w fun e w' => e = .returned (.int .i64 (if (firstG (V.B i) V.om o s).isSome then 8 else 0)) ∧ Chg Non w w' := by
  obtain ⟨fB, mB, fB1, fB2⟩ := R.books
  obtain ⟨fO, mO, fO1⟩ := R.orders
  obtain ⟨id, owner, sym, side, kind, price, qty⟩ := o
  simp only at hsym hlen h1 h2 h3 h4 h5 h6 h7 h9 hside
  simp only [Ask.val]
  have hid : (Lit.int .i64 id).wf = true := by
    simp [numB] at h1
    exact WalkArith.wf_i64 (by omega)
  have hlb : fB (sl sym) = some (V.bk i) := by rw [← hsym]; exact fB1 i hi
  have hlo : fO (.int .i64 id) = none := by rw [fO1, h2]
  obtain ⟨w1, hw1⟩ : ∃ w1, w1 = w.alloc (.cells #[.int .i64 id, .int .i64 owner, .string sym, .int .i64 side, .int .i64 kind, .int .i64 price, .int .i64 qty] 52) := ⟨_, rfl⟩
  have k1 : Chg Non w w1 := by rw [hw1]; exact (Chg.refl Non w).alloc _
  have hbx : Blk w1 w.heap.size #[.int .i64 id, .int .i64 owner, .string sym, .int .i64 side, .int .i64 kind, .int .i64 price, .int .i64 qty] 52 := by rw [hw1]; exact Blk.new w _ _
  have L1 : ∀ q, (Instr.lookup 94 (.map (some bm)) (.string sym) false).run Tryz.prog (w1.drewN q) = .ok (.pointer (some ⟨V.bk i, 0, none⟩)) (w1.drewN q) := fun q => by
    rw [(mB.kept (k1.drewN q) (fun x => x)).look law9 Tryz.underlying94 (zero70 _) (WideMaps.keyOf_string_mk Tryz.underlying9 hlen)]
    show _ = Result.ok (ptrO (some (V.bk i))) _
    rw [← hlb]; rfl
  have L2 : ∀ q, (Instr.lookup 95 (.map (some bo)) (.int .i64 id) false).run Tryz.prog (w1.drewN q) = .ok (.pointer none) (w1.drewN q) := fun q => by
    rw [(mO.kept (k1.drewN q) (fun x => x)).look law3 Tryz.underlying95 (zero80 _) (keyOf_int_mk Tryz.underlying3 hid)]
    show _ = Result.ok (ptrO none) _
    rw [← hlo]
  have L3 : ∀ q, (Builtin.len_ #[95] 3 #[.map (some bo)]).run Tryz.prog (w1.drewN q) = .ok (.int .i64 V.no) (w1.drewN q) := fun q => (mO.kept (k1.drewN q) (fun x => x)).len Tryz.underlying95 _
  have v0 : w1.cell? ⟨bv, 0, none⟩ = some (.map (some bm)) := (k1.blk R.ven (fun x => x)).cell 0
  have v1 : w1.cell? ⟨bv, 1, none⟩ = some (.map (some bo)) := (k1.blk R.ven (fun x => x)).cell 1
  have x0 : w1.cell? ⟨w.heap.size, 0, none⟩ = some (.int .i64 id) := hbx.cell 0
  have x1 : w1.cell? ⟨w.heap.size, 1, none⟩ = some (.int .i64 owner) := hbx.cell 1
  have x2 : w1.cell? ⟨w.heap.size, 2, none⟩ = some (.string sym) := hbx.cell 2
  have x3 : w1.cell? ⟨w.heap.size, 3, none⟩ = some (.int .i64 side) := hbx.cell 3
  have x4 : w1.cell? ⟨w.heap.size, 4, none⟩ = some (.int .i64 kind) := hbx.cell 4
  have x5 : w1.cell? ⟨w.heap.size, 5, none⟩ = some (.int .i64 price) := hbx.cell 5
  have x6 : w1.cell? ⟨w.heap.size, 6, none⟩ = some (.int .i64 qty) := hbx.cell 6
  have e3 : (kind == 3) = false := by rw [h9]; rfl
  have e4 : (kind == 4) = true := by rw [h9]; rfl
  have HF := hide (fun (W : World) (hW : IsBook W (V.bk i) (V.B i) V.om) => firstGood_any (V.bk i) (V.B i) V.om ⟨id, owner, sym, side, kind, price, qty⟩ s W hW hs hside)
  have HBK := hide (R.book i hi)
  have e8 : decide ((200 : Int) ≤ (V.no : Int)) = false := by simp; omega
  have HW := hide hw1
  have HK := hide k1
  clear hside hw1 k1 hbx h9 hlb hlo fB1 fB2 fO1 mB mO hid
  cases hf : firstG (V.B i) V.om ⟨id, owner, sym, side, kind, price, qty⟩ s with
  | none =>
    have HF' : Hid (∀ W, IsBook W (V.bk i) (V.B i) V.om → Calls Tryz.prog 123 #[.pointer (some ⟨V.bk i, 0, none⟩), .agg #[.int .i64 id, .int .i64 owner, .string sym, .int .i64 side, .int .i64 kind, .int .i64 price, .int .i64 qty]] W fun e w' => e = .returned (.pointer none) ∧ Chg Non W w') := fun W hW => by
      have := unhide HF W hW
      rw [hf] at this
      exact this
    clear hf HF
    go_enter Tryz.func111, Tryz.ntmps111
    go_wp2
    rw [← unhide HW]
    go_quiet (fail)
    go_wp2_with (first | (go_at_call 68; refine (isNumber_any _ _).mono ?_; rintro e w' ⟨rfl, rfl⟩) | (go_at_call 144; refine (isOwner_any _ _).mono ?_; rintro e w' ⟨rfl, rfl⟩) | (go_at_call 47; refine (isSide_any _ _).mono ?_; rintro e w' ⟨rfl, rfl⟩) | (go_at_call 145; refine (isKind_any _ _).mono ?_; rintro e w' ⟨rfl, rfl⟩) | (go_at_call 146; refine (isPriceOf_any _ _ _).mono ?_; rintro e w' ⟨rfl, rfl⟩))
    go_quiet (fail)
    go_wp2_with (first | (go_at_call 123; refine (unhide HF' _ ((unhide HBK).kept ((unhide HK).drewN _) (fun _ _ x => x))).mono ?_; rintro e w3 ⟨rfl, hc3⟩; have k4 := hc3.cell (p := ⟨w.heap.size, 4, none⟩) x4 (fun x => x)) | (go_at_call 68; refine (isNumber_any _ _).mono ?_; rintro e w' ⟨rfl, rfl⟩) | (go_at_call 144; refine (isOwner_any _ _).mono ?_; rintro e w' ⟨rfl, rfl⟩) | (go_at_call 47; refine (isSide_any _ _).mono ?_; rintro e w' ⟨rfl, rfl⟩) | (go_at_call 145; refine (isKind_any _ _).mono ?_; rintro e w' ⟨rfl, rfl⟩) | (go_at_call 146; refine (isPriceOf_any _ _ _).mono ?_; rintro e w' ⟨rfl, rfl⟩))
    go_quiet (fail)
    go_wp2
    go_ret
    exact ⟨rfl, Chg.trans (((unhide HK).drewN _)) (hc3.drewN _)⟩
  | some x =>
    have HF' : Hid (∀ W, IsBook W (V.bk i) (V.B i) V.om → Calls Tryz.prog 123 #[.pointer (some ⟨V.bk i, 0, none⟩), .agg #[.int .i64 id, .int .i64 owner, .string sym, .int .i64 side, .int .i64 kind, .int .i64 price, .int .i64 qty]] W fun e w' => e = .returned (.pointer (some ⟨x, 0, none⟩)) ∧ Chg Non W w') := fun W hW => by
      have := unhide HF W hW
      rw [hf] at this
      exact this
    clear hf HF
    go_enter Tryz.func111, Tryz.ntmps111
    go_wp2
    rw [← unhide HW]
    go_quiet (fail)
    go_wp2_with (first | (go_at_call 68; refine (isNumber_any _ _).mono ?_; rintro e w' ⟨rfl, rfl⟩) | (go_at_call 144; refine (isOwner_any _ _).mono ?_; rintro e w' ⟨rfl, rfl⟩) | (go_at_call 47; refine (isSide_any _ _).mono ?_; rintro e w' ⟨rfl, rfl⟩) | (go_at_call 145; refine (isKind_any _ _).mono ?_; rintro e w' ⟨rfl, rfl⟩) | (go_at_call 146; refine (isPriceOf_any _ _ _).mono ?_; rintro e w' ⟨rfl, rfl⟩))
    go_quiet (fail)
    go_wp2_with (first | (go_at_call 123; refine (unhide HF' _ ((unhide HBK).kept ((unhide HK).drewN _) (fun _ _ x => x))).mono ?_; rintro e w3 ⟨rfl, hc3⟩; have k4 := hc3.cell (p := ⟨w.heap.size, 4, none⟩) x4 (fun x => x)) | (go_at_call 68; refine (isNumber_any _ _).mono ?_; rintro e w' ⟨rfl, rfl⟩) | (go_at_call 144; refine (isOwner_any _ _).mono ?_; rintro e w' ⟨rfl, rfl⟩) | (go_at_call 47; refine (isSide_any _ _).mono ?_; rintro e w' ⟨rfl, rfl⟩) | (go_at_call 145; refine (isKind_any _ _).mono ?_; rintro e w' ⟨rfl, rfl⟩) | (go_at_call 146; refine (isPriceOf_any _ _ _).mono ?_; rintro e w' ⟨rfl, rfl⟩))
    go_ret
    exact ⟨rfl, Chg.trans ((unhide HK).drewN _) hc3⟩

#print axioms refusal_post
end Go.Proofs.YtigaphnafnpfnaaGreatDoor

