import Derived.Test.YtigaphnafnpfnaaDoorC1
set_option linter.unusedVariables false
set_option linter.unusedSimpArgs false
namespace Go.Proofs.YtigaphnafnpfnaaDoor
open Go.RowKit Go.Maps
attribute [local go_sem ↓] Go.wp_at_zero Go.wp_at_succ

/-- a venue, without memory -/
structure Ven where
  nb : Nat
  bk : Nat → Nat
  B : Nat → Bk
  om : Nat → Ord
  oid : Int → Option Nat
  no : Nat
  lg : Lg
  lm : Lm

/-- how many trades -/
def Ven.tr (V : Ven) : Int := V.lg.tr.length

def sl (s : ByteArray) : Lit := .string s.data.toList

structure Rep (w : World) (bv bm bo : Nat) (V : Ven) : Prop where
  log : IsLog w bv bm bo V.lg V.lm
  books : ∃ fB, MapP w 9 bm fB V.nb ∧ (∀ i, i < V.nb → fB (sl (V.B i).sym) = some (V.bk i)) ∧ (∀ s b, fB (sl s) = some b → ∃ i, i < V.nb ∧ b = V.bk i ∧ (V.B i).sym = s)
  orders : ∃ fO, MapP w 3 bo fO V.no ∧ (∀ id, fO (.int .i64 id) = V.oid id)
  mne : bm ≠ bo
  book : ∀ i, i < V.nb → IsBook w (V.bk i) (V.B i) V.om
  ords : ∀ id b, V.oid id = some b → (V.om b).id = id ∧ ∃ ix, IsOrd w b (V.om b) ix
  mem : ∀ i, i < V.nb → ∀ s, s < 2 → ∀ k, k < (V.B i).n s → ∃ id, V.oid id = some ((V.B i).h s k)
  sepb : ∀ i j, i < V.nb → j < V.nb → i ≠ j → V.bk i ≠ V.bk j
  seps : ∀ i j, i < V.nb → j < V.nb → i ≠ j → ∀ s t, s < 2 → t < 2 → ∀ b, SdB (V.B i) s b → ¬ SdB (V.B j) t b
  no200 : V.no ≤ 200

theorem Rep.ven {w : World} {bv bm bo : Nat} {V : Ven} (R : Rep w bv bm bo V) : Blk w bv (venC bm bo V.lm V.lg.day) 62 := R.log.ven

theorem ask_cells (o : Ask) : o.val = .agg #[.int .i64 o.id, .int .i64 o.owner, .string o.sym, .int .i64 o.side, .int .i64 o.kind, .int .i64 o.price, .int .i64 o.qty] := rfl

set_option maxHeartbeats 4000000 in
set_option maxRecDepth 100000 in
/-- nothing is wrong with the order -/
theorem refusal_ok (bv bm bo i : Nat) (V : Ven) (o : Ask) (w : World) (R : Rep w bv bm bo V) (hi : i < V.nb) (hsym : (V.B i).sym = o.sym) (hlen : o.sym.size ≤ maxLen)
    (h1 : numB o.id = true) (h2 : V.oid o.id = none) (h3 : ownB' o.owner = true) (h4 : sideB o.side = true) (h5 : kindB o.kind = true) (h6 : numB o.qty = true) (h7 : priceB o.kind o.price = true) (h8 : V.no < 200) (h9 : o.kind ≠ 3) (h10 : o.kind ≠ 4) :
    Calls Tryd.prog 15 #[.pointer (some ⟨bv, 0, none⟩), o.val] w fun e w' => e = .returned (.int .i64 0) ∧ Chg Non w w' := by
  obtain ⟨fB, mB, fB1, fB2⟩ := R.books
  obtain ⟨fO, mO, fO1⟩ := R.orders
  obtain ⟨id, owner, sym, side, kind, price, qty⟩ := o
  simp only at hsym hlen h1 h2 h3 h4 h5 h6 h7 h9 h10
  simp only [Ask.val]
  have hid : (Lit.int .i64 id).wf = true := by
    simp [numB] at h1
    exact WalkArith.wf_i64 (by omega)
  have hlb : fB (sl sym) = some (V.bk i) := by rw [← hsym]; exact fB1 i hi
  have hlo : fO (.int .i64 id) = none := by rw [fO1, h2]
  obtain ⟨w1, hw1⟩ : ∃ w1, w1 = w.alloc (.cells #[.int .i64 id, .int .i64 owner, .string sym, .int .i64 side, .int .i64 kind, .int .i64 price, .int .i64 qty] 39) := ⟨_, rfl⟩
  have k1 : Chg Non w w1 := by rw [hw1]; exact (Chg.refl Non w).alloc _
  have hbx : Blk w1 w.heap.size #[.int .i64 id, .int .i64 owner, .string sym, .int .i64 side, .int .i64 kind, .int .i64 price, .int .i64 qty] 39 := by rw [hw1]; exact Blk.new w _ _
  have L1 : ∀ q, (Instr.lookup 55 (.map (some bm)) (.string sym) false).run Tryd.prog (w1.drewN q) = .ok (.pointer (some ⟨V.bk i, 0, none⟩)) (w1.drewN q) := fun q => by
    rw [(mB.kept (k1.drewN q) (fun x => x)).look law9 Tryd.underlying55 (zero70 _) (WideMaps.keyOf_string_mk Tryd.underlying9 hlen)]
    show _ = Result.ok (ptrO (some (V.bk i))) _
    rw [← hlb]; rfl
  have L2 : ∀ q, (Instr.lookup 56 (.map (some bo)) (.int .i64 id) false).run Tryd.prog (w1.drewN q) = .ok (.pointer none) (w1.drewN q) := fun q => by
    rw [(mO.kept (k1.drewN q) (fun x => x)).look law3 Tryd.underlying56 (zero80 _) (keyOf_int_mk Tryd.underlying3 hid)]
    show _ = Result.ok (ptrO none) _
    rw [← hlo]
  have L3 : ∀ q, (Builtin.len_ #[56] 3 #[.map (some bo)]).run Tryd.prog (w1.drewN q) = .ok (.int .i64 V.no) (w1.drewN q) := fun q => (mO.kept (k1.drewN q) (fun x => x)).len Tryd.underlying56 _
  have v0 : w1.cell? ⟨bv, 0, none⟩ = some (.map (some bm)) := (k1.blk R.ven (fun x => x)).cell 0
  have v1 : w1.cell? ⟨bv, 1, none⟩ = some (.map (some bo)) := (k1.blk R.ven (fun x => x)).cell 1
  have x0 : w1.cell? ⟨w.heap.size, 0, none⟩ = some (.int .i64 id) := hbx.cell 0
  have x1 : w1.cell? ⟨w.heap.size, 1, none⟩ = some (.int .i64 owner) := hbx.cell 1
  have x2 : w1.cell? ⟨w.heap.size, 2, none⟩ = some (.string sym) := hbx.cell 2
  have x3 : w1.cell? ⟨w.heap.size, 3, none⟩ = some (.int .i64 side) := hbx.cell 3
  have x4 : w1.cell? ⟨w.heap.size, 4, none⟩ = some (.int .i64 kind) := hbx.cell 4
  have x5 : w1.cell? ⟨w.heap.size, 5, none⟩ = some (.int .i64 price) := hbx.cell 5
  have x6 : w1.cell? ⟨w.heap.size, 6, none⟩ = some (.int .i64 qty) := hbx.cell 6
  have e3 : (kind == 3) = false := by simp [h9]
  have e4 : (kind == 4) = false := by simp [h10]
  have e8 : decide ((200 : Int) ≤ (V.no : Int)) = false := by simp; omega
  have HW := hide hw1
  have HK := hide k1
  clear hw1 k1 hbx h9 h10 hlb hlo fB1 fB2 fO1 mB mO hid
  go_enter Tryd.func15, Tryd.ntmps15
  go_wp2
  rw [← unhide HW]
  go_quiet (fail)
  go_wp2_with (first | (go_at_call 28; refine (isNumber_any _ _).mono ?_; rintro e w' ⟨rfl, rfl⟩) | (go_at_call 36; refine (isOwner_any _ _).mono ?_; rintro e w' ⟨rfl, rfl⟩) | (go_at_call 37; refine (isSide_any _ _).mono ?_; rintro e w' ⟨rfl, rfl⟩) | (go_at_call 38; refine (isKind_any _ _).mono ?_; rintro e w' ⟨rfl, rfl⟩) | (go_at_call 39; refine (isPriceOf_any _ _ _).mono ?_; rintro e w' ⟨rfl, rfl⟩))
  go_quiet (fail)
  go_wp2_with (first | (go_at_call 28; refine (isNumber_any _ _).mono ?_; rintro e w' ⟨rfl, rfl⟩) | (go_at_call 36; refine (isOwner_any _ _).mono ?_; rintro e w' ⟨rfl, rfl⟩) | (go_at_call 37; refine (isSide_any _ _).mono ?_; rintro e w' ⟨rfl, rfl⟩) | (go_at_call 38; refine (isKind_any _ _).mono ?_; rintro e w' ⟨rfl, rfl⟩) | (go_at_call 39; refine (isPriceOf_any _ _ _).mono ?_; rintro e w' ⟨rfl, rfl⟩))
  go_quiet (fail)
  go_wp2
  go_ret
  exact ⟨rfl, ((unhide HK).drewN _).drewN _⟩

end Go.Proofs.YtigaphnafnpfnaaDoor
