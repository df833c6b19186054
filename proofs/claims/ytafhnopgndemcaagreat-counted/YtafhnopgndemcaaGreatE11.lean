/- refusal, where the order is one that must not cross, or must be filled whole -/
import Derived.Test.YtafhnopgndemcaaGreatE10
set_option linter.unusedVariables false
set_option linter.unusedSimpArgs false
namespace Go.Proofs.YtafhnopgndemcaaGreat
open Go.RowKit Go.Maps
attribute [local go_sem ↓] Go.wp_at_zero Go.wp_at_succ

set_option maxRecDepth 100000 in
set_option maxHeartbeats 4000000 in
theorem refusal_whole (bv bm bo i s : Nat) (V : Ven) (o : Ask) (w : World) (R : Rep w bv bm bo V) (hi : i < V.nb) (hsym : (V.B i).sym = o.sym) (hlen : o.sym.size ≤ maxLen)
    (h1 : numB o.id = true) (h2 : V.oid o.id = none) (h3 : ownB' o.owner = true) (h4 : sideB o.side = true) (h5 : kindB o.kind = true) (h6 : numB o.qty = true) (h7 : priceB o.kind o.price = true) (h8 : V.no < 200) (h9 : o.kind = 3) (hs : s < 2) (hside : o.side = 1 - (s : Int)) (hop : ∀ k, k < (V.B i).n s → 0 ≤ (V.om ((V.B i).h s k)).opn ∧ (V.om ((V.B i).h s k)).opn ≤ 1000000) :
    Calls Tryz.prog 89 #[.pointer (some ⟨bv, 0, none⟩), o.val] w fun e w' => e = .returned (.int .i64 (if supF V.om ((V.B i).h s) o ((V.B i).n s) < o.qty then 9 else 0)) ∧ Chg Non w w' := by
  obtain ⟨fB, mB, fB1, fB2⟩ := R.books
  obtain ⟨fO, mO, fO1⟩ := R.orders
  obtain ⟨id, owner, sym, side, kind, price, qty⟩ := o
  simp only at hsym hlen h1 h2 h3 h4 h5 h6 h7 h9 hside
  simp only [Ask.val]
  have hid : (Lit.int .i64 id).wf = true := by
    simp [numB] at h1
    exact WalkArith.wf_i64 (by omega)
  have hlb : fB (sl sym) = some (V.bk i) := by rw [← hsym]; exact fB1 i hi
  have hlo : fO (.int .i64 id) = none := by rw [fO1, h2]
  obtain ⟨w1, hw1⟩ : ∃ w1, w1 = w.alloc (.cells #[.int .i64 id, .int .i64 owner, .string sym, .int .i64 side, .int .i64 kind, .int .i64 price, .int .i64 qty] 52) := ⟨_, rfl⟩
  have k1 : Chg Non w w1 := by rw [hw1]; exact (Chg.refl Non w).alloc _
  have hbx : Blk w1 w.heap.size #[.int .i64 id, .int .i64 owner, .string sym, .int .i64 side, .int .i64 kind, .int .i64 price, .int .i64 qty] 52 := by rw [hw1]; exact Blk.new w _ _
  have L1 : ∀ q, (Instr.lookup 90 (.map (some bm)) (.string sym) false).run Tryz.prog (w1.drewN q) = .ok (.pointer (some ⟨V.bk i, 0, none⟩)) (w1.drewN q) := fun q => by
    rw [(mB.kept (k1.drewN q) (fun x => x)).look law9 Tryz.underlying90 (zero70 _) (WideMaps.keyOf_string_mk Tryz.underlying9 hlen)]
    show _ = Result.ok (ptrO (some (V.bk i))) _
    rw [← hlb]; rfl
  have L2 : ∀ q, (Instr.lookup 91 (.map (some bo)) (.int .i64 id) false).run Tryz.prog (w1.drewN q) = .ok (.pointer none) (w1.drewN q) := fun q => by
    rw [(mO.kept (k1.drewN q) (fun x => x)).look law3 Tryz.underlying91 (zero80 _) (keyOf_int_mk Tryz.underlying3 hid)]
    show _ = Result.ok (ptrO none) _
    rw [← hlo]
  have L3 : ∀ q, (Builtin.len_ #[91] 3 #[.map (some bo)]).run Tryz.prog (w1.drewN q) = .ok (.int .i64 V.no) (w1.drewN q) := fun q => (mO.kept (k1.drewN q) (fun x => x)).len Tryz.underlying91 _
  have v0 : w1.cell? ⟨bv, 0, none⟩ = some (.map (some bm)) := (k1.blk R.ven (fun x => x)).cell 0
  have v1 : w1.cell? ⟨bv, 1, none⟩ = some (.map (some bo)) := (k1.blk R.ven (fun x => x)).cell 1
  have x0 : w1.cell? ⟨w.heap.size, 0, none⟩ = some (.int .i64 id) := hbx.cell 0
  have x1 : w1.cell? ⟨w.heap.size, 1, none⟩ = some (.int .i64 owner) := hbx.cell 1
  have x2 : w1.cell? ⟨w.heap.size, 2, none⟩ = some (.string sym) := hbx.cell 2
  have x3 : w1.cell? ⟨w.heap.size, 3, none⟩ = some (.int .i64 side) := hbx.cell 3
  have x4 : w1.cell? ⟨w.heap.size, 4, none⟩ = some (.int .i64 kind) := hbx.cell 4
  have x5 : w1.cell? ⟨w.heap.size, 5, none⟩ = some (.int .i64 price) := hbx.cell 5
  have x6 : w1.cell? ⟨w.heap.size, 6, none⟩ = some (.int .i64 qty) := hbx.cell 6
  have e3 : (kind == 3) = true := by rw [h9]; rfl
  have e4 : (kind == 4) = false := by rw [h9]; rfl
  have HF := hide (fun (W : World) (hW : IsBook W (V.bk i) (V.B i) V.om) => supply_any (V.bk i) s (V.B i) V.om ⟨id, owner, sym, side, kind, price, qty⟩ W hW hs hside hop)
  have HBK := hide (R.book i hi)
  have e8 : decide ((200 : Int) ≤ (V.no : Int)) = false := by simp; omega
  have HW := hide hw1
  have HK := hide k1
  clear hop hside hw1 k1 hbx h9 hlb hlo fB1 fB2 fO1 mB mO hid
  have HSH : Hid (∃ z, z = supF V.om ((V.B i).h s) ⟨id, owner, sym, side, kind, price, qty⟩ ((V.B i).n s)) := ⟨_, rfl⟩
  obtain ⟨z, hz⟩ := unhide HSH
  rw [← hz] at HF ⊢
  have HF2 : Hid (∀ W, (∃ q, W = w1.drewN q) → Calls Tryz.prog 119 #[.pointer (some ⟨V.bk i, 0, none⟩), .agg #[.int .i64 id, .int .i64 owner, .string sym, .int .i64 side, .int .i64 kind, .int .i64 price, .int .i64 qty]] W fun e w' => e = .returned (.int .i64 z) ∧ Chg Non W w') := by
    rintro W ⟨q, rfl⟩
    exact unhide HF _ ((unhide HBK).kept ((unhide HK).drewN q) (fun _ _ x => x))
  clear HF HSH hz
  go_enter Tryz.func89, Tryz.ntmps89
  go_wp2
  rw [← unhide HW]
  go_quiet (fail)
  go_wp2_with (first | (go_at_call 57; refine (isNumber_any _ _).mono ?_; rintro e w' ⟨rfl, rfl⟩) | (go_at_call 116; refine (isOwner_any _ _).mono ?_; rintro e w' ⟨rfl, rfl⟩) | (go_at_call 40; refine (isSide_any _ _).mono ?_; rintro e w' ⟨rfl, rfl⟩) | (go_at_call 117; refine (isKind_any _ _).mono ?_; rintro e w' ⟨rfl, rfl⟩) | (go_at_call 118; refine (isPriceOf_any _ _ _).mono ?_; rintro e w' ⟨rfl, rfl⟩))
  go_quiet (fail)
  go_wp2_with (first | (go_at_call 57; refine (isNumber_any _ _).mono ?_; rintro e w' ⟨rfl, rfl⟩) | (go_at_call 116; refine (isOwner_any _ _).mono ?_; rintro e w' ⟨rfl, rfl⟩) | (go_at_call 40; refine (isSide_any _ _).mono ?_; rintro e w' ⟨rfl, rfl⟩) | (go_at_call 117; refine (isKind_any _ _).mono ?_; rintro e w' ⟨rfl, rfl⟩) | (go_at_call 118; refine (isPriceOf_any _ _ _).mono ?_; rintro e w' ⟨rfl, rfl⟩))
  obtain ⟨H, hH⟩ : ∃ H, w.heap.size = H := ⟨_, rfl⟩
  rw [hH] at x0 x1 x2 x3 x4 x5 x6 ⊢
  go_region_held3 (fun w' => w'.cell? ⟨H, 0, none⟩ = some (.int .i64 id) ∧ w'.cell? ⟨H, 1, none⟩ = some (.int .i64 owner) ∧ w'.cell? ⟨H, 2, none⟩ = some (.string sym) ∧ w'.cell? ⟨H, 3, none⟩ = some (.int .i64 side) ∧ w'.cell? ⟨H, 4, none⟩ = some (.int .i64 kind) ∧ w'.cell? ⟨H, 5, none⟩ = some (.int .i64 price) ∧ w'.cell? ⟨H, 6, none⟩ = some (.int .i64 qty)) (go_keep)
    (first | (go_at_call 119; refine (unhide HF2 _ ⟨_, rfl⟩).mono ?_; rintro e w3 ⟨rfl, hc3⟩; have k0 := hc3.cell (p := ⟨H, 0, none⟩) x0 (fun x => x); have k1 := hc3.cell (p := ⟨H, 1, none⟩) x1 (fun x => x); have k2 := hc3.cell (p := ⟨H, 2, none⟩) x2 (fun x => x); have k3 := hc3.cell (p := ⟨H, 3, none⟩) x3 (fun x => x); have k4 := hc3.cell (p := ⟨H, 4, none⟩) x4 (fun x => x); have k5 := hc3.cell (p := ⟨H, 5, none⟩) x5 (fun x => x); have k6 := hc3.cell (p := ⟨H, 6, none⟩) x6 (fun x => x)))
  go_wp2
  all_goals (go_ret; exact ⟨rfl, Chg.trans ((unhide HK).drewN _) (Chg.trans (by repeat (first | exact Chg.refl _ _ | refine Chg.drewN ?_ _ | refine Chg.drew ?_)) hc3)⟩)

#print axioms refusal_whole
end Go.Proofs.YtafhnopgndemcaaGreat
