/- refusal, where the order is one that must not cross, or must be filled whole -/
import Derived.Test.YtafhnopgndemcaaGreatC2
import Derived.Test.YtafhnopgndemcaaGreatE9
set_option linter.unusedVariables false
set_option linter.unusedSimpArgs false
namespace Go.Proofs.YtafhnopgndemcaaGreat
open Go.RowKit Go.Maps
attribute [local go_sem ↓] Go.wp_at_zero Go.wp_at_succ

set_option maxRecDepth 100000 in
set_option maxHeartbeats 4000000 in
theorem refusal_post (bv bm bo i s : Nat) (V : Ven) (o : Ask) (w : World) (R : Rep w bv bm bo V) (hi : i < V.nb) (hsym : (V.B i).sym = o.sym) (hlen : o.sym.size ≤ maxLen)
    (h1 : numB o.id = true) (h2 : V.oid o.id = none) (h3 : ownB' o.owner = true) (h4 : sideB o.side = true) (h5 : kindB o.kind = true) (h6 : numB o.qty = true) (h7 : priceB o.kind o.price = true) (h8 : V.no < 200) (h9 : o.kind = 4) (hs : s < 2) (hside : o.side = 1 - (s : Int)) :
    Calls Tryz.prog 89 #[.pointer (some ⟨bv, 0, none⟩), o.val] w fun e w' => e = .returned (.int .i64 (if (firstG (V.B i) V.om o s).isSome then 8 else 0)) ∧ Chg Non w w' := by
  obtain ⟨fB, mB, fB1, fB2⟩ := R.books
  obtain ⟨fO, mO, fO1⟩ := R.orders
  obtain ⟨id, owner, sym, side, kind, price, qty⟩ := o
  simp only at hsym hlen h1 h2 h3 h4 h5 h6 h7 h9 hside
  simp only [Ask.val]
  have hid : (Lit.int .i64 id).wf = true := by
    simp [numB] at h1
    exact WalkArith.wf_i64 (by omega)
  have hlb : fB (sl sym) = some (V.bk i) := by rw [← hsym]; exact fB1 i hi
  have hlo : fO (.int .i64 id) = none := by rw [fO1, h2]
  obtain ⟨w1, hw1⟩ : ∃ w1, w1 = w.alloc (.cells #[.int .i64 id, .int .i64 owner, .string sym, .int .i64 side, .int .i64 kind, .int .i64 price, .int .i64 qty] 52) := ⟨_, rfl⟩
  have k1 : Chg Non w w1 := by rw [hw1]; exact (Chg.refl Non w).alloc _
  have hbx : Blk w1 w.heap.size #[.int .i64 id, .int .i64 owner, .string sym, .int .i64 side, .int .i64 kind, .int .i64 price, .int .i64 qty] 52 := by rw [hw1]; exact Blk.new w _ _
  have L1 : ∀ q, (Instr.lookup 90 (.map (some bm)) (.string sym) false).run Tryz.prog (w1.drewN q) = .ok (.pointer (some ⟨V.bk i, 0, none⟩)) (w1.drewN q) := fun q => by
    rw [(mB.kept (k1.drewN q) (fun x => x)).look law9 Tryz.underlying90 (zero70 _) (WideMaps.keyOf_string_mk Tryz.underlying9 hlen)]
    show _ = Result.ok (ptrO (some (V.bk i))) _
    rw [← hlb]; rfl
  have L2 : ∀ q, (Instr.lookup 91 (.map (some bo)) (.int .i64 id) false).run Tryz.prog (w1.drewN q) = .ok (.pointer none) (w1.drewN q) := fun q => by
    rw [(mO.kept (k1.drewN q) (fun x => x)).look law3 Tryz.underlying91 (zero80 _) (keyOf_int_mk Tryz.underlying3 hid)]
    show _ = Result.ok (ptrO none) _
    rw [← hlo]
  have L3 : ∀ q, (Builtin.len_ #[91] 3 #[.map (some bo)]).run Tryz.prog (w1.drewN q) = .ok (.int .i64 V.no) (w1.drewN q) := fun q => (mO.kept (k1.drewN q) (fun x => x)).len Tryz.underlying91 _
  have v0 : w1.cell? ⟨bv, 0, none⟩ = some (.map (some bm)) := (k1.blk R.ven (fun x => x)).cell 0
  have v1 : w1.cell? ⟨bv, 1, none⟩ = some (.map (some bo)) := (k1.blk R.ven (fun x => x)).cell 1
  have x0 : w1.cell? ⟨w.heap.size, 0, none⟩ = some (.int .i64 id) := hbx.cell 0
  have x1 : w1.cell? ⟨w.heap.size, 1, none⟩ = some (.int .i64 owner) := hbx.cell 1
  have x2 : w1.cell? ⟨w.heap.size, 2, none⟩ = some (.string sym) := hbx.cell 2
  have x3 : w1.cell? ⟨w.heap.size, 3, none⟩ = some (.int .i64 side) := hbx.cell 3
  have x4 : w1.cell? ⟨w.heap.size, 4, none⟩ = some (.int .i64 kind) := hbx.cell 4
  have x5 : w1.cell? ⟨w.heap.size, 5, none⟩ = some (.int .i64 price) := hbx.cell 5
  have x6 : w1.cell? ⟨w.heap.size, 6, none⟩ = some (.int .i64 qty) := hbx.cell 6
  have e3 : (kind == 3) = false := by rw [h9]; rfl
  have e4 : (kind == 4) = true := by rw [h9]; rfl
  have HF := hide (fun (W : World) (hW : IsBook W (V.bk i) (V.B i) V.om) => firstGood_any (V.bk i) (V.B i) V.om ⟨id, owner, sym, side, kind, price, qty⟩ s W hW hs hside)
  have HBK := hide (R.book i hi)
  have e8 : decide ((200 : Int) ≤ (V.no : Int)) = false := by simp; omega
  have HW := hide hw1
  have HK := hide k1
  clear hside hw1 k1 hbx h9 hlb hlo fB1 fB2 fO1 mB mO hid
  cases hf : firstG (V.B i) V.om ⟨id, owner, sym, side, kind, price, qty⟩ s with
  | none =>
    have HF' : Hid (∀ W, IsBook W (V.bk i) (V.B i) V.om → Calls Tryz.prog 99 #[.pointer (some ⟨V.bk i, 0, none⟩), .agg #[.int .i64 id, .int .i64 owner, .string sym, .int .i64 side, .int .i64 kind, .int .i64 price, .int .i64 qty]] W fun e w' => e = .returned (.pointer none) ∧ Chg Non W w') := fun W hW => by
      have := unhide HF W hW
      rw [hf] at this
      exact this
    clear hf HF
    go_enter Tryz.func89, Tryz.ntmps89
    go_wp2
    rw [← unhide HW]
    go_quiet (fail)
    go_wp2_with (first | (go_at_call 57; refine (isNumber_any _ _).mono ?_; rintro e w' ⟨rfl, rfl⟩) | (go_at_call 116; refine (isOwner_any _ _).mono ?_; rintro e w' ⟨rfl, rfl⟩) | (go_at_call 40; refine (isSide_any _ _).mono ?_; rintro e w' ⟨rfl, rfl⟩) | (go_at_call 117; refine (isKind_any _ _).mono ?_; rintro e w' ⟨rfl, rfl⟩) | (go_at_call 118; refine (isPriceOf_any _ _ _).mono ?_; rintro e w' ⟨rfl, rfl⟩))
    go_quiet (fail)
    go_wp2_with (first | (go_at_call 99; refine (unhide HF' _ ((unhide HBK).kept ((unhide HK).drewN _) (fun _ _ x => x))).mono ?_; rintro e w3 ⟨rfl, hc3⟩; have k4 := hc3.cell (p := ⟨w.heap.size, 4, none⟩) x4 (fun x => x)) | (go_at_call 57; refine (isNumber_any _ _).mono ?_; rintro e w' ⟨rfl, rfl⟩) | (go_at_call 116; refine (isOwner_any _ _).mono ?_; rintro e w' ⟨rfl, rfl⟩) | (go_at_call 40; refine (isSide_any _ _).mono ?_; rintro e w' ⟨rfl, rfl⟩) | (go_at_call 117; refine (isKind_any _ _).mono ?_; rintro e w' ⟨rfl, rfl⟩) | (go_at_call 118; refine (isPriceOf_any _ _ _).mono ?_; rintro e w' ⟨rfl, rfl⟩))
    go_quiet (fail)
    go_wp2
    go_ret
    exact ⟨rfl, Chg.trans (((unhide HK).drewN _)) (hc3.drewN _)⟩
  | some x =>
    have HF' : Hid (∀ W, IsBook W (V.bk i) (V.B i) V.om → Calls Tryz.prog 99 #[.pointer (some ⟨V.bk i, 0, none⟩), .agg #[.int .i64 id, .int .i64 owner, .string sym, .int .i64 side, .int .i64 kind, .int .i64 price, .int .i64 qty]] W fun e w' => e = .returned (.pointer (some ⟨x, 0, none⟩)) ∧ Chg Non W w') := fun W hW => by
      have := unhide HF W hW
      rw [hf] at this
      exact this
    clear hf HF
    go_enter Tryz.func89, Tryz.ntmps89
    go_wp2
    rw [← unhide HW]
    go_quiet (fail)
    go_wp2_with (first | (go_at_call 57; refine (isNumber_any _ _).mono ?_; rintro e w' ⟨rfl, rfl⟩) | (go_at_call 116; refine (isOwner_any _ _).mono ?_; rintro e w' ⟨rfl, rfl⟩) | (go_at_call 40; refine (isSide_any _ _).mono ?_; rintro e w' ⟨rfl, rfl⟩) | (go_at_call 117; refine (isKind_any _ _).mono ?_; rintro e w' ⟨rfl, rfl⟩) | (go_at_call 118; refine (isPriceOf_any _ _ _).mono ?_; rintro e w' ⟨rfl, rfl⟩))
    go_quiet (fail)
    go_wp2_with (first | (go_at_call 99; refine (unhide HF' _ ((unhide HBK).kept ((unhide HK).drewN _) (fun _ _ x => x))).mono ?_; rintro e w3 ⟨rfl, hc3⟩; have k4 := hc3.cell (p := ⟨w.heap.size, 4, none⟩) x4 (fun x => x)) | (go_at_call 57; refine (isNumber_any _ _).mono ?_; rintro e w' ⟨rfl, rfl⟩) | (go_at_call 116; refine (isOwner_any _ _).mono ?_; rintro e w' ⟨rfl, rfl⟩) | (go_at_call 40; refine (isSide_any _ _).mono ?_; rintro e w' ⟨rfl, rfl⟩) | (go_at_call 117; refine (isKind_any _ _).mono ?_; rintro e w' ⟨rfl, rfl⟩) | (go_at_call 118; refine (isPriceOf_any _ _ _).mono ?_; rintro e w' ⟨rfl, rfl⟩))
    go_ret
    exact ⟨rfl, Chg.trans ((unhide HK).drewN _) hc3⟩

#print axioms refusal_post
end Go.Proofs.YtafhnopgndemcaaGreat
