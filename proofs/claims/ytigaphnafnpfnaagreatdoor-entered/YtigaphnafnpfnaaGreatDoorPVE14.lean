import Derived.Test.YtigaphnafnpfnaaGreatDoorPVY3
import Derived.Test.YtigaphnafnpfnaaGreatDoorPVC3
import Derived.OpenShut
import Derived.Test.YtigaphnafnpfnaaGreatDoorPVC4
/- Cancel, where something is open -/
set_option linter.unusedVariables false
set_option linter.unusedSimpArgs false
namespace Go.Proofs.YtigaphnafnpfnaaGreatDoor
open Go.RowKit Go.Maps
attribute [local go_sem ↓] Go.wp_at_zero Go.wp_at_succ

/-- an act was begun, and what it noted -/
def Acted (bv bm bo : Nat) (G : Lg) (lm : Lm) (ds : List Back) (w w' : World) : Prop :=
  ∃ lm', IsLog w' bv bm bo (G.begun.noted ds) lm' ∧ (∀ x, lm'.F x → lm.F x ∨ w.heap.size ≤ x)

set_option maxRecDepth 100000 in
set_option maxHeartbeats 4000000 in
theorem cancel_ok (bv bm bo i s k : Nat) (V : Ven) (id : Int) (w : World) (R : Rep w bv bm bo V) (hT : Tab w) (hid : (Lit.int .i64 id).wf = true) (hi : i < V.nb) (hs : s < 2) (hk : k < (V.B i).n s) (hn : V.oid id = some ((V.B i).h s k)) (h0 : (V.om ((V.B i).h s k)).opn ≠ 0)
    (hside : (V.om ((V.B i).h s k)).side = (s : Int)) (hsym : (V.om ((V.B i).h s k)).sym = (V.B i).sym) (hlen : (V.B i).sym.size ≤ maxLen) (hna : V.lg.na < 3000000) :
    Calls Tryz.prog 37 #[.pointer (some ⟨bv, 0, none⟩), .int .i64 id] w fun e w' => e = .returned (.int .i64 0) ∧
      Mk w' (V.bk i) ((V.B i).leave V.om s k) (upd V.om ((V.B i).h s k) (cancO (V.om ((V.B i).h s k)))) (fun x => ∃ id, V.oid id = some x) ∧ Acted bv bm bo V.lg V.lm [.left ((V.B i).h s k), .now ((V.B i).h s k) (V.om ((V.B i).h s k))] w w' ∧ Chg (fun x => x = bv ∨ V.lm.F x ∨ x = V.bk i ∨ SdB (V.B i) s x) w w' := by
  have L2 := R.lookO hid
  rw [hn] at L2
  simp only [ptrO] at L2
  obtain ⟨_, ix, ho⟩ := R.ords id _ hn
  have o8 : w.cell? ⟨(V.B i).h s k, 8, none⟩ = some (.int .i64 (V.om ((V.B i).h s k)).opn) := ho.cell 8
  have e0 : ((V.om ((V.B i).h s k)).opn == 0) = false := by simp [h0]
  have v1 : w.cell? ⟨bv, 1, none⟩ = some (.map (some bo)) := R.ven.cell 1
  have hLs := lines_from ⟨#[99, 97, 110, 99, 101, 108]⟩ (fun _ => id) 1 w hT (by decide) (by decide) (by omega) (fun _ _ => bounds_i64 hid)
  generalize lineF (fun _ => id) ⟨#[99, 97, 110, 99, 101, 108]⟩ 1 = ln at hLs
  have HBeg := hide (begin_from bv bm bo V.lg V.lm ln w R.log hna hLs.1.1 hLs.1.2)
  have HLs := hide hLs.2
  clear hLs
  have HR := hide R
  have HN := hide hn
  have HSym := hide hsym
  have HSd := hide hside
  clear R hn ho h0 hsym hside
  go_enter Tryz.func37, Tryz.ntmps37
  go_wp2_with fail
  refine (unhide HLs _ ((Chg.refl Non w).alloc _) _ _ (fun i hi => by obtain rfl : i = 0 := (by omega); exact (Blk.new w _ _).cell 0)).mono ?_
  rintro e wl ⟨rfl, kl⟩
  have HKl := hide kl
  clear kl
  go_wp2_with fail
  refine (unhide HBeg _ (unhide HKl)).mono ?_
  rintro e wb ⟨rfl, lmb, hLb, hFb, kb, -, -⟩
  clear HLs HKl
  clear L2 o8 e0 v1
  have Rb := (unhide HR).turnLog hLb kb
  have hnb : ({ V with lg := V.lg.begun, lm := lmb } : Ven).oid id = some ((V.B i).h s k) := unhide HN
  obtain ⟨_, ix, ho⟩ := Rb.ords id _ hnb
  have o2 : wb.cell? ⟨(V.B i).h s k, 2, none⟩ = some (.string (V.B i).sym) := by rw [← unhide HSym]; exact Blk.cell ho 2
  have v0 : wb.cell? ⟨bv, 0, none⟩ = some (.map (some bm)) := Rb.ven.cell 0
  have L1 : (Instr.lookup 94 (.map (some bm)) (.string (V.B i).sym) false).run Tryz.prog wb = .ok (.pointer (some ⟨V.bk i, 0, none⟩)) wb := Rb.lookB hi hlen
  have L1d : (Instr.lookup 94 (.map (some bm)) (.string (V.B i).sym) false).run Tryz.prog wb.drew = .ok (.pointer (some ⟨V.bk i, 0, none⟩)) wb.drew := Rb.lookBq hi hlen 1
  have HL := hide (fun q => leave_mk (V.bk i) (V.B i) V.om (fun x => ∃ id, V.oid id = some x) s k (wb.drewN q) ((Rb.kept0 ((Chg.refl Non wb).drewN q)).mkt hi) hs hk (unhide HSd))
  have HC := hide (fun (W : World) (m : Mk W (V.bk i) ((V.B i).leave V.om s k) V.om (fun x => ∃ id, V.oid id = some x)) => cancelOpen_mk (V.bk i) ((V.B i).h s k) ((V.B i).leave V.om s k) V.om _ W m ⟨id, unhide HN⟩)
  have HNt : Hid (∀ q w2 w3 fn2 cp2 fn3 cp3, Mk w2 (V.bk i) ((V.B i).leave V.om s k) V.om (fun x => ∃ id, V.oid id = some x) → Chg (fun x => x = V.bk i ∨ SdB (V.B i) s x) (wb.drewN q) w2 → Mk w3 (V.bk i) ((V.B i).leave V.om s k) (upd V.om ((V.B i).h s k) (cancO (V.om ((V.B i).h s k)))) (fun x => ∃ id, V.oid id = some x) → Chg (fun x => x = (V.B i).h s k) w2 w3 →
      Calls Tryz.prog 53 #[.pointer (some ⟨bv, 0, none⟩), .slice (some ⟨w3.heap.size, 0, none⟩) 2 2] (w3.alloc (.cells #[.func fn2 #[] cp2, .func fn3 #[] cp3] 1)) fun e w' => e = .returned (.tuple #[]) ∧
        Mk w' (V.bk i) ((V.B i).leave V.om s k) (upd V.om ((V.B i).h s k) (cancO (V.om ((V.B i).h s k)))) (fun x => ∃ id, V.oid id = some x) ∧ Acted bv bm bo V.lg V.lm [.left ((V.B i).h s k), .now ((V.B i).h s k) (V.om ((V.B i).h s k))] w w' ∧ Chg (fun x => x = bv ∨ V.lm.F x ∨ x = V.bk i ∨ SdB (V.B i) s x) w w') := by
    intro q w2 w3 fn2 cp2 fn3 cp3 m2 k2 m3 k3
    have h2 := (hLb.kept0 ((Chg.refl Non wb).drewN q)).keptT k2 (fun x h => ((Rb.kept0 ((Chg.refl Non wb).drewN q)).mkt hi).typ (by
      rcases h with h | h
      · exact .inl h
      · exact .inr (.inr ⟨s, hs, h⟩)))
    have h3 := h2.keptT k3 (fun x h => by subst h; exact m2.typ (.inr (.inl ⟨id, unhide HN⟩)))
    refine (note2 bv bm bo _ lmb (.left ((V.B i).h s k)) (.now ((V.B i).h s k) (V.om ((V.B i).h s k))) fn2 fn3 cp2 cp3 w3 h3 (by show 0 < V.lg.na + 1; omega) (by show V.lg.na + 1 ≤ 3000000; omega) (by show 0 + 2 < 1000000000; omega)).mono ?_
    rintro e w' ⟨rfl, lm', a1, a2, a3⟩
    have kb' : Chg (fun x => x = bv ∨ V.lm.F x ∨ x = V.bk i ∨ SdB (V.B i) s x) w wb := kb.mono (fun x h => h.imp_right .inl)
    have kc3 := (kb'.drewN q).trans ((k2.mono (fun x h => .inr (.inr h))).trans (k3.mono (fun x h => .inr (.inr (.inr (.inr ⟨k, hk, h⟩))))))
    refine ⟨rfl, m3.keptLog h3 (a3.mono (fun _ h => .inr h)), ⟨lm', a1, fun x hx => ?_⟩, kc3.from (a3.mono (fun x h => (hFb x h).imp_left (fun h => .inr (.inl h))))⟩
    rcases a2 x hx with h | h
    · exact hFb x h
    · exact .inr (Nat.le_trans kc3.size h)
  clear ho hnb Rb hLb hFb kb HBeg HR HSym HSd HN
  go_wp2
  go_region_with (first | (go_at_call 66; refine (unhide HL _).mono ?_; rintro e w2 ⟨fn2, cp2, rfl, -, m2, c2⟩) | (go_at_call 67; refine (unhide HC _ m2).mono ?_; rintro e w3 ⟨fn3, cp3, rfl, -, m3, c3⟩) | (go_at_call 53; refine (unhide HNt _ w2 w3 fn2 cp2 fn3 cp3 m2 c2 m3 c3).mono ?_; rintro e w4 ⟨rfl, r4⟩))
  all_goals
    go_wp2
    go_ret
    exact ⟨rfl, r4⟩

#print axioms cancel_ok

end Go.Proofs.YtigaphnafnpfnaaGreatDoor

/- Enter, whatever the refusal's own reasons; Enter at a refusal -/
set_option linter.unusedVariables false
set_option linter.unusedSimpArgs false
namespace Go.Proofs.YtigaphnafnpfnaaGreatDoor
open Go.RowKit Go.Maps
attribute [local go_sem ↓] Go.wp_at_zero Go.wp_at_succ

set_option maxHeartbeats 4000000 in
set_option maxRecDepth 100000 in
theorem enter_gen (bv bm bo i s t : Nat) (V : Ven) (o : Ask) (w : World) (R : Rep w bv bm bo V) (hT : Tab w) (hi : i < V.nb) (hsym : (V.B i).sym = o.sym) (hlen1 : o.sym.size ≤ 100) (bOw : i64B o.owner) (bKd : i64B o.kind) (bPr : i64B o.price)
    (h1 : numB o.id = true) (h2 : V.oid o.id = none) (h6 : numB o.qty = true) (h8 : V.no < 200) (hrf : ∀ W, Rep W bv bm bo V → Calls Tryz.prog 111 #[.pointer (some ⟨bv, 0, none⟩), o.val] W fun e w' => e = .returned (.int .i64 0) ∧ Chg Non W w')
    (hs : s < 2) (ht : t = 1 - s) (hside : o.side = (t : Int)) (hinv : ∀ k, k < (V.B i).n s → (V.om ((V.B i).h s k)).side = (s : Int) ∧ 0 < (V.om ((V.B i).h s k)).opn ∧ (V.om ((V.B i).h s k)).opn ≤ 1000000000000000) (hcnt : (V.B i).n t ≤ V.no) (hcs : (V.B i).n s ≤ V.no) (hl1 : V.lg.tp.length + 300 < 1000000000) (hl2 : V.lg.tr.length + 300 < 1000000000) (hna : V.lg.na < 3000000) :
    Calls Tryz.prog 64 #[.pointer (some ⟨bv, 0, none⟩), o.val] w fun e w' => ∃ v, e = .returned v ∧ EnterPost bv bm bo i s t V o w v w' := by
  have hwf : (Lit.int .i64 o.id).wf = true := by
    simp [numB] at h1
    exact WalkArith.wf_i64 (by omega)
  have hqb : 1 ≤ o.qty ∧ o.qty ≤ 1000000 := by simpa [numB] using h6
  have hlen : o.sym.size ≤ maxLen := by unfold maxLen; omega
  have bId : i64B o.id := i64_of (by simp [numB] at h1; omega)
  have bSd : i64B o.side := i64_of (by rw [hside]; omega)
  have bQt : i64B o.qty := i64_of (by omega)
  have HSz := hide (enterL_size o.id o.owner o.sym o.side o.kind o.price o.qty hlen1 bId bOw bSd bKd bPr bQt)
  have HLE := hide (fun W h => lineE_from o.id o.owner o.sym o.side o.kind o.price o.qty W h hlen1 bId bOw bSd bKd bPr bQt)
  clear bId bOw bSd bKd bPr bQt hlen1
  generalize enterL o.id o.owner o.sym o.side o.kind o.price o.qty = ln at HSz HLE
  obtain ⟨w1, hw1⟩ : ∃ w1, w1 = ((w.alloc (.cells #[.pointer (some ⟨bv, 0, none⟩)] 35)).alloc (.cells (askC o) 52)).alloc (.cells zero5 87) := ⟨_, rfl⟩
  have k1 : Chg Non w w1 := by rw [hw1]; exact (((Chg.refl Non w).alloc _).alloc _).alloc _
  have hbx1 : Blk w1 w.heap.size #[.pointer (some ⟨bv, 0, none⟩)] 35 := by rw [hw1]; exact ((Blk.new w _ _).alloc _).alloc _
  have hx1 : Blk w1 (w.heap.size + 1) (askC o) 52 := by rw [hw1]; exact (Blk.new1 w _ _ _).alloc _
  have hr1 : Blk w1 (w.heap.size + 2) zero5 87 := by rw [hw1]; exact Blk.new2' w _ _ _ _
  have R1 := R.kept0 k1
  have href := hrf w1 R1
  obtain ⟨fB, mB, fB1, fB2⟩ := R.books
  have hlb : fB (sl o.sym) = some (V.bk i) := by rw [← hsym]; exact fB1 i hi
  have hlk : ∀ w2, Chg Non w w2 → ∀ q, (Instr.lookup 94 (.map (some bm)) (.string o.sym) false).run Tryz.prog (w2.drewN q) = .ok (.pointer (some ⟨V.bk i, 0, none⟩)) (w2.drewN q) := fun w2 k2 q => by
    rw [(mB.kept (k2.drewN q) (fun x => x)).look law9 Tryz.underlying94 (zero70 _) (WideMaps.keyOf_string_mk Tryz.underlying9 hlen)]
    show _ = Result.ok (ptrO (some (V.bk i))) _
    rw [← hlb]; rfl
  have hsl : Blk w1 (V.bk i) (V.B i).cells 158 := (R1.book i hi).blk
  have HW1 := hide hw1
  have HX := hide href
  have HL := hide hlk
  have hfree := hide h2
  clear hw1 href hlk h1 h2 h6 hrf
  have HR := hide R
  have HSY := hide hsym
  have HSD := hide hside
  have HT := hide ht
  clear R R1 mB fB1 fB2 hlb hsym hside ht
  simp only [Ask.val]
  go_enter Tryz.func64, Tryz.ntmps64
  have HW1' : Hid (w1 = ((w.alloc (.cells #[.pointer (some ⟨bv, 0, none⟩)] 35)).alloc (.cells #[.int .i64 o.id, .int .i64 o.owner, .string o.sym, .int .i64 o.side, .int .i64 o.kind, .int .i64 o.price, .int .i64 o.qty] 52)).alloc (.cells #[.int .i64 0, .int .i64 0, .int .i64 0, .int .i64 0, .int .i64 0] 87)) := HW1
  have ls2 : w.heap.size < w.heap.size + 1 + 1 := by omega
  go_wp2_with fail
  rw [← unhide HW1']
  refine (unhide HX).mono ?_
  rintro e w2 ⟨rfl, k2⟩
  have kk2 := k1.trans k2
  have hbx2 := k2.blk hbx1 (fun x => x)
  have hx2 := k2.blk hx1 (fun x => x)
  have hr2 := k2.blk hr1 (fun x => x)
  have R2 := (unhide HR).kept0 kk2
  have L1 := unhide HL w2 kk2
  have v0 : w2.cell? ⟨bv, 0, none⟩ = some (.map (some bm)) := R2.ven.cell 0
  have xb : w2.cell? ⟨w.heap.size, 0, none⟩ = some (.pointer (some ⟨bv, 0, none⟩)) := hbx2.cell 0
  have x2 : w2.cell? ⟨w.heap.size + 1, 2, none⟩ = some (.string o.sym) := hx2.cell 2
  have x0 : w2.cell? ⟨w.heap.size + 1, 0, none⟩ = some (.int .i64 o.id) := hx2.cell 0
  have x1 : w2.cell? ⟨w.heap.size + 1, 1, none⟩ = some (.int .i64 o.owner) := hx2.cell 1
  have x3 : w2.cell? ⟨w.heap.size + 1, 3, none⟩ = some (.int .i64 o.side) := hx2.cell 3
  have x4 : w2.cell? ⟨w.heap.size + 1, 4, none⟩ = some (.int .i64 o.kind) := hx2.cell 4
  have x5 : w2.cell? ⟨w.heap.size + 1, 5, none⟩ = some (.int .i64 o.price) := hx2.cell 5
  have x6 : w2.cell? ⟨w.heap.size + 1, 6, none⟩ = some (.int .i64 o.qty) := hx2.cell 6
  have f2 := hx2.frozen 2
  have y0 : w2.cell? ⟨V.bk i, 0, none⟩ = some (.string o.sym) := ((R2.book i hi).blk.cell 0).trans (by rw [← unhide HSY]; rfl)
  clear k1 k2 hx1 hr1 hbx1 HW1 HW1' HX HL hsl ls2
  go_wp2
  go_quiet (fail)
  obtain ⟨w3, hw3⟩ : ∃ w3, w3 = (w2.drewN nq).setCell ⟨w.heap.size + 1, 2, none⟩ (.string o.sym) := ⟨_, rfl⟩
  have k3 : Chg (fun x => x = w.heap.size + 1) w2 w3 := by rw [hw3]; exact ((Chg.refl (fun x => x = w.heap.size + 1) w2).drewN _).setCell (p := ⟨w.heap.size + 1, 2, none⟩) (.inl rfl) _
  have hx3 : Blk w3 (w.heap.size + 1) (askC o) 52 := by rw [hw3]; exact (hx2.drewN _).set 2 _
  have HW3 := hide hw3
  clear hw3
  go_wp2_with fail
  rw [← unhide HW3]
  refine (newOrder_any o w3).mono ?_
  rintro e w4 ⟨b, rfl, hb, ho4, k4⟩
  clear x0 x1 x2 x3 x4 x5 x6 xb f2 y0 v0 L1
  have kk4 : Chg Non w w4 := (kk2.from (k3.mono (fun x h => .inr (by omega)))).trans k4
  have hbx4 := k4.blk (k3.blk hbx2 (fun h => by omega)) (fun x => x)
  have hx4 := k4.blk hx3 (fun x => x)
  have hr4 := k4.blk (k3.blk hr2 (fun h => by omega)) (fun x => x)
  have R4 := (unhide HR).kept0 kk4
  have hb0 : w.heap.size ≤ b := by have := kk2.size; have := k3.size; omega
  have HBeg := hide (begin_from bv bm bo V.lg V.lm ln w4 R4.log hna (unhide HSz).1 (unhide HSz).2)
  have HLn := hide (unhide HLE w4 (hT.kept0 kk4))
  have xb4 : w4.cell? ⟨w.heap.size, 0, none⟩ = some (.pointer (some ⟨bv, 0, none⟩)) := hbx4.cell 0
  have y0 : w4.cell? ⟨w.heap.size + 1, 0, none⟩ = some (.int .i64 o.id) := hx4.cell 0
  have y1 : w4.cell? ⟨w.heap.size + 1, 1, none⟩ = some (.int .i64 o.owner) := hx4.cell 1
  have y2 : w4.cell? ⟨w.heap.size + 1, 2, none⟩ = some (.string o.sym) := hx4.cell 2
  have y3 : w4.cell? ⟨w.heap.size + 1, 3, none⟩ = some (.int .i64 o.side) := hx4.cell 3
  have y4 : w4.cell? ⟨w.heap.size + 1, 4, none⟩ = some (.int .i64 o.kind) := hx4.cell 4
  have y5 : w4.cell? ⟨w.heap.size + 1, 5, none⟩ = some (.int .i64 o.price) := hx4.cell 5
  have y6 : w4.cell? ⟨w.heap.size + 1, 6, none⟩ = some (.int .i64 o.qty) := hx4.cell 6
  have outF : ∀ x, w.heap.size ≤ x → ¬ (x = bv ∨ V.lm.F x) := by
    rintro x hx (e | e)
    · have := (unhide HR).ven.lt; omega
    · have := (unhide HR).log.log.lt e; omega
  have HOut := hide outF
  clear outF hbx2 hx2 hr2 hx3 k3 k4 HW3 HLE
  go_wp2
  go_region_held3 (fun w' => w'.cell? ⟨w.heap.size, 0, none⟩ = some (.pointer (some ⟨bv, 0, none⟩)) ∧ w'.cell? ⟨w.heap.size + 1, 0, none⟩ = some (.int .i64 o.id) ∧ w'.cell? ⟨w.heap.size + 1, 1, none⟩ = some (.int .i64 o.owner) ∧ w'.cell? ⟨w.heap.size + 1, 2, none⟩ = some (.string o.sym) ∧ w'.cell? ⟨w.heap.size + 1, 3, none⟩ = some (.int .i64 o.side) ∧ w'.cell? ⟨w.heap.size + 1, 4, none⟩ = some (.int .i64 o.kind) ∧ w'.cell? ⟨w.heap.size + 1, 5, none⟩ = some (.int .i64 o.price) ∧ w'.cell? ⟨w.heap.size + 1, 6, none⟩ = some (.int .i64 o.qty)) (go_keep)
    (first
      | (go_at_call 113; refine (unhide HLn _ ?cc).mono ?_; (case cc => repeat (first | exact Chg.refl _ _ | refine Chg.drew ?_)); rintro e wl ⟨rfl, hk⟩; have z0 := hk.cell (p := ⟨w.heap.size, 0, none⟩) xb4 (fun x => x); have z1 := hk.cell (p := ⟨w.heap.size + 1, 0, none⟩) y0 (fun x => x); have z2 := hk.cell (p := ⟨w.heap.size + 1, 1, none⟩) y1 (fun x => x); have z3 := hk.cell (p := ⟨w.heap.size + 1, 2, none⟩) y2 (fun x => x); have z4 := hk.cell (p := ⟨w.heap.size + 1, 3, none⟩) y3 (fun x => x); have z5 := hk.cell (p := ⟨w.heap.size + 1, 4, none⟩) y4 (fun x => x); have z6 := hk.cell (p := ⟨w.heap.size + 1, 5, none⟩) y5 (fun x => x); have z7 := hk.cell (p := ⟨w.heap.size + 1, 6, none⟩) y6 (fun x => x); have HKl := hide hk; clear hk)
      | (go_at_call 51; refine (unhide HBeg _ ?cc).mono ?_; (case cc => repeat (first | exact unhide HKl | refine Chg.drew ?_)); rintro e wb ⟨rfl, lmb, hLb, hFb, kb, -, -⟩; have z0 := kb.cell (p := ⟨w.heap.size, 0, none⟩) xb4 (unhide HOut _ (Nat.le_refl _)); have z1 := kb.cell (p := ⟨w.heap.size + 1, 0, none⟩) y0 (unhide HOut _ (Nat.le_succ _)); have z2 := kb.cell (p := ⟨w.heap.size + 1, 1, none⟩) y1 (unhide HOut _ (Nat.le_succ _)); have z3 := kb.cell (p := ⟨w.heap.size + 1, 2, none⟩) y2 (unhide HOut _ (Nat.le_succ _)); have z4 := kb.cell (p := ⟨w.heap.size + 1, 3, none⟩) y3 (unhide HOut _ (Nat.le_succ _)); have z5 := kb.cell (p := ⟨w.heap.size + 1, 4, none⟩) y4 (unhide HOut _ (Nat.le_succ _)); have z6 := kb.cell (p := ⟨w.heap.size + 1, 5, none⟩) y5 (unhide HOut _ (Nat.le_succ _)); have z7 := kb.cell (p := ⟨w.heap.size + 1, 6, none⟩) y6 (unhide HOut _ (Nat.le_succ _)); have HLb0 := hide hLb; have HFb0 := hide hFb; have HKb0 := hide kb; clear hLb hFb kb))
  rename_i hSk
  clear hSk z0 z1 z2 z3 z4 z5 z6 z7 y0 y1 y2 y3 y4 y5 y6 HLn HKl
  have hLb := unhide HLb0
  have hFb := unhide HFb0
  have kb := unhide HKb0
  clear HLb0 HFb0 HKb0
  clear xb4
  have Rb := R4.turnLog hLb kb
  have hbxb := kb.blk hbx4 (unhide HOut _ (Nat.le_refl _))
  have hxb := kb.blk hx4 (unhide HOut _ (by omega))
  have hrb := kb.blk hr4 (unhide HOut _ (by omega))
  have hob : IsOrd wb b (newOrd o) 0 := kb.blk ho4 (unhide HOut _ hb0)
  have kkb : Chg (fun x => x = bv ∨ V.lm.F x) w wb := kk4.of_non.trans kb
  obtain ⟨fO, mOb, fOb⟩ := Rb.orders
  simp only at mOb fOb
  obtain ⟨wm, hU, mOm, km⟩ := (mOb.kept ((Chg.refl Non wb).drew) (fun x => x)).put (x := b) law3 Tryz.underlying95 (by unfold maxLen; omega) (keyOf_int_mk Tryz.underlying3 hwf) trivial (by rw [fOb]; exact unhide hfree)
  have v1 : wb.cell? ⟨bv, 1, none⟩ = some (.map (some bo)) := Rb.ven.cell 1
  have xb5 : wb.cell? ⟨w.heap.size, 0, none⟩ = some (.pointer (some ⟨bv, 0, none⟩)) := hbxb.cell 0
  have x0 : wb.cell? ⟨w.heap.size + 1, 0, none⟩ = some (.int .i64 o.id) := hxb.cell 0
  have HMm := hide mOm
  have HKb := hide kb
  have HK4 := hide kk4
  have HR4 := hide R4
  clear mOm kb kk4 R4 hbx4 hx4 hr4 ho4 HBeg
  go_wp2
  go_region
  clear hU v1 x0 xb5
  have bnm : ∀ {b' : Nat} {c : Array Value} {t' : TypeId}, Blk wb b' c t' → Blk wm b' c t' := fun h => km.blk h.drew (Ne.symm (mOb.ne h))
  have hvm : IsLog wm bv bm bo V.lg.begun lmb := (hLb.kept0 (Chg.refl Non wb).drew).kept km (Ne.symm (mOb.ne hLb.ven)) (fun y hy e => by
    obtain ⟨c, t', hc, _⟩ := hLb.log.typ hy
    exact mOb.ne hc e.symm)
  have hbxm := bnm hbxb
  have xbm : wm.cell? ⟨w.heap.size, 0, none⟩ = some (.pointer (some ⟨bv, 0, none⟩)) := hbxm.cell 0
  have HNt := hide (note1 bv bm bo V.lg.begun lmb (.entered o.id) (.func 114) #[.pointer (some ⟨w.heap.size, 0, none⟩), .pointer (some ⟨w.heap.size + 1, 0, none⟩)] wm hvm (by show 0 < V.lg.na + 1; omega) (by show V.lg.na + 1 ≤ 3000000; omega) (by show 0 + 1 < 1000000000; omega))
  go_wp2_with fail
  refine (unhide HNt).mono ?_
  rintro e w5 ⟨rfl, lm5, hv5, hFn, kn⟩
  clear xbm
  change IsLog w5 bv bm bo (V.lg.opened o.id) lm5 at hv5
  have bne : ∀ {b' : Nat} {c : Array Value} {t' : TypeId}, Blk wb b' c t' → t' ≠ 103 → t' ≠ 62 → t' ≠ 105 → t' ≠ 109 → t' ≠ 1 ∧ t' ≠ 5 → Blk w5 b' c t' := fun h h1 h2 h3 h4 h5 => kn.blk (bnm h) (hvm.log.ne (bnm h) h1 h2 h3 h4 h5)
  have ho5 : IsOrd w5 b (newOrd o) 0 := bne hob (by decide) (by decide) (by decide) (by decide) (by decide)
  have hr5 := bne hrb (by decide) (by decide) (by decide) (by decide) (by decide)
  have hbx5 := bne hbxb (by decide) (by decide) (by decide) (by decide) (by decide)
  have hFm : ∀ x, lmb.F x → V.lm.F x ∨ w.heap.size ≤ x := fun x hx => (hFb x hx).imp_right (fun h => Nat.le_trans (unhide HK4).size h)
  have kkm : Chg (fun x => x = bo ∨ x = bv ∨ V.lm.F x) w wm := (kkb.mono (fun x h => .inr h)).drew.trans (km.mono (fun x h => .inl h))
  have hF5 : ∀ x, lm5.F x → V.lm.F x ∨ w.heap.size ≤ x := fun x hx => by
    rcases hFn x hx with h | h
    · exact hFm x h
    · exact .inr (Nat.le_trans kkm.size h)
  have kk5 : Chg (fun x => x = bo ∨ x = bv ∨ V.lm.F x) w w5 := kkm.from (kn.mono (fun x h => (hFm x h).imp_left (fun h => .inr (.inr h))))
  have hlo4 : ∀ x, x < 2 → ∀ y, SdB (V.B i) x y → y < w.heap.size := fun x hx y h => by
    rcases h with h | ⟨l, hl, rfl⟩
    · exact (((unhide HR).book i hi).side x hx).lt h
    · exact ((((unhide HR).book i hi).side x hx).ords hl).lt
  have kb5 : Chg (fun x => x = bo ∨ lmb.F x) wb w5 := ((Chg.refl (fun x => x = bo ∨ lmb.F x) wb).drew.trans (km.mono (fun x h => .inl h))).trans (kn.mono (fun x h => .inr h))
  have hnoS : ∀ x c t, Blk wb x c t → (t = 158 ∨ t = 114 ∨ t = 116) → ¬ (x = bo ∨ lmb.F x) := by
    rintro x c t' hx ht' (e | e)
    · exact mOb.ne hx e.symm
    · exact hLb.log.ne hx (by rcases ht' with rfl | rfl | rfl <;> decide) (by rcases ht' with rfl | rfl | rfl <;> decide) (by rcases ht' with rfl | rfl | rfl <;> decide) (by rcases ht' with rfl | rfl | rfl <;> decide) (by rcases ht' with rfl | rfl | rfl <;> decide) e
  have hbook0 : IsBook w5 (V.bk i) (V.B i) V.om := (Rb.book i hi).keptT kb5 hnoS
  have hbook5 : IsBook w5 (V.bk i) (V.B i) (upd V.om b (newOrd o)) := by
    refine ⟨hbook0.blk, fun x hx => (hbook0.side x hx).om (fun l hl => upd_other _ _ (fun e => ?_)), hbook0.apart, hbook0.disj⟩
    have := hlo4 x hx _ (.inr ⟨l, hl, rfl⟩)
    omega
  have hmk5 : Mk w5 (V.bk i) (V.B i) (upd V.om b (newOrd o)) (fun x => x = b ∨ ∃ id, V.oid id = some x) := by
    refine ⟨hbook5, fun x hx => ?_, fun x hx l hl => .inr ((unhide HR).mem i hi x hx l hl)⟩
    rcases hx with rfl | ⟨id, hx⟩
    · rw [upd_same]; exact ⟨0, ho5⟩
    · obtain ⟨_, ix, h⟩ := (unhide HR).ords id x hx
      have := h.lt
      obtain ⟨_, ix4, h4⟩ := Rb.ords id x hx
      rw [upd_other _ _ (by omega)]
      exact ⟨ix4, kb5.blk h4 (hnoS _ _ _ h4 (.inr (.inr rfl)))⟩
  have mO5 : MapP w5 3 bo (putF fO (.int .i64 o.id) b) (V.no + 1) := (unhide HMm).kept kn (fun e => by
    obtain ⟨c, t', hc, _⟩ := hvm.log.typ e
    exact (unhide HMm).ne hc rfl)
  have HM5 := hide mO5
  have xb6 : w5.cell? ⟨w.heap.size, 0, none⟩ = some (.pointer (some ⟨bv, 0, none⟩)) := hbx5.cell 0
  clear mO5 HNt HMm HKb HK4 HR4 kb5 hnoS hbook0 bnm hbxb hxb hrb hob hbxm hvm kkm kkb kn km Rb hLb hFb hFn
  have hT := unhide HT
  have iv5 : Inv b s ⟨V.B i, upd V.om b (newOrd o), V.lg.opened o.id⟩ := by
    refine ⟨fun l hl => ?_, (hbook5.side s hs).inj, ?_, ?_, ?_⟩
    · have hlt := hlo4 s hs _ (.inr ⟨l, hl, rfl⟩)
      simp only
      rw [upd_other _ _ (by omega)]
      exact ⟨(hinv l hl).1, (hinv l hl).2.1, (hinv l hl).2.2, by omega⟩
    · simp only [upd_same, newOrd]; omega
    · simp only [upd_same, newOrd]; omega
    · simp only [upd_same, newOrd]; rw [unhide HSD]; omega
  have hcome := come_any bv (V.bk i) b s t bm bo ⟨V.B i, upd V.om b (newOrd o), V.lg.opened o.id⟩ lm5 (fun x => x = b ∨ ∃ id, V.oid id = some x) w5 hv5 hmk5 hs hT (.inl rfl) iv5 (fun x hx l hl => by
    have := hlo4 x hx _ (.inr ⟨l, hl, rfl⟩)
    simp only
    omega) (by simp only; omega) 999999999 (by omega) (by unfold mu; simp only [Lg.opened, Lg.begun, Lg.noted]; split <;> omega) (by unfold mu; simp only [Lg.opened, Lg.begun, Lg.noted]; split <;> omega) (by simp only [Lg.opened, Lg.begun, Lg.noted]; omega) (by simp only [Lg.opened, Lg.begun, Lg.noted]; omega) (by unfold mu; simp only [Lg.opened, Lg.begun, Lg.noted, List.length_append, List.length_cons, List.length_nil]; split <;> omega)
  have fin : ∀ v6 w6 w7, ComePost bv (V.bk i) b s t bm bo ⟨V.B i, upd V.om b (newOrd o), V.lg.opened o.id⟩ lm5 (fun x => x = b ∨ ∃ id, V.oid id = some x) w5 v6 w6 → Chg (fun x => x = w.heap.size + 2) w6 w7 → EnterPost bv bm bo i s t V o w (.tuple #[v6, .int .i64 0]) w7 := by
    rintro v6 w6 w7 ⟨hv6, g, cap', lm', hm6, hb6, hf6, k6, hg6⟩ k7
    have hR : Rep w6 bv bm bo (V.enter i b s t g cap' o lm') := by
      refine (unhide HR).enter hi hs hT h8 (unhide hfree) hb0 ho5 hv5 hF5 kk5 ⟨_, unhide HM5, fun id => ?_⟩ iv5 rfl hm6 hb6 k6 hg6
      by_cases e : id = o.id
      · rw [if_pos e, e, putF_same (kl := .int .i64 o.id) trivial]
      · rw [if_neg e, putF_other (kl := .int .i64 o.id) (k := .int .i64 id) trivial (fun h => e (by simpa using h)), fOb]
    have sdF : ∀ x, x < 2 → ∀ y, SdB (V.B i) x y → Foot bv bm bo V y := fun x hx y h => .inr (.inr (.inr (.inl ⟨i, hi, .inr ⟨x, hx, h⟩⟩)))
    have kF : Chg (Foot bv bm bo V) w w6 := by
      refine (kk5.mono (S' := Foot bv bm bo V) (fun x h => by rcases h with h | h | h; exact .inr (.inr (.inl h)); exact .inl h; exact .inr (.inr (.inr (.inr (.inr h)))))).from (k6.mono (fun x h => ?_))
      rcases h with h | h | h | h | h | h
      · exact .inl (.inl h)
      · exact (hF5 x h).imp_left (fun h => .inr (.inr (.inr (.inr (.inr h)))))
      · exact .inl (.inr (.inr (.inr (.inl ⟨i, hi, .inl h⟩))))
      · right; omega
      · exact .inl (sdF s hs x h)
      · exact .inl (sdF t (by omega) x h)
    have hnew7 : ¬ Foot bv bm bo (V.enter i b s t g cap' o lm') (w.heap.size + 2) := hR.foot (c := zero5) (t := 87) (k6.blk hr5 (by
      rintro (h | h | h | h | h | h)
      · have := (unhide HR).ven.lt; omega
      · exact hv5.log.ne hr5 (by decide) (by decide) (by decide) (by decide) (by decide) h
      · have := ((unhide HR).book i hi).blk.lt; omega
      · exact Blk.ne ho5 hr5 (by decide) h.symm
      · have := hlo4 s hs _ h; omega
      · have := hlo4 t (by omega) _ h; omega)) (by decide) (by decide) (by decide) (by decide) (by decide) (by decide) (by decide)
    have hR7 : Rep w7 bv bm bo (V.enter i b s t g cap' o lm') := by
      obtain ⟨gB, nB, g1, g2⟩ := hR.books
      obtain ⟨gO, nO, g3⟩ := hR.orders
      have nf : ∀ x, Foot bv bm bo (V.enter i b s t g cap' o lm') x → ¬ x = w.heap.size + 2 := fun x h e => hnew7 (e ▸ h)
      exact ⟨hR.log.kept k7 (nf _ (.inl rfl)) (fun y hy => nf y (.inr (.inr (.inr (.inr (.inr hy)))))), ⟨gB, nB.kept k7 (nf _ (.inr (.inl rfl))), g1, g2⟩, ⟨gO, nO.kept k7 (nf _ (.inr (.inr (.inl rfl)))), g3⟩, hR.mne,
        fun j hj => (hR.book j hj).kept k7 (fun x hx => nf x (by
          rcases hx with h | ⟨y, hy, h⟩
          · exact .inr (.inr (.inr (.inl ⟨j, hj, .inl h⟩)))
          · exact .inr (.inr (.inr (.inl ⟨j, hj, .inr ⟨y, hy, h⟩⟩))))),
        fun id x h => ⟨(hR.ords id x h).1, (hR.ords id x h).2.elim fun ix ho => ⟨ix, k7.blk ho (nf x (.inr (.inr (.inr (.inr (.inl ⟨id, h⟩))))))⟩⟩, hR.mem, hR.sepb, hR.seps, hR.no200⟩
    refine ⟨b, g, cap', lm', hb0, by rw [hv6]; simp only [upd_same]; rfl, hR7, kF.from (k7.mono (fun x h => .inr (by omega))), fun x hx => ?_, ?_⟩
    · rcases hx with h | h | h | ⟨j, hj, h⟩ | ⟨id, h⟩ | h
      · exact .inl (.inl h)
      · exact .inl (.inr (.inl h))
      · exact .inl (.inr (.inr (.inl h)))
      · rcases h with h | ⟨y, hy, h⟩
        · exact .inl (.inr (.inr (.inr (.inl ⟨j, hj, .inl h⟩))))
        · by_cases e : j = i
          · subst e
            simp only [Ven.enter, upd_same] at h
            rcases comeB_sd h with h | h | h
            · left
              refine .inr (.inr (.inr (.inl ⟨j, hi, .inr ⟨y, hy, ?_⟩⟩)))
              obtain ⟨f1, f2, _⟩ := matchF_frame b s (mu b s ⟨V.B j, upd V.om b (newOrd o), V.lg.opened o.id⟩) ⟨V.B j, upd V.om b (newOrd o), V.lg.opened o.id⟩
              by_cases es : y = s
              · subst es
                exact (matchF_om _ _ iv5).2.2.1 x h
              · change SdB (mF b s ⟨V.B j, upd V.om b (newOrd o), V.lg.opened o.id⟩).B y x at h
                unfold SdB mF at h
                rw [f2, (f1 y es).1, (f1 y es).2] at h
                exact h
            · right; omega
            · rcases hg6 with h' | h'
              · exact .inl (sdF t (by omega) x (.inl (by rw [h]; exact h')))
              · right
                have := kk5.size
                omega
          · simp only [Ven.enter, upd_other _ _ e] at h
            exact .inl (.inr (.inr (.inr (.inl ⟨j, hj, .inr ⟨y, hy, h⟩⟩))))
      · simp only [Ven.enter] at h
        split at h
        · simp at h; right; omega
        · exact .inl (.inr (.inr (.inr (.inr (.inl ⟨id, h⟩)))))
      · rcases hf6 x h with h | h
        · exact (hF5 x h).imp_left (fun h => .inr (.inr (.inr (.inr (.inr h)))))
        · right
          have := kk5.size
          omega
    · rcases hg6 with h' | h'
      · exact .inl h'
      · right
        have := kk5.size
        omega
  have res6 : ∀ v6 w6, ComePost bv (V.bk i) b s t bm bo ⟨V.B i, upd V.om b (newOrd o), V.lg.opened o.id⟩ lm5 (fun x => x = b ∨ ∃ id, V.oid id = some x) w5 v6 w6 → Blk w6 (w.heap.size + 2) zero5 87 := by
    rintro v6 w6 ⟨_, g, cap', lm', _, _, _, k6, _⟩
    refine k6.blk hr5 ?_
    rintro (h | h | h | h | h | h)
    · have := (unhide HR).ven.lt; omega
    · exact hv5.log.ne hr5 (by decide) (by decide) (by decide) (by decide) (by decide) h
    · have := ((unhide HR).book i hi).blk.lt; omega
    · exact Blk.ne ho5 hr5 (by decide) h.symm
    · have := hlo4 s hs _ h; omega
    · have := hlo4 t (by omega) _ h; omega
  have HQ6 := hide res6
  clear res6
  have HC := hide hcome
  have HF := hide fin
  have HR5 := hide hr5
  clear fin hcome iv5 hmk5 hbook5 hlo4 kk5 hr5 hv5 ho5 bne HM5 hT hF5 hFm hbx5
  go_wp2_with fail
  refine (unhide HC).mono ?_
  rintro e w6 ⟨v6, rfl, hp6⟩
  obtain ⟨f, r, c, a, n, hrep⟩ := rep_form ((⟨V.B i, upd V.om b (newOrd o), V.lg.opened o.id⟩ : MS).om b) (comeOm b (mF b s ⟨V.B i, upd V.om b (newOrd o), V.lg.opened o.id⟩) b) V.tr (mF b s ⟨V.B i, upd V.om b (newOrd o), V.lg.opened o.id⟩).tr
  have hv6 : v6 = .agg #[.int .i64 f, .int .i64 r, .int .i64 c, .int .i64 a, .int .i64 n] := by rw [hp6.1]; exact hrep
  have hr6 : Blk w6 (w.heap.size + 2) zero5 87 := unhide HQ6 _ _ hp6
  have HP := hide hp6
  clear hp6 hrep
  rw [hv6] at HP
  rw [hv6]
  have r0 : w6.cell? ⟨w.heap.size + 2, 0, none⟩ = some (.int .i64 0) := hr6.cell 0
  have r1 : w6.cell? ⟨w.heap.size + 2, 1, none⟩ = some (.int .i64 0) := hr6.cell 1
  have r2 : w6.cell? ⟨w.heap.size + 2, 2, none⟩ = some (.int .i64 0) := hr6.cell 2
  have r3 : w6.cell? ⟨w.heap.size + 2, 3, none⟩ = some (.int .i64 0) := hr6.cell 3
  have r4 : w6.cell? ⟨w.heap.size + 2, 4, none⟩ = some (.int .i64 0) := hr6.cell 4
  have q0 := hr6.frozen 0
  have q1 := hr6.frozen 1
  have q2 := hr6.frozen 2
  have q3 := hr6.frozen 3
  have q4 := hr6.frozen 4
  clear hv6
  go_wp2
  refine bodyPost_ret (res9 _ (w.heap.size + 2) _ f r c a n rfl rfl ?_) rfl ⟨_, rfl, unhide HF _ _ _ (unhide HP) ?_⟩
  · exact ((((hr6.set 0 _).set 1 _).set 2 _).set 3 _).set 4 _
  · exact (((((Chg.refl (fun x => x = w.heap.size + 2) w6).setCell (p := ⟨w.heap.size + 2, 0, none⟩) (.inl rfl) _).setCell (p := ⟨w.heap.size + 2, 1, none⟩) (.inl rfl) _).setCell (p := ⟨w.heap.size + 2, 2, none⟩) (.inl rfl) _).setCell (p := ⟨w.heap.size + 2, 3, none⟩) (.inl rfl) _).setCell (p := ⟨w.heap.size + 2, 4, none⟩) (.inl rfl) _

theorem res9E (tmps : Array Value) (H : Nat) (w : World) (a b c d e E : Int) (ht : tmps.getD 4 undef = .pointer (some ⟨H, 0, none⟩)) (hu : tmps.getD 5 undef = .int .i64 E) (hb : Blk w H #[.int .i64 a, .int .i64 b, .int .i64 c, .int .i64 d, .int .i64 e] 87) :
    (results Tryz.f64 tmps).run Tryz.prog w = .ok (.tuple #[.agg #[.int .i64 a, .int .i64 b, .int .i64 c, .int .i64 d, .int .i64 e], .int .i64 E]) w := by
  have c0 : w.cell? ⟨H, 0, none⟩ = some (.int .i64 a) := hb.cell 0
  have c1 : w.cell? ⟨H, 1, none⟩ = some (.int .i64 b) := hb.cell 1
  have c2 : w.cell? ⟨H, 2, none⟩ = some (.int .i64 c) := hb.cell 2
  have c3 : w.cell? ⟨H, 3, none⟩ = some (.int .i64 d) := hb.cell 3
  have c4 : w.cell? ⟨H, 4, none⟩ = some (.int .i64 e) := hb.cell 4
  simp only [Array.getD_eq_getD_getElem?] at ht hu
  simp [results, Tryz.results64, go_sem, ht, hu, c0, c1, c2, c3, c4]

set_option maxHeartbeats 1000000 in
set_option maxRecDepth 100000 in
theorem enter_err (bv : Nat) (o : Ask) (E : Int) (w : World) (hE : E ≠ 0) (hrf : ∀ W, Chg Non w W → Calls Tryz.prog 111 #[.pointer (some ⟨bv, 0, none⟩), o.val] W fun e w' => e = .returned (.int .i64 E) ∧ Chg Non W w') :
    Calls Tryz.prog 64 #[.pointer (some ⟨bv, 0, none⟩), o.val] w fun e w' => e = .returned (.tuple #[.agg #[.int .i64 0, .int .i64 0, .int .i64 0, .int .i64 0, .int .i64 0], .int .i64 E]) ∧ Chg Non w w' := by
  have e0 : (E != 0) = true := by simp [hE]
  obtain ⟨w1, hw1⟩ : ∃ w1, w1 = ((w.alloc (.cells #[.pointer (some ⟨bv, 0, none⟩)] 35)).alloc (.cells (askC o) 52)).alloc (.cells zero5 87) := ⟨_, rfl⟩
  have k1 : Chg Non w w1 := by rw [hw1]; exact (((Chg.refl Non w).alloc _).alloc _).alloc _
  have hr1 : Blk w1 (w.heap.size + 2) zero5 87 := by rw [hw1]; exact Blk.new2' w _ _ _ _
  have HX := hide (hrf w1 k1)
  have ls2 : w.heap.size < w.heap.size + 1 + 1 := by omega
  have HW1 : Hid (w1 = ((w.alloc (.cells #[.pointer (some ⟨bv, 0, none⟩)] 35)).alloc (.cells #[.int .i64 o.id, .int .i64 o.owner, .string o.sym, .int .i64 o.side, .int .i64 o.kind, .int .i64 o.price, .int .i64 o.qty] 52)).alloc (.cells #[.int .i64 0, .int .i64 0, .int .i64 0, .int .i64 0, .int .i64 0] 87)) := hw1
  clear hrf hw1 hE
  simp only [Ask.val]
  go_enter Tryz.func64, Tryz.ntmps64
  go_wp2_with fail
  rw [← unhide HW1]
  refine (unhide HX).mono ?_
  rintro e w2 ⟨rfl, k2⟩
  have hr2 := k2.blk hr1 (fun x => x)
  have r0 : w2.cell? ⟨w.heap.size + 2, 0, none⟩ = some (.int .i64 0) := hr2.cell 0
  have r1 : w2.cell? ⟨w.heap.size + 2, 1, none⟩ = some (.int .i64 0) := hr2.cell 1
  have r2 : w2.cell? ⟨w.heap.size + 2, 2, none⟩ = some (.int .i64 0) := hr2.cell 2
  have r3 : w2.cell? ⟨w.heap.size + 2, 3, none⟩ = some (.int .i64 0) := hr2.cell 3
  have r4 : w2.cell? ⟨w.heap.size + 2, 4, none⟩ = some (.int .i64 0) := hr2.cell 4
  have q0 := hr2.frozen 0
  have q1 := hr2.frozen 1
  have q2 := hr2.frozen 2
  have q3 := hr2.frozen 3
  have q4 := hr2.frozen 4
  have sz := k1.size
  go_wp2
  refine bodyPost_ret (res9E _ (w.heap.size + 2) _ 0 0 0 0 0 E rfl rfl ?_) rfl ⟨rfl, ?_⟩
  · exact ((((hr2.set 0 _).set 1 _).set 2 _).set 3 _).set 4 _
  · exact (((((k1.trans k2).setCell (p := ⟨w.heap.size + 2, 0, none⟩) (.inr (by simp)) _).setCell (p := ⟨w.heap.size + 2, 1, none⟩) (.inr (by simp)) _).setCell (p := ⟨w.heap.size + 2, 2, none⟩) (.inr (by simp)) _).setCell (p := ⟨w.heap.size + 2, 3, none⟩) (.inr (by simp)) _).setCell (p := ⟨w.heap.size + 2, 4, none⟩) (.inr (by simp)) _

end Go.Proofs.YtigaphnafnpfnaaGreatDoor

