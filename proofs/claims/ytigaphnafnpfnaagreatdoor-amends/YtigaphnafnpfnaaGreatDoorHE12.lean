import Derived.Test.YtigaphnafnpfnaaGreatDoorHF1
import Derived.Test.YtigaphnafnpfnaaGreatDoorHE9
import Derived.Test.YtigaphnafnpfnaaGreatDoorHJ5
import Derived.OpenShut
/- Cancel -/
set_option linter.unusedVariables false
set_option linter.unusedSimpArgs false
namespace Go.Proofs.YtigaphnafnpfnaaGreatDoor
open Go.RowKit Go.Maps
attribute [local go_sem ↓] Go.wp_at_zero Go.wp_at_succ

set_option maxRecDepth 100000 in
set_option maxHeartbeats 4000000 in
theorem cancel_unknown (bv bm bo : Nat) (V : Ven) (id : Int) (w : World) (R : Rep w bv bm bo V) (hid : (Lit.int .i64 id).wf = true) (hn : V.oid id = none) :
    Calls Tryz.prog 37 #[.pointer (some ⟨bv, 0, none⟩), .int .i64 id] w fun e w' => e = .returned (.int .i64 6) ∧ Chg Non w w' := by
  have L2 := R.lookO hid
  rw [hn] at L2
  simp only [ptrO] at L2
  have v1 : w.cell? ⟨bv, 1, none⟩ = some (.map (some bo)) := R.ven.cell 1
  clear R hn
  go_enter Tryz.func37, Tryz.ntmps37
  go_wp2
  go_ret
  exact ⟨rfl, by repeat (first | exact Chg.refl _ _ | refine Chg.drewN ?_ _ | refine Chg.drew ?_)⟩

set_option maxRecDepth 100000 in
set_option maxHeartbeats 4000000 in
theorem cancel_closed (bv bm bo b : Nat) (V : Ven) (id : Int) (w : World) (R : Rep w bv bm bo V) (hid : (Lit.int .i64 id).wf = true) (hn : V.oid id = some b) (h0 : (V.om b).opn = 0) :
    Calls Tryz.prog 37 #[.pointer (some ⟨bv, 0, none⟩), .int .i64 id] w fun e w' => e = .returned (.int .i64 10) ∧ Chg Non w w' := by
  have L2 := R.lookO hid
  rw [hn] at L2
  simp only [ptrO] at L2
  obtain ⟨_, ix, ho⟩ := R.ords id b hn
  have o8 : w.cell? ⟨b, 8, none⟩ = some (.int .i64 0) := by rw [← h0]; exact ho.cell 8
  have v1 : w.cell? ⟨bv, 1, none⟩ = some (.map (some bo)) := R.ven.cell 1
  clear R hn ho h0
  go_enter Tryz.func37, Tryz.ntmps37
  go_wp2
  go_ret
  exact ⟨rfl, by repeat (first | exact Chg.refl _ _ | refine Chg.drewN ?_ _ | refine Chg.drew ?_)⟩

#print axioms cancel_closed
end Go.Proofs.YtigaphnafnpfnaaGreatDoor

/- Book -/
set_option linter.unusedVariables false
set_option linter.unusedSimpArgs false
namespace Go.Proofs.YtigaphnafnpfnaaGreatDoor
open Go.RowKit Go.Maps
attribute [local go_sem ↓] Go.wp_at_zero Go.wp_at_succ

theorem Rep.lookBq {w : World} {bv bm bo : Nat} {V : Ven} (R : Rep w bv bm bo V) {i : Nat} (hi : i < V.nb) (hlen : (V.B i).sym.size ≤ maxLen) (q : Nat) :
    (Instr.lookup 94 (.map (some bm)) (.string (V.B i).sym) false).run Tryz.prog (w.drewN q) = .ok (.pointer (some ⟨V.bk i, 0, none⟩)) (w.drewN q) :=
  (R.kept0 ((Chg.refl Non w).drewN q)).lookB hi hlen

set_option maxRecDepth 100000 in
set_option maxHeartbeats 4000000 in
theorem book_ok (bv bm bo i s : Nat) (V : Ven) (w : World) (R : Rep w bv bm bo V) (hi : i < V.nb) (hs : s < 2) (hlen : (V.B i).sym.size ≤ maxLen) (hside : ∀ j, j < (V.B i).n s → (V.om ((V.B i).h s j)).side = (s : Int)) :
    Calls Tryz.prog 25 #[.pointer (some ⟨bv, 0, none⟩), .string (V.B i).sym, .int .i64 s] w fun e w' => ∃ v, e = .returned (.tuple #[v, .int .i64 0]) ∧ LevelsPost V.om ((V.B i).n s) ((V.B i).h s) w v w' := by
  have L1 := R.lookB hi hlen
  have v0 : w.cell? ⟨bv, 0, none⟩ = some (.map (some bm)) := R.ven.cell 0
  have hsb : sideB (s : Int) = true := by
    have : s = 0 ∨ s = 1 := by omega
    rcases this with rfl | rfl <;> rfl
  have HL := hide (levels_any (V.bk i) s (V.B i) V.om w (R.book i hi) hs hside)
  clear R hside
  go_enter Tryz.func25, Tryz.ntmps25
  go_wp2_with (first | (go_at_call 47; refine (isSide_any _ _).mono ?_; rintro e w' ⟨rfl, rfl⟩) | (go_at_call 48; refine (unhide HL).mono ?_; rintro e w2 ⟨v, rfl, hp⟩))
  go_ret2
  exact ⟨v, rfl, hp⟩

#print axioms book_ok
end Go.Proofs.YtigaphnafnpfnaaGreatDoor

/- Cancel, where something is open -/
set_option linter.unusedVariables false
set_option linter.unusedSimpArgs false
namespace Go.Proofs.YtigaphnafnpfnaaGreatDoor
open Go.RowKit Go.Maps
attribute [local go_sem ↓] Go.wp_at_zero Go.wp_at_succ

/-- an act was begun, and what it noted -/
def Acted (bv bm bo : Nat) (G : Lg) (lm : Lm) (ds : List Back) (w w' : World) : Prop :=
  ∃ lm', IsLog w' bv bm bo (G.begun.noted ds) lm' ∧ (∀ x, lm'.F x → lm.F x ∨ w.heap.size ≤ x)

set_option maxRecDepth 100000 in
set_option maxHeartbeats 4000000 in
theorem cancel_ok (bv bm bo i s k : Nat) (V : Ven) (id : Int) (w : World) (R : Rep w bv bm bo V) (hT : Tab w) (hid : (Lit.int .i64 id).wf = true) (hi : i < V.nb) (hs : s < 2) (hk : k < (V.B i).n s) (hn : V.oid id = some ((V.B i).h s k)) (h0 : (V.om ((V.B i).h s k)).opn ≠ 0)
    (hside : (V.om ((V.B i).h s k)).side = (s : Int)) (hsym : (V.om ((V.B i).h s k)).sym = (V.B i).sym) (hlen : (V.B i).sym.size ≤ maxLen) (hna : V.lg.na < 1000000) :
    Calls Tryz.prog 37 #[.pointer (some ⟨bv, 0, none⟩), .int .i64 id] w fun e w' => e = .returned (.int .i64 0) ∧
      Mk w' (V.bk i) ((V.B i).leave V.om s k) (upd V.om ((V.B i).h s k) (cancO (V.om ((V.B i).h s k)))) (fun x => ∃ id, V.oid id = some x) ∧ Acted bv bm bo V.lg V.lm [.left ((V.B i).h s k), .now ((V.B i).h s k) (V.om ((V.B i).h s k))] w w' ∧ Chg (fun x => x = bv ∨ V.lm.F x ∨ x = V.bk i ∨ SdB (V.B i) s x) w w' := by
  have L2 := R.lookO hid
  rw [hn] at L2
  simp only [ptrO] at L2
  obtain ⟨_, ix, ho⟩ := R.ords id _ hn
  have o8 : w.cell? ⟨(V.B i).h s k, 8, none⟩ = some (.int .i64 (V.om ((V.B i).h s k)).opn) := ho.cell 8
  have e0 : ((V.om ((V.B i).h s k)).opn == 0) = false := by simp [h0]
  have v1 : w.cell? ⟨bv, 1, none⟩ = some (.map (some bo)) := R.ven.cell 1
  have hLs := lines_from ⟨#[99, 97, 110, 99, 101, 108]⟩ (fun _ => id) 1 w hT (by decide) (by decide) (by omega) (fun _ _ => bounds_i64 hid)
  generalize lineF (fun _ => id) ⟨#[99, 97, 110, 99, 101, 108]⟩ 1 = ln at hLs
  have HBeg := hide (begin_from bv bm bo V.lg V.lm ln w R.log hna hLs.1.1 hLs.1.2)
  have HLs := hide hLs.2
  clear hLs
  have HR := hide R
  have HN := hide hn
  have HSym := hide hsym
  have HSd := hide hside
  clear R hn ho h0 hsym hside
  go_enter Tryz.func37, Tryz.ntmps37
  go_wp2_with fail
  refine (unhide HLs _ ((Chg.refl Non w).alloc _) _ _ (fun i hi => by obtain rfl : i = 0 := (by omega); exact (Blk.new w _ _).cell 0)).mono ?_
  rintro e wl ⟨rfl, kl⟩
  have HKl := hide kl
  clear kl
  go_wp2_with fail
  refine (unhide HBeg _ (unhide HKl)).mono ?_
  rintro e wb ⟨rfl, lmb, hLb, hFb, kb, -, -⟩
  clear HLs HKl
  clear L2 o8 e0 v1
  have Rb := (unhide HR).turnLog hLb kb
  have hnb : ({ V with lg := V.lg.begun, lm := lmb } : Ven).oid id = some ((V.B i).h s k) := unhide HN
  obtain ⟨_, ix, ho⟩ := Rb.ords id _ hnb
  have o2 : wb.cell? ⟨(V.B i).h s k, 2, none⟩ = some (.string (V.B i).sym) := by rw [← unhide HSym]; exact Blk.cell ho 2
  have v0 : wb.cell? ⟨bv, 0, none⟩ = some (.map (some bm)) := Rb.ven.cell 0
  have L1 : (Instr.lookup 94 (.map (some bm)) (.string (V.B i).sym) false).run Tryz.prog wb = .ok (.pointer (some ⟨V.bk i, 0, none⟩)) wb := Rb.lookB hi hlen
  have L1d : (Instr.lookup 94 (.map (some bm)) (.string (V.B i).sym) false).run Tryz.prog wb.drew = .ok (.pointer (some ⟨V.bk i, 0, none⟩)) wb.drew := Rb.lookBq hi hlen 1
  have HL := hide (fun q => leave_mk (V.bk i) (V.B i) V.om (fun x => ∃ id, V.oid id = some x) s k (wb.drewN q) ((Rb.kept0 ((Chg.refl Non wb).drewN q)).mkt hi) hs hk (unhide HSd))
  have HC := hide (fun (W : World) (m : Mk W (V.bk i) ((V.B i).leave V.om s k) V.om (fun x => ∃ id, V.oid id = some x)) => cancelOpen_mk (V.bk i) ((V.B i).h s k) ((V.B i).leave V.om s k) V.om _ W m ⟨id, unhide HN⟩)
  have HNt : Hid (∀ q w2 w3 fn2 cp2 fn3 cp3, Mk w2 (V.bk i) ((V.B i).leave V.om s k) V.om (fun x => ∃ id, V.oid id = some x) → Chg (fun x => x = V.bk i ∨ SdB (V.B i) s x) (wb.drewN q) w2 → Mk w3 (V.bk i) ((V.B i).leave V.om s k) (upd V.om ((V.B i).h s k) (cancO (V.om ((V.B i).h s k)))) (fun x => ∃ id, V.oid id = some x) → Chg (fun x => x = (V.B i).h s k) w2 w3 →
      Calls Tryz.prog 53 #[.pointer (some ⟨bv, 0, none⟩), .slice (some ⟨w3.heap.size, 0, none⟩) 2 2] (w3.alloc (.cells #[.func fn2 #[] cp2, .func fn3 #[] cp3] 1)) fun e w' => e = .returned (.tuple #[]) ∧
        Mk w' (V.bk i) ((V.B i).leave V.om s k) (upd V.om ((V.B i).h s k) (cancO (V.om ((V.B i).h s k)))) (fun x => ∃ id, V.oid id = some x) ∧ Acted bv bm bo V.lg V.lm [.left ((V.B i).h s k), .now ((V.B i).h s k) (V.om ((V.B i).h s k))] w w' ∧ Chg (fun x => x = bv ∨ V.lm.F x ∨ x = V.bk i ∨ SdB (V.B i) s x) w w') := by
    intro q w2 w3 fn2 cp2 fn3 cp3 m2 k2 m3 k3
    have h2 := (hLb.kept0 ((Chg.refl Non wb).drewN q)).keptT k2 (fun x h => ((Rb.kept0 ((Chg.refl Non wb).drewN q)).mkt hi).typ (by
      rcases h with h | h
      · exact .inl h
      · exact .inr (.inr ⟨s, hs, h⟩)))
    have h3 := h2.keptT k3 (fun x h => by subst h; exact m2.typ (.inr (.inl ⟨id, unhide HN⟩)))
    refine (note2 bv bm bo _ lmb (.left ((V.B i).h s k)) (.now ((V.B i).h s k) (V.om ((V.B i).h s k))) fn2 fn3 cp2 cp3 w3 h3 (by show 0 < V.lg.na + 1; omega) (by show V.lg.na + 1 ≤ 1000000; omega) (by show 0 + 2 < 1000000; omega)).mono ?_
    rintro e w' ⟨rfl, lm', a1, a2, a3⟩
    have kb' : Chg (fun x => x = bv ∨ V.lm.F x ∨ x = V.bk i ∨ SdB (V.B i) s x) w wb := kb.mono (fun x h => h.imp_right .inl)
    have kc3 := (kb'.drewN q).trans ((k2.mono (fun x h => .inr (.inr h))).trans (k3.mono (fun x h => .inr (.inr (.inr (.inr ⟨k, hk, h⟩))))))
    refine ⟨rfl, m3.keptLog h3 (a3.mono (fun _ h => .inr h)), ⟨lm', a1, fun x hx => ?_⟩, kc3.from (a3.mono (fun x h => (hFb x h).imp_left (fun h => .inr (.inl h))))⟩
    rcases a2 x hx with h | h
    · exact hFb x h
    · exact .inr (Nat.le_trans kc3.size h)
  clear ho hnb Rb hLb hFb kb HBeg HR HSym HSd HN
  go_wp2
  go_region_with (first | (go_at_call 66; refine (unhide HL _).mono ?_; rintro e w2 ⟨fn2, cp2, rfl, -, m2, c2⟩) | (go_at_call 67; refine (unhide HC _ m2).mono ?_; rintro e w3 ⟨fn3, cp3, rfl, -, m3, c3⟩) | (go_at_call 53; refine (unhide HNt _ w2 w3 fn2 cp2 fn3 cp3 m2 c2 m3 c3).mono ?_; rintro e w4 ⟨rfl, r4⟩))
  all_goals
    go_wp2
    go_ret
    exact ⟨rfl, r4⟩

#print axioms cancel_ok

end Go.Proofs.YtigaphnafnpfnaaGreatDoor

