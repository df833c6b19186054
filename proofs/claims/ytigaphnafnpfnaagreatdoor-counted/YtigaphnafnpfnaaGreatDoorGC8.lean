import Derived.Test.YtigaphnafnpfnaaGreatDoorGC7
set_option linter.unusedVariables false
set_option linter.unusedSimpArgs false
namespace Go.Proofs.YtigaphnafnpfnaaGreatDoor
open Go.RowKit Go.Maps Go.Lib
attribute [local go_sem ↓] Go.wp_at_zero Go.wp_at_succ

theorem sl_inj {s s' : ByteArray} (h : sl s = sl s') : s = s' := by
  simp only [sl, Lit.string.injEq] at h
  exact ByteArray.ext (Array.ext' h)

/-- the venue behind a List -/
def Ven.listed (V : Ven) (s : ByteArray) (b : Nat) (lm' : Lm) : Ven := { V.list s b with lg := V.lg.begun.noted [.listed s], lm := lm' }

set_option maxHeartbeats 2000000 in
set_option maxRecDepth 100000 in
theorem list_ok (bv bm bo : Nat) (V : Ven) (s : ByteArray) (w : World) (R : Rep w bv bm bo V) (hn : NameSays s true) (hlen : s.size ≤ 100) (hfree : ∀ i, i < V.nb → (V.B i).sym ≠ s) (hnb : V.nb < 6) (hna : V.lg.na < 1000000) :
    Calls Tryz.prog 27 #[.pointer (some ⟨bv, 0, none⟩), .string s] w fun e w' => ∃ b lm', e = .returned (.int .i64 0) ∧ w.heap.size ≤ b ∧ Rep w' bv bm bo (V.listed s b lm') ∧ Chg (fun x => x = bm ∨ x = bv ∨ V.lm.F x) w w' ∧ (∀ x, lm'.F x → V.lm.F x ∨ w.heap.size ≤ x) := by
  have hml : s.size ≤ maxLen := by unfold maxLen; omega
  obtain ⟨fB, mB, fB1, fB2⟩ := R.books
  have hl : fB (sl s) = none := by
    cases h : fB (sl s) with
    | none => rfl
    | some b =>
      obtain ⟨i, hi, _, h2⟩ := fB2 s b h
      exact absurd h2 (hfree i hi)
  have hK : ∀ w', Chg Non w w' → (Instr.lookup 94 (.map (some bm)) (.string s) false).run Tryz.prog w' = .ok (.pointer none) w' ∧ w'.cell? ⟨bv, 0, none⟩ = some (.map (some bm)) ∧ (∀ ty, (Builtin.len_ #[94] ty #[.map (some bm)]).run Tryz.prog w' = .ok (.int .i64 V.nb) w') := fun w' k => by
    refine ⟨?_, (k.blk R.ven (fun x => x)).cell 0, fun ty => (mB.kept k (fun x => x)).len Tryz.underlying94 ty⟩
    rw [(mB.kept k (fun x => x)).look law9 Tryz.underlying94 (zero70 _) (WideMaps.keyOf_string_mk Tryz.underlying9 hml)]
    show _ = Result.ok (ptrO none) _
    rw [← hl]; rfl
  have mbS : ¬ (bm = bv ∨ V.lm.F bm) := by
    rintro (e | e)
    · exact mB.ne R.ven e
    · obtain ⟨c, t', hc, _⟩ := R.log.log.typ e
      exact mB.ne hc rfl
  have outF : ∀ x, w.heap.size ≤ x → ¬ (x = bv ∨ V.lm.F x) := by
    rintro x hx (e | e)
    · have := R.ven.lt; omega
    · have := R.log.log.lt e; omega
  have hU : ∀ w' b, Chg (fun x => x = bv ∨ V.lm.F x) w w' → ∃ w'', (Instr.mapUpdate 94 (.map (some bm)) (.string s) (.pointer (some ⟨b, 0, none⟩))).run Tryz.prog w' = .ok () w'' ∧ MapP w'' 9 bm (putF fB (sl s) b) (V.nb + 1) ∧ Chg (fun i => i = bm) w' w'' := fun w' b k =>
    (mB.kept k mbS).put law9 Tryz.underlying94 (by unfold maxLen; omega) (WideMaps.keyOf_string_mk Tryz.underlying9 hml) trivial hl
  have hbeg : ∀ w', Chg Non w w' → Calls Tryz.prog 51 #[.pointer (some ⟨bv, 0, none⟩), .string (⟨#[108, 105, 115, 116, 32]⟩ ++ s)] w' fun e w'' => e = .returned (.tuple #[]) ∧ ∃ m', IsLog w'' bv bm bo V.lg.begun m' ∧ (∀ b, m'.F b → V.lm.F b ∨ w'.heap.size ≤ b) ∧ Chg (fun b => b = bv ∨ V.lm.F b) w' w'' := fun w' k => begin_any bv bm bo V.lg V.lm _ w' (R.log.kept0 k) hna (by rw [ByteArray.size_append]; show 0 < 5 + s.size; omega) (by rw [ByteArray.size_append]; show 5 + s.size ≤ 290; omega)
  have fin : ∀ b wb lmb w3 w4 w5 lm5, IsLog wb bv bm bo V.lg.begun lmb → Chg (fun x => x = bv ∨ V.lm.F x) w wb → (∀ x, lmb.F x → V.lm.F x ∨ w.heap.size ≤ x) → wb.heap.size ≤ b → Chg Non wb w3 → Blk w3 b (newBk s).cells 158 → MapP w4 9 bm (putF fB (sl s) b) (V.nb + 1) → Chg (fun i => i = bm) w3 w4 →
      IsLog w5 bv bm bo (V.lg.begun.noted [.listed s]) lm5 → (∀ x, lm5.F x → lmb.F x ∨ w4.heap.size ≤ x) → Chg (fun x => lmb.F x) w4 w5 →
      w.heap.size ≤ b ∧ Rep w5 bv bm bo (V.listed s b lm5) ∧ Chg (fun x => x = bm ∨ x = bv ∨ V.lm.F x) w w5 ∧ (∀ x, lm5.F x → V.lm.F x ∨ w.heap.size ≤ x) := by
    intro b wb lmb w3 w4 w5 lm5 hLb kb hFb hb k3 hblk m4 k4 hL5 hF5 k5
    have Rb : Rep wb bv bm bo { V with lg := V.lg.begun, lm := lmb } := R.turnLog hLb kb
    have kk := k3.of_non.trans k4
    have mBb := mB.kept kb mbS
    have R4 : Rep w4 bv bm bo (Ven.list { V with lg := V.lg.begun, lm := lmb } s b) := Rb.list hb (k4.blk hblk (Ne.symm ((mBb.kept k3 (fun x => x)).ne hblk))) kk hfree ⟨_, m4, putF_same trivial, fB, mBb, fB1, fB2, fun s' h => putF_other trivial (fun e => h (sl_inj e))⟩
    have R5 := R4.turnLog hL5 (k5.mono (fun x h => .inr h))
    have kw4 : Chg (fun x => x = bm ∨ x = bv ∨ V.lm.F x) w w4 := (kb.mono (fun x h => .inr h)).trans (kk.mono (fun x h => .inl h))
    refine ⟨Nat.le_trans kb.size hb, R5, kw4.from (k5.mono (fun x h => (hFb x h).imp_left (fun h => .inr (.inr h)))), fun x hx => ?_⟩
    rcases hF5 x hx with h | h
    · exact hFb x h
    · exact .inr (Nat.le_trans kw4.size h)
  have hV : ∀ wb lmb w3 w4, IsLog wb bv bm bo V.lg.begun lmb → Chg (fun x => x = bv ∨ V.lm.F x) w wb → Chg Non wb w3 → Chg (fun i => i = bm) w3 w4 → w3.cell? ⟨bv, 0, none⟩ = some (.map (some bm)) ∧ w4.cell? ⟨bv, 0, none⟩ = some (.map (some bm)) ∧ IsLog w4 bv bm bo V.lg.begun lmb ∧ (∀ {b c t}, Blk w3 b c t → Blk w4 b c t) := fun wb lmb w3 w4 hLb kb k3 k4 => by
    have m3 := (mB.kept kb mbS).kept k3 (fun x => x)
    have bl : ∀ {b c t}, Blk w3 b c t → Blk w4 b c t := fun h => k4.blk h (Ne.symm (m3.ne h))
    have h3 := k3.blk hLb.ven (fun x => x)
    refine ⟨h3.cell 0, (bl h3).cell 0, (hLb.kept0 k3).kept k4 (Ne.symm (m3.ne h3)) (fun y hy e => ?_), bl⟩
    obtain ⟨c, t', hc, _⟩ := (hLb.kept0 k3).log.typ hy
    exact m3.ne hc e.symm
  have HV := hide hV
  have HK := hide hK
  have HU := hide hU
  have HF := hide fin
  have HBg := hide hbeg
  have HO := hide outF
  have e6 : decide ((6 : Int) ≤ (V.nb : Int)) = false := by simp; omega
  clear hV hK hU fin hl mB fB1 fB2 R hfree hnb hbeg outF mbS
  have c1 := cat_run (P := Tryz.prog) ⟨#[108, 105, 115, 116, 32]⟩ s (by show 5 + s.size ≤ 1000000; omega)
  go_enter Tryz.func27, Tryz.ntmps27
  go_wp2_with fail
  refine (hn _).mono ?_
  rintro e w1 ⟨rfl, k1⟩
  have b1 := k1.blk (Blk.new w #[.pointer (some ⟨bv, 0, none⟩)] 35) (fun x => x)
  have k01 := ((Chg.refl Non w).alloc (.cells #[.pointer (some ⟨bv, 0, none⟩)] 35)).trans k1
  have xb1 : w1.cell? ⟨w.heap.size, 0, none⟩ = some (.pointer (some ⟨bv, 0, none⟩)) := b1.cell 0
  obtain ⟨L1, v0, L3⟩ := unhide HK w1 k01
  clear k1
  go_wp2_with fail
  refine (clone_any s w1 (by omega)).mono ?_
  rintro e w2 ⟨rfl, k2⟩
  clear L1 v0 L3 xb1
  have k12 := k01.trans k2
  have b2 := k2.blk b1 (fun x => x)
  have xb2 : w2.cell? ⟨w.heap.size, 0, none⟩ = some (.pointer (some ⟨bv, 0, none⟩)) := b2.cell 0
  obtain ⟨w2a, hw2a⟩ : ∃ w2a, w2a = w2.alloc (.cells #[.string s] 9) := ⟨_, rfl⟩
  have k2a : Chg Non w w2a := by rw [hw2a]; exact k12.alloc _
  have b2a : Blk w2a w.heap.size #[.pointer (some ⟨bv, 0, none⟩)] 35 := by rw [hw2a]; exact b2.alloc _
  have o2a : Blk w2a w2.heap.size #[.string s] 9 := by rw [hw2a]; exact Blk.new _ _ _
  have HW := hide hw2a
  have HBeg := hide (unhide HBg w2a k2a)
  have l2 := b2.lt
  have k12s := k12.size
  clear hw2a
  go_wp2_with fail
  rw [← unhide HW]
  refine (unhide HBeg).mono ?_
  rintro e wb ⟨rfl, lmb, hLb, hFb, kb⟩
  have bb := kb.blk b2a (unhide HO _ (Nat.le_refl _))
  have ob := kb.blk o2a (unhide HO _ (by omega))
  have kkb := k2a.of_non.trans kb
  have hFb' : ∀ x, lmb.F x → V.lm.F x ∨ w.heap.size ≤ x := fun x h => (hFb x h).imp_right (fun h => Nat.le_trans k2a.size h)
  have xb : wb.cell? ⟨w.heap.size, 0, none⟩ = some (.pointer (some ⟨bv, 0, none⟩)) := bb.cell 0
  have ox : wb.cell? ⟨w2.heap.size, 0, none⟩ = some (.string s) := ob.cell 0
  have vb : wb.cell? ⟨bv, 0, none⟩ = some (.map (some bm)) := hLb.ven.cell 0
  have HLb := hide hLb
  have HKb := hide kkb
  have HFb := hide hFb'
  have HBb := hide bb
  have HOb := hide ob
  clear hLb kkb hFb hFb' kb k2a k12 k01 k2 b1 b2 b2a o2a HW HBeg bb ob xb2
  go_wp2
  go_region_held3 (fun w' => w'.cell? ⟨bv, 0, none⟩ = some (.map (some bm)) ∧ w'.cell? ⟨w.heap.size, 0, none⟩ = some (.pointer (some ⟨bv, 0, none⟩)) ∧ w'.cell? ⟨w2.heap.size, 0, none⟩ = some (.string s)) (go_keep)
    (first | (go_at_call 52; refine (bookNew_any s _).mono ?_; rintro e w3 ⟨rfl, hb3, k3⟩; have k3' : Chg Non wb w3 := ((Chg.refl Non wb).drew).trans k3; obtain ⟨w4, hU4, m4, k4⟩ := unhide HU w3 wb.heap.size ((unhide HKb).trans k3'.of_non); obtain ⟨v3, v4, HL4, bl⟩ := unhide HV wb lmb w3 w4 (unhide HLb) (unhide HKb) k3' k4; have q3 := k3'.blk (unhide HBb) (fun x => x); have p3 := k3'.blk (unhide HOb) (fun x => x); have xb3 : w3.cell? ⟨w.heap.size, 0, none⟩ = some (.pointer (some ⟨bv, 0, none⟩)) := q3.cell 0; have ox3 : w3.cell? ⟨w2.heap.size, 0, none⟩ = some (.string s) := p3.cell 0; have xb4 : w4.cell? ⟨w.heap.size, 0, none⟩ = some (.pointer (some ⟨bv, 0, none⟩)) := (bl q3).cell 0; have ox4 : w4.cell? ⟨w2.heap.size, 0, none⟩ = some (.string s) := (bl p3).cell 0))
  have HNt := hide (note1 bv bm bo V.lg.begun lmb (.listed s) (.func 54) #[.pointer (some ⟨w.heap.size, 0, none⟩), .pointer (some ⟨w2.heap.size, 0, none⟩)] w4 HL4 (by show 0 < V.lg.na + 1; omega) (by show V.lg.na + 1 ≤ 1000000; omega) (by show 0 + 1 < 1000000; omega))
  clear HL4
  go_wp2_with fail
  refine (unhide HNt).mono ?_
  rintro e w5 ⟨rfl, lm5, hL5, hF5, k5⟩
  go_wp2
  go_ret
  exact ⟨wb.heap.size, lm5, rfl, unhide HF _ wb lmb w3 w4 w5 lm5 (unhide HLb) (unhide HKb) (unhide HFb) (Nat.le_refl _) k3' hb3 m4 k4 hL5 hF5 k5⟩

end Go.Proofs.YtigaphnafnpfnaaGreatDoor

