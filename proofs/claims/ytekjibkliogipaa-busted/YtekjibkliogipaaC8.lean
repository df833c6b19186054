import Derived.Test.YtekjibkliogipaaC7
set_option linter.unusedVariables false
set_option linter.unusedSimpArgs false
namespace Go.Proofs.Ytekjibkliogipaa
open Go.RowKit Go.Maps Go.Lib
attribute [local go_sem ↓] Go.wp_at_zero Go.wp_at_succ

theorem sl_inj {s s' : ByteArray} (h : sl s = sl s') : s = s' := by
  simp only [sl, Lit.string.injEq] at h
  exact ByteArray.ext (Array.ext' h)

set_option maxHeartbeats 2000000 in
set_option maxRecDepth 100000 in
theorem list_ok (bv bm bo : Nat) (V : Ven) (s : ByteArray) (w : World) (R : Rep w bv bm bo V) (hn : NameSays s true) (hlen : s.size ≤ 100000) (hfree : ∀ i, i < V.nb → (V.B i).sym ≠ s) (hnb : V.nb < 6) :
    Calls Try.prog 22 #[.pointer (some ⟨bv, 0, none⟩), .string s] w fun e w' => ∃ b, e = .returned (.int .i64 0) ∧ w.heap.size ≤ b ∧ Rep w' bv bm bo (V.list s b) ∧ Chg (fun x => x = bm) w w' := by
  have hml : s.size ≤ maxLen := by unfold maxLen; omega
  obtain ⟨fB, mB, fB1, fB2⟩ := R.books
  have hl : fB (sl s) = none := by
    cases h : fB (sl s) with
    | none => rfl
    | some b =>
      obtain ⟨i, hi, _, h2⟩ := fB2 s b h
      exact absurd h2 (hfree i hi)
  have hK : ∀ w', Chg Non w w' → (Instr.lookup 78 (.map (some bm)) (.string s) false).run Try.prog w' = .ok (.pointer none) w' ∧ w'.cell? ⟨bv, 0, none⟩ = some (.map (some bm)) ∧ (∀ ty, (Builtin.len_ #[78] ty #[.map (some bm)]).run Try.prog w' = .ok (.int .i64 V.nb) w') := fun w' k => by
    refine ⟨?_, (k.blk R.ven (fun x => x)).cell 0, fun ty => (mB.kept k (fun x => x)).len Try.underlying78 ty⟩
    rw [(mB.kept k (fun x => x)).look law9 Try.underlying78 (zero70 _) (WideMaps.keyOf_string_mk Try.underlying9 hml)]
    show _ = Result.ok (ptrO none) _
    rw [← hl]; rfl
  have hU : ∀ w' b, Chg Non w w' → ∃ w'', (Instr.mapUpdate 78 (.map (some bm)) (.string s) (.pointer (some ⟨b, 0, none⟩))).run Try.prog w' = .ok () w'' ∧ MapP w'' 9 bm (putF fB (sl s) b) (V.nb + 1) ∧ Chg (fun i => i = bm) w' w'' := fun w' b k =>
    (mB.kept k (fun x => x)).put law9 Try.underlying78 (by unfold maxLen; omega) (WideMaps.keyOf_string_mk Try.underlying9 hml) trivial hl
  have fin : ∀ b w3 w4, w.heap.size ≤ b → Chg Non w w3 → Blk w3 b (newBk s).cells 87 → MapP w4 9 bm (putF fB (sl s) b) (V.nb + 1) → Chg (fun i => i = bm) w3 w4 → w.heap.size ≤ b ∧ Rep w4 bv bm bo (V.list s b) ∧ Chg (fun x => x = bm) w w4 := by
    intro b w3 w4 hb k3 hblk m4 k4
    have kk := k3.of_non.trans k4
    refine ⟨hb, R.list hb (k4.blk hblk (Ne.symm ((mB.kept k3 (fun x => x)).ne hblk))) kk hfree ⟨_, m4, putF_same trivial, fB, mB, fB1, fB2, fun s' h => putF_other trivial (fun e => h (sl_inj e))⟩, kk⟩
  have hV : ∀ w3 w4, Chg Non w w3 → Chg (fun i => i = bm) w3 w4 → w4.cell? ⟨bv, 0, none⟩ = some (.map (some bm)) := fun w3 w4 k3 k4 => (k4.blk (k3.blk R.ven (fun x => x)) (Ne.symm (mB.ne R.ven))).cell 0
  have HV := hide hV
  have HK := hide hK
  have HU := hide hU
  have HF := hide fin
  have e6 : decide ((6 : Int) ≤ (V.nb : Int)) = false := by simp; omega
  clear hV hK hU fin hl mB fB1 fB2 R hfree hnb
  go_enter Try.func22, Try.ntmps22
  go_wp2_with fail
  refine (hn w).mono ?_
  rintro e w1 ⟨rfl, k1⟩
  obtain ⟨L1, v0, L3⟩ := unhide HK w1 k1
  go_wp2_with fail
  refine (clone_any s w1 hlen).mono ?_
  rintro e w2 ⟨rfl, k2⟩
  clear L1 v0 L3
  have k12 := k1.trans k2
  obtain ⟨_, v2, _⟩ := unhide HK w2 k12
  go_wp2
  go_region_held3 (fun w' => w'.cell? ⟨bv, 0, none⟩ = some (.map (some bm))) (go_keep)
    (first | (go_at_call 39; refine (bookNew_any s _).mono ?_; rintro e w3 ⟨rfl, hb3, k3⟩; have k13 : Chg Non w w3 := (k12.drew).trans k3; obtain ⟨_, v3, _⟩ := unhide HK w3 k13; obtain ⟨w4, hU4, m4, k4⟩ := unhide HU w3 w2.heap.size k13; have v4 : w4.cell? ⟨bv, 0, none⟩ = some (.map (some bm)) := unhide HV _ _ k13 k4))
  go_wp2
  go_ret
  exact ⟨w2.heap.size, rfl, unhide HF _ _ _ k12.size k13 hb3 m4 k4⟩

end Go.Proofs.Ytekjibkliogipaa
