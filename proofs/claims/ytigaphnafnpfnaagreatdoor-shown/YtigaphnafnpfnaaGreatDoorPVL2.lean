import Derived.Test.YtigaphnafnpfnaaGreatDoorPVB2
import Derived.Deep.QuietTactic
import Derived.BigQuiet
import Derived.BigRegion
import Derived.Deep.RegionWith
import Derived.Deep.RegionHeld3
import Derived.Deep.DrawnRows
import Derived.Deep.RegionLaw
import Derived.Deep.AppendLies
set_option linter.unusedVariables false
set_option linter.unusedSimpArgs false
namespace Go.Proofs.YtigaphnafnpfnaaGreatDoor
open Go.RowKit
attribute [local go_sem ↓] Go.wp_at_zero Go.wp_at_succ

set_option maxRecDepth 100000 in
set_option maxHeartbeats 1000000 in
theorem tell_any (bv bm bo : Nat) (G : Lg) (m : Lm) (kind : Int) (t : Tr) (w : World) (hL : IsLog w bv bm bo G m) (hlen : G.tp.length < 1000000000) :
    Calls Tryz.prog 73 #[.pointer (some ⟨bv, 0, none⟩), .int .i64 kind, t.val] w fun e w' => e = .returned (.tuple #[]) ∧
      ∃ m', IsLog w' bv bm bo (G.told kind t) m' ∧ (∀ b, m'.F b → m.F b ∨ w.heap.size ≤ b) ∧ Chg (fun b => b = bv ∨ m.pv.ownBlock = some b) w w' := by
  obtain ⟨n, hn⟩ : ∃ n, G.tp.length = n := ⟨_, rfl⟩
  have hprow := hL.log.prow
  rw [hn] at hprow hlen
  obtain ⟨pa, pcap, hpv⟩ : ∃ pa pcap, m.pv = .slice pa n pcap := by
    rcases hprow.2 with ⟨h, h0⟩ | ⟨g, cap, cs, h, _⟩
    · exact ⟨none, 0, by rw [h, h0]⟩
    · exact ⟨_, cap, h⟩
  rw [hpv] at hprow
  have hv := hL.ven
  have v3 : w.cell? ⟨bv, 3, none⟩ = some (.slice pa n pcap) := (hv.cell 3).trans (by rw [← hpv]; rfl)
  have f3 := hv.frozen 3
  have lv := hv.lt
  have hmx : n + 1 ≤ maxLen := by unfold maxLen; omega
  have hm24 : (n + 1) * 80 ≤ 140737488355328 := by omega
  obtain ⟨i0, z0, hi0, hz0, hz1, hz2, hz3⟩ := info96_parts
  obtain ⟨tn, ts, tp, tq, tbu, tse, td⟩ := t
  simp only [Tr.val]
  obtain ⟨w0, hw0⟩ : ∃ w0, w0 = w.alloc (.cells #[.int .i64 tn, .string ts, .int .i64 tp, .int .i64 tq, .int .i64 tbu, .int .i64 tse, .int .i64 td] 56) := ⟨_, rfl⟩
  have k0 : Chg Non w w0 := by rw [hw0]; exact (Chg.refl Non w).alloc _
  have b0 : Blk w0 w.heap.size #[.int .i64 tn, .string ts, .int .i64 tp, .int .i64 tq, .int .i64 tbu, .int .i64 tse, .int .i64 td] 56 := by rw [hw0]; exact Blk.new _ _ _
  have hs0 : w0.heap.size = w.heap.size + 1 := by rw [hw0]; simp
  have hL0 := hL.kept0 k0
  have hrow0 := own_kept hprow k0 (fun _ _ x => x)
  have v3' : w0.cell? ⟨bv, 3, none⟩ = some (.slice pa n pcap) := k0.cell v3 (fun x => x)
  have t0 : w0.cell? ⟨w.heap.size, 0, none⟩ = some (.int .i64 tn) := b0.cell 0
  have t1 : w0.cell? ⟨w.heap.size, 1, none⟩ = some (.string ts) := b0.cell 1
  have t2 : w0.cell? ⟨w.heap.size, 2, none⟩ = some (.int .i64 tp) := b0.cell 2
  have t3 : w0.cell? ⟨w.heap.size, 3, none⟩ = some (.int .i64 tq) := b0.cell 3
  have t4 : w0.cell? ⟨w.heap.size, 4, none⟩ = some (.int .i64 tbu) := b0.cell 4
  have t5 : w0.cell? ⟨w.heap.size, 5, none⟩ = some (.int .i64 tse) := b0.cell 5
  have t6 : w0.cell? ⟨w.heap.size, 6, none⟩ = some (.int .i64 td) := b0.cell 6
  obtain ⟨w1, hw1⟩ : ∃ w1, w1 = (w0.alloc (.cells #[.int .i64 (IntKind.i64.wrap ((n : Int) + 1)), .int .i64 kind, .int .i64 tn, .string ts, .int .i64 tp, .int .i64 tq, .int .i64 tbu, .int .i64 tse, .int .i64 td] 62)).drew := ⟨_, rfl⟩
  have k1 : Chg Non w0 w1 := by rw [hw1]; exact ((Chg.refl Non w0).alloc _).drew
  have hrow1 := own_kept hrow0 k1 (fun _ _ x => x)
  have hsz1 : w1.heap.size = w.heap.size + 2 := by rw [hw1]; simp [hs0]
  have hnews : ∀ j u, (Rc.cells ⟨IntKind.i64.wrap ((n : Int) + 1), kind, ⟨tn, ts, tp, tq, tbu, tse, td⟩⟩)[j]? = some u → w1.cell? (Addr.add ⟨w.heap.size + 1, 0, none⟩ j) = some u := by
    intro j u hj
    have := news9 w0 ⟨IntKind.i64.wrap ((n : Int) + 1), kind, ⟨tn, ts, tp, tq, tbu, tse, td⟩⟩ j u hj
    rw [hs0] at this
    rw [hw1]
    exact this
  have hone : ∀ u ∈ Rc.cells ⟨IntKind.i64.wrap ((n : Int) + 1), kind, ⟨tn, ts, tp, tq, tbu, tse, td⟩⟩, u.oneCell' = true := by simp [Rc.cells, Value.oneCell']
  have hL1 := hL0.kept0 k1
  have hwr : IntKind.i64.wrap ((n : Int) + 1) = (n : Int) + 1 := by rw [IntKind.wrap_i64]; omega
  have HE : Hid (Lg.told G kind ⟨tn, ts, tp, tq, tbu, tse, td⟩ = { G with tp := G.tp ++ [⟨IntKind.i64.wrap ((n : Int) + 1), kind, ⟨tn, ts, tp, tq, tbu, tse, td⟩⟩] }) := by
    show _ = _
    unfold Lg.told
    rw [hn, hwr]
  clear hwr
  have HR := hide hrow1
  have HNW := hide hnews
  have HON := hide hone
  have HSZ := hide hsz1
  have HL := hide hL
  have HL1 := hide hL1
  have HPV := hide hpv
  have HW := hide hw0
  have HW1 := hide hw1
  have HB := hide (k1.blk b0 (fun x => x))
  have hne : w.heap.size ≠ bv := by omega
  have HK := hide (k0.trans k1)
  clear hprow hL hpv hrow0 hL0 hw0 b0 v3 hrow1 hnews hone hw1 hsz1 hL1 k0 k1 f3
  go_enter Tryz.func73, Tryz.ntmps73
  go_wp2
  rw [← unhide HW]
  go_region_law (first | (rw [← unhide HW1]; refine step_append_lies _ rfl (.tmp 10) (.tmp 20) 34 rfl 0 62 i0 z0 9 80 Tryz.underlying34 hi0 hz0 hz1 hz2 hz3 (by decide) (.slice pa n pcap) n (flatR G.tp) rfl (unhide HR) ⟨w.heap.size + 1, 0, none⟩ 1 1 (Rc.cells ⟨IntKind.i64.wrap ((n : Int) + 1), kind, ⟨tn, ts, tp, tq, tbu, tse, td⟩⟩) rfl rfl (unhide HNW) (unhide HON) (by omega) hmx hm24 (by omega) (w.heap.size + 2) (unhide HSZ) ?_; intro g cap w2 hown2 hgrow hat hlt; have HO2 := hide hown2; have HG2 := hide hgrow; have HA2 := hide hat; have b2 : Blk w2 bv (venC bm bo m G.day) 100 := (hgrow.block bv (unhide HL1).ven.lt (fun e => (unhide HL1).bvne (.inr (.inl (.inl (by rw [unhide HPV]; exact e.symm)))))).trans (unhide HL1).ven; have v32 := b2.cell 3; have f32 := b2.frozen 3; simp only [venC] at v32; simp at v32; have HB2 := hide b2; clear hown2 hgrow hat b2))
  all_goals
    go_end0
    obtain ⟨a1, a2, a3⟩ := (unhide HL1).tapeGrown hn (unhide HO2) (by rw [unhide HPV]; exact unhide HG2) (by rw [unhide HPV]; exact unhide HA2) (unhide HSZ)
    refine ⟨rfl, _, ?_, fun b hb => (a2 b hb).imp_right (fun h => by omega), (unhide HK).of_non.trans a3⟩
    rw [unhide HE]
    exact a1
end Go.Proofs.YtigaphnafnpfnaaGreatDoor

