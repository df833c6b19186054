import Derived.Test.YtigaphnafnpfnaaDoorJ1
set_option linter.unusedVariables false
set_option linter.unusedSimpArgs false
namespace Go.Proofs.YtigaphnafnpfnaaDoor
open Go.RowKit
attribute [local go_sem ↓] Go.wp_at_zero Go.wp_at_succ

theorem itoa_str (n : Int) (h0 : -9223372036854775808 ≤ n) (h1 : n ≤ 9223372036854775807) (w : World) (hT : Tab w) :
    Calls Tryd.prog 51 #[.int .i64 n] w fun e w' => ∃ s : ByteArray, e = .returned (.string s) ∧ s.size ≤ 21 ∧ (⟨#[32]⟩ ++ s : ByteArray) = numS n ∧ Chg Non w w' := by
  refine (itoa_any n h0 h1 w hT).mono ?_
  rintro e w' ⟨rfl, k⟩
  refine ⟨_, rfl, ?_, rfl, k⟩
  have := Lib.itoa_length_le n h0 h1
  have e : (ByteArray.mk (Lib.itoa n).toArray).size = (Lib.itoa n).length := by show (Lib.itoa n).toArray.size = _; simp
  omega

theorem cat_run {P : Program} (a b : ByteArray) (h : a.size + b.size ≤ 1000000) (W : World) : (Op.stringOp .add a b).run P W = .ok (.string (a ++ b)) W := run_string_add_sum W _ _ (by omega)

set_option maxRecDepth 100000 in
set_option maxHeartbeats 1000000 in
theorem lineOf_any (word : ByteArray) (f : Nat → Int) (sb m cap : Nat) (w : World) (hT : Tab w) (hm : m ≤ 100) (hw : word.size ≤ 1000)
    (hc : ∀ i, i < m → w.cell? ⟨sb, i, none⟩ = some (.int .i64 (f i))) (hf : ∀ i, i < m → -9223372036854775808 ≤ f i ∧ f i ≤ 9223372036854775807) :
    Calls Tryd.prog 29 #[.string word, .slice (some ⟨sb, 0, none⟩) m cap] w fun e w' => e = .returned (.string (lineF f word m)) ∧ Chg Non w w' := by
  have HT := hide hT
  have HC := hide hc
  have HF := hide hf
  clear hT hc hf
  go_enter Tryd.func29, Tryd.ntmps29
  go_wp2
  go_loopg [0, 6, 9] m (fun k sv _ iv wr => ∃ i : Nat, iv = .int .i64 (i : Int) ∧ i ≤ m ∧ k = m - i ∧ sv = .string (lineF f word i) ∧ Chg Non w wr)
  case atStart => exact ⟨0, rfl, Nat.zero_le _, rfl, rfl, Chg.refl _ _⟩
  case round =>
    obtain ⟨i, rfl, hi, hgk, rfl, hc⟩ := hrel
    by_cases hin : i < m
    · have hcell : wr.cell? ⟨sb, i, none⟩ = some (.int .i64 (f i)) := hc.cell (unhide HC i hin) (fun x => x)
      have hb := unhide HF i hin
      have HTr := hide ((unhide HT).kept0 hc)
      have HK := hide hc
      clear hc
      have hls : (lineF f word i).size ≤ 10000 := by
        have := lineF_size f word i (fun j hj => unhide HF j (by omega))
        omega
      have HX : Hid (lineF f word (i + 1) = lineF f word i ++ numS (f i)) := rfl
      generalize hv : f i = v at *
      generalize hsw : lineF f word i = sw at *
      clear hv hsw
      go_wp2_with (go_at_call 51; refine (itoa_str v hb.1 hb.2 _ (unhide HTr)).mono ?_; rintro e w' ⟨s, rfl, hs1, hs2, hk⟩; have HK2 := hide hk; have HS2 := hide hs2; clear hk hs2; have c1 := cat_run (P := Tryd.prog) ⟨#[32]⟩ s (by show 1 + s.size ≤ 1000000; omega); have c2 := cat_run (P := Tryd.prog) sw (⟨#[32]⟩ ++ s) (by rw [ByteArray.size_append]; show sw.size + (1 + s.size) ≤ 1000000; omega))
      go_roundg (m - (i + 1))
      case measure => omega
      case rel => exact ⟨i + 1, by push_cast; rfl, by omega, rfl, by rw [unhide HX, unhide HS2], (unhide HK).trans (unhide HK2)⟩
    · obtain rfl : i = m := by omega
      go_wp2
      go_ret
      exact ⟨rfl, hc⟩

end Go.Proofs.YtigaphnafnpfnaaDoor
