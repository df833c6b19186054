import Derived.Test.YtigaphnafnpfnaaGreatDoorPVX4
import Derived.Laws.IdiomStrings
set_option linter.unusedVariables false
set_option linter.unusedSimpArgs false
/- The document's numbers in decimals. -/
namespace Go.Proofs.YtigaphnafnpfnaaGreatDoor
open Go.RowKit
attribute [local go_sem ↓] Go.wp_at_zero Go.wp_at_succ

def txt (n : Nat) : ByteArray := if n < 10 then ⟨#[UInt8.ofNat (48 + n)]⟩ else txt (n / 10) ++ ⟨#[UInt8.ofNat (48 + n % 10)]⟩

theorem txt_small {n : Nat} (h : n < 10) : txt n = ⟨#[UInt8.ofNat (48 + n)]⟩ := by unfold txt; rw [if_pos h]
theorem txt_big {n : Nat} (h : ¬ n < 10) : txt n = txt (n / 10) ++ ⟨#[UInt8.ofNat (48 + n % 10)]⟩ := by
  conv => lhs; unfold txt
  rw [if_neg h]

theorem txt_size : ∀ (d n : Nat), n < 10 ^ (d + 1) → 1 ≤ (txt n).size ∧ (txt n).size ≤ d + 1
  | 0, n, h => by rw [txt_small (by simpa using h)]; exact ⟨Nat.le_refl _, Nat.le_refl _⟩
  | d + 1, n, h => by
    by_cases h1 : n < 10
    · rw [txt_small h1]; exact ⟨Nat.le_refl _, by show 1 ≤ _; omega⟩
    · have := txt_size d (n / 10) (by rw [Nat.pow_succ] at h; omega)
      rw [txt_big h1, ByteArray.size_append]
      show 1 ≤ (txt (n / 10)).size + 1 ∧ (txt (n / 10)).size + 1 ≤ d + 1 + 1
      omega

theorem conv1 (n : Nat) (w : World) : (convert 98 9 (.slice (some ⟨w.heap.size, 0, none⟩) 1 1)).run Tryz.prog (w.alloc (.cells #[.int .u8 (48 + (n : Int) % 10)] 5)) = .ok (.string ⟨#[UInt8.ofNat (48 + n % 10)]⟩) (w.alloc (.cells #[.int .u8 (48 + (n : Int) % 10)] 5)) := by
  refine run_convert_bytes_back (P := Tryz.prog) _ 98 9 5 ⟨w.heap.size, 0, none⟩ 1 [UInt8.ofNat (48 + n % 10)] Tryz.underlying98 Tryz.underlying5 Tryz.underlying9 ?_
  intro j hj
  simp at hj
  subst hj
  have e : Addr.add ⟨w.heap.size, 0, none⟩ 0 = ⟨w.heap.size, 0, none⟩ := by simp [Addr.add]
  rw [e, (Blk.new w _ _).cell 0]
  have : (UInt8.ofNat (48 + n % 10)).toNat = 48 + n % 10 := by rw [UInt8.toNat_ofNat']; omega
  simp only [List.getElem_cons_zero, this]
  simp

set_option maxRecDepth 100000 in
set_option maxHeartbeats 1000000 in
theorem text_any : ∀ (n : Nat) (w : World), n < 10000000000 → Calls Tryz.prog 173 #[.int .i64 (n : Int)] w fun e w' => e = .returned (.string (txt n)) ∧ Chg Non w w' := by
  intro n
  induction n using Nat.strongRecOn with
  | _ n ih =>
    intro w hn
    have h10 : (n : Int) % 10 < 10 := by omega
    have h10' : 0 ≤ (n : Int) % 10 := by omega
    have hcv := conv1 n w
    obtain ⟨d, hd⟩ : ∃ d, UInt8.ofNat (48 + n % 10) = d := ⟨_, rfl⟩
    rw [hd] at hcv
    by_cases h : n < 10
    · have HR : Hid (txt n = ⟨#[d]⟩) := by show _ = _; rw [txt_small h, ← hd, Nat.mod_eq_of_lt h]
      clear hd
      go_enter Tryz.func173, Tryz.ntmps173
      go_wp2
      go_ret
      exact ⟨by rw [unhide HR]; rfl, (Chg.refl _ _).alloc _⟩
    · have HR := hide (txt_big h)
      rw [hd] at HR
      clear hd
      have HI := hide (fun w => ih (n / 10) (by omega) w (by omega))
      have hsz := txt_size 9 (n / 10) (by omega)
      have hc2 := cat_run (P := Tryz.prog) (txt (n / 10)) ⟨#[d]⟩ (by show (txt (n / 10)).size + 1 ≤ 1000000; omega)
      clear ih
      go_enter Tryz.func173, Tryz.ntmps173
      go_wp2_with (go_at_call 173; refine (unhide HI _).mono ?_; rintro e w2 ⟨rfl, k2⟩)
      go_ret
      exact ⟨by rw [unhide HR]; rfl, ((Chg.refl _ _).alloc _).trans k2⟩

end Go.Proofs.YtigaphnafnpfnaaGreatDoor

