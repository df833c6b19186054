import Derived.Test.YtigaphnafnpfnaaGreatDoorPVX4
import Derived.Test.YtigaphnafnpfnaaGreatDoorPVH
/- Supply -/
set_option linter.unusedVariables false
set_option linter.unusedSimpArgs false
namespace Go.Proofs.YtigaphnafnpfnaaGreatDoor
open Go.RowKit
attribute [local go_sem ↓] Go.wp_at_zero Go.wp_at_succ

/-- how much the first k orders of a side offer to one that comes -/
def supF (om : Nat → Ord) (h : Nat → Nat) (o : Ask) : Nat → Int
  | 0 => 0
  | k + 1 => supF om h o k + (if (om (h k)).owner ≠ o.owner ∧ goodB o.kind o.side o.price (om (h k)).price = true then (om (h k)).opn else 0)

theorem supF_b (om : Nat → Ord) (h : Nat → Nat) (o : Ask) (n : Nat) (hb : ∀ k, k < n → 0 ≤ (om (h k)).opn ∧ (om (h k)).opn ≤ 1000000000000000) : ∀ k, k ≤ n → 0 ≤ supF om h o k ∧ supF om h o k ≤ k * 1000000000000000
  | 0, _ => by simp [supF]
  | k + 1, hk => by
    have h1 := supF_b om h o n hb k (by omega)
    have h2 := hb k (by omega)
    unfold supF
    split <;> (push_cast; omega)

theorem other_s (s : Nat) (w : World) (hs : s < 2) : Calls Tryz.prog 154 #[.int .i64 (1 - (s : Int))] w fun e w' => e = .returned (.int .i64 (s : Int)) ∧ w' = w := by
  have := other_any (1 - (s : Int)) w (by omega) (by omega)
  rwa [show (1 : Int) - (1 - s) = s from by omega] at this

set_option maxRecDepth 100000 in
set_option maxHeartbeats 4000000 in
theorem supply_any (bb s : Nat) (B : Bk) (om : Nat → Ord) (o : Ask) (w : World) (hb : IsBook w bb B om) (hs : s < 2) (ho : o.side = 1 - (s : Int)) (hop : ∀ k, k < B.n s → 0 ≤ (om (B.h s k)).opn ∧ (om (B.h s k)).opn ≤ 1000000000000000) :
    Calls Tryz.prog 147 #[.pointer (some ⟨bb, 0, none⟩), o.val] w fun e w' => e = .returned (.int .i64 (supF om (B.h s) o (B.n s))) ∧ Chg Non w w' := by
  obtain ⟨hP, hO, hn⟩ := (hb.side s hs).ptrs
  have hlt := hb.blk.lt
  have hcs := hb.cellSide hs
  clear hb
  generalize B.sl s = sl at *
  generalize B.cap s = cap at *
  generalize hnn : B.n s = n at *
  generalize hhh : B.h s = h at *
  clear hnn hhh
  have HP := hide hP
  have HO := hide hO
  have HOP := hide hop
  clear hP hO hop
  have hs0 : (0 : Int) ≤ s := by omega
  have hs2 : (s : Int) < 2 := by omega
  obtain ⟨id, owner, sym, side, kind, price, qty⟩ := o
  simp only at ho
  subst ho
  simp only [Ask.val]
  go_enter Tryz.func147, Tryz.ntmps147
  go_wp2
  go_quiet ((go_at_call 154; exact Calls.quiet_of_same (other_s _ _ hs)))
  go_wp2
  obtain ⟨w1, hw1⟩ : ∃ w1, w1 = (w.alloc (.cells #[.int .i64 id, .int .i64 owner, .string sym, .int .i64 (1 - (s : Int)), .int .i64 kind, .int .i64 price, .int .i64 qty] 52)).drewN nq := ⟨_, rfl⟩
  rw [← hw1]
  have HC1 : Hid (Chg Non w w1) := by rw [hw1]; exact ((Chg.refl _ w).alloc _).drewN _
  have HB1 : Hid (Blk w1 w.heap.size #[.int .i64 id, .int .i64 owner, .string sym, .int .i64 (1 - (s : Int)), .int .i64 kind, .int .i64 price, .int .i64 qty] 52) := by rw [hw1]; exact (Blk.new w _ _).drewN _
  clear hw1 hcs
  obtain ⟨sd, hsd⟩ : ∃ sd, 1 - (s : Int) = sd := ⟨_, rfl⟩
  rw [hsd] at HB1 ⊢
  have HSD := hide hsd
  clear hsd
  obtain ⟨H, hH⟩ : ∃ H, w.heap.size = H := ⟨_, rfl⟩
  rw [hH] at HB1 ⊢
  have HH := hide hH
  clear hH
  go_loopg [5, 7, 17] n (fun k sv _ iv wr => ∃ i : Nat, iv = .int .i64 (i : Int) ∧ i ≤ n ∧ k = n - i ∧ sv = .int .i64 (supF om h ⟨id, owner, sym, sd, kind, price, qty⟩ i) ∧ Chg Non w1 wr)
  case atStart => exact ⟨0, rfl, Nat.zero_le _, rfl, rfl, Chg.refl _ _⟩
  case round =>
    obtain ⟨i, rfl, hi, hgk, rfl, hc⟩ := hrel
    by_cases hin : i < n
    · obtain ⟨ab, rfl, hptr⟩ : ∃ ab, sl = some ⟨ab, 0, none⟩ ∧ wr.cell? ⟨ab, i, none⟩ = some (.pointer (some ⟨h i, 0, none⟩)) := by
        rcases unhide HP with ⟨_, h0, _⟩ | ⟨ab, e, _, hc2⟩
        · omega
        · exact ⟨ab, e, hc.cell (p := ⟨ab, i, none⟩) ((unhide HC1).cell (p := ⟨ab, i, none⟩) (hc2 i hin) (fun x => x)) (fun x => x)⟩
      obtain ⟨ix, hor⟩ := unhide HO i hin
      have hor := hc.blk ((unhide HC1).blk hor (fun x => x)) (fun x => x)
      have hbx := hc.blk (unhide HB1) (fun x => x)
      have hbd := supF_b om h ⟨id, owner, sym, sd, kind, price, qty⟩ n (unhide HOP) i hi
      have hob := unhide HOP i hin
      have HSF : Hid (supF om h ⟨id, owner, sym, sd, kind, price, qty⟩ (i + 1) = supF om h ⟨id, owner, sym, sd, kind, price, qty⟩ i + (if (om (h i)).owner ≠ owner ∧ goodB kind sd price (om (h i)).price = true then (om (h i)).opn else 0)) := rfl
      generalize h i = x at *
      generalize hS : supF om h ⟨id, owner, sym, sd, kind, price, qty⟩ i = S at *
      clear hS
      have o1 : wr.cell? ⟨x, 1, none⟩ = some (.int .i64 (om x).owner) := hor.cell 1
      have o5 : wr.cell? ⟨x, 5, none⟩ = some (.int .i64 (om x).price) := hor.cell 5
      have o8 : wr.cell? ⟨x, 8, none⟩ = some (.int .i64 (om x).opn) := hor.cell 8
      have b0 : wr.cell? ⟨H, 0, none⟩ = some (.int .i64 id) := hbx.cell 0
      have b1 : wr.cell? ⟨H, 1, none⟩ = some (.int .i64 owner) := hbx.cell 1
      have b2 : wr.cell? ⟨H, 2, none⟩ = some (.string sym) := hbx.cell 2
      have b3 : wr.cell? ⟨H, 3, none⟩ = some (.int .i64 sd) := hbx.cell 3
      have b4 : wr.cell? ⟨H, 4, none⟩ = some (.int .i64 kind) := hbx.cell 4
      have b5 : wr.cell? ⟨H, 5, none⟩ = some (.int .i64 price) := hbx.cell 5
      have b6 : wr.cell? ⟨H, 6, none⟩ = some (.int .i64 qty) := hbx.cell 6
      have HI := hide hor
      clear hor hbx
      by_cases hown : (om x).owner = owner
      · have hne : ((om x).owner != owner) = false := by simp [hown]
        have HOW := hide hown
        clear hown
        go_wp2
        go_quiet (fail)
        go_wp2
        go_roundg (n - (i + 1))
        case measure => omega
        case rel => exact ⟨i + 1, by push_cast; rfl, by omega, rfl, by rw [unhide HSF, if_neg (fun h => h.1 (unhide HOW)), Int.add_zero], hc.drewN _⟩
      · have hne : ((om x).owner != owner) = true := by simp [hown]
        have HOW := hide hown
        clear hown
        cases GG : goodB kind sd price (om x).price
        · go_wp2
          go_region_held3 (fun w' => w'.cell? ⟨H, 0, none⟩ = some (.int .i64 id) ∧ w'.cell? ⟨H, 1, none⟩ = some (.int .i64 owner) ∧ w'.cell? ⟨H, 2, none⟩ = some (.string sym) ∧ w'.cell? ⟨H, 3, none⟩ = some (.int .i64 sd) ∧ w'.cell? ⟨H, 4, none⟩ = some (.int .i64 kind) ∧ w'.cell? ⟨H, 5, none⟩ = some (.int .i64 price) ∧ w'.cell? ⟨H, 6, none⟩ = some (.int .i64 qty) ∧ w'.cell? ⟨x, 1, none⟩ = some (.int .i64 (om x).owner) ∧ w'.cell? ⟨x, 5, none⟩ = some (.int .i64 (om x).price)) (go_keep)
            (first | (go_at_call 155; refine (good_any ⟨id, owner, sym, sd, kind, price, qty⟩ _ _).mono ?_; rintro e w3 ⟨rfl, hc3⟩; rw [GG]; have k0 := hc3.cell (p := ⟨H, 0, none⟩) b0 (fun x => x); have k1 := hc3.cell (p := ⟨H, 1, none⟩) b1 (fun x => x); have k2 := hc3.cell (p := ⟨H, 2, none⟩) b2 (fun x => x); have k3 := hc3.cell (p := ⟨H, 3, none⟩) b3 (fun x => x); have k4 := hc3.cell (p := ⟨H, 4, none⟩) b4 (fun x => x); have k5 := hc3.cell (p := ⟨H, 5, none⟩) b5 (fun x => x); have k6 := hc3.cell (p := ⟨H, 6, none⟩) b6 (fun x => x); have k7 := hc3.cell (p := ⟨x, 1, none⟩) o1 (fun x => x); have k8 := hc3.cell (p := ⟨x, 5, none⟩) o5 (fun x => x)))
          go_wp2
          go_roundg (n - (i + 1))
          case measure => omega
          case rel => exact ⟨i + 1, by push_cast; rfl, by omega, rfl, by rw [unhide HSF, if_neg (fun h => by have := h.2; rw [GG] at this; cases this), Int.add_zero], Chg.trans (by repeat (first | exact hc | refine Chg.drewN ?_ _ | refine Chg.drew ?_)) hc3⟩
        · have hwr : wrap64 (S + (om x).opn) = S + (om x).opn := wrap64_id (by omega) (by omega)
          go_wp2
          go_region_held3 (fun w' => w'.cell? ⟨H, 0, none⟩ = some (.int .i64 id) ∧ w'.cell? ⟨H, 1, none⟩ = some (.int .i64 owner) ∧ w'.cell? ⟨H, 2, none⟩ = some (.string sym) ∧ w'.cell? ⟨H, 3, none⟩ = some (.int .i64 sd) ∧ w'.cell? ⟨H, 4, none⟩ = some (.int .i64 kind) ∧ w'.cell? ⟨H, 5, none⟩ = some (.int .i64 price) ∧ w'.cell? ⟨H, 6, none⟩ = some (.int .i64 qty) ∧ w'.cell? ⟨x, 1, none⟩ = some (.int .i64 (om x).owner) ∧ w'.cell? ⟨x, 5, none⟩ = some (.int .i64 (om x).price)) (go_keep)
            (first | (go_at_call 155; refine (good_any ⟨id, owner, sym, sd, kind, price, qty⟩ _ _).mono ?_; rintro e w3 ⟨rfl, hc3⟩; rw [GG]; have k0 := hc3.cell (p := ⟨H, 0, none⟩) b0 (fun x => x); have k1 := hc3.cell (p := ⟨H, 1, none⟩) b1 (fun x => x); have k2 := hc3.cell (p := ⟨H, 2, none⟩) b2 (fun x => x); have k3 := hc3.cell (p := ⟨H, 3, none⟩) b3 (fun x => x); have k4 := hc3.cell (p := ⟨H, 4, none⟩) b4 (fun x => x); have k5 := hc3.cell (p := ⟨H, 5, none⟩) b5 (fun x => x); have k6 := hc3.cell (p := ⟨H, 6, none⟩) b6 (fun x => x); have k7 := hc3.cell (p := ⟨x, 1, none⟩) o1 (fun x => x); have k8 := hc3.cell (p := ⟨x, 5, none⟩) o5 (fun x => x); have k9 := hc3.cell (p := ⟨x, 8, none⟩) o8 (fun x => x)))
          go_wp2
          go_roundg (n - (i + 1))
          case measure => omega
          case rel => exact ⟨i + 1, by push_cast; rfl, by omega, rfl, by rw [unhide HSF, if_pos ⟨unhide HOW, GG⟩], Chg.trans (by repeat (first | exact hc | refine Chg.drewN ?_ _ | refine Chg.drew ?_)) hc3⟩
    · obtain rfl : i = n := by omega
      go_wp2
      go_ret
      exact ⟨by rw [unhide HSD]; rfl, (unhide HC1).trans hc⟩

#print axioms supply_any
end Go.Proofs.YtigaphnafnpfnaaGreatDoor

