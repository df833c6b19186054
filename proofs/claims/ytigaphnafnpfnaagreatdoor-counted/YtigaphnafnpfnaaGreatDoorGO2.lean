import Derived.Test.YtigaphnafnpfnaaGreatDoorGO1
import Derived.Deep.RegionWith
/- player.order: every order of its operations -/
set_option linter.unusedVariables false
set_option linter.unusedSimpArgs false
namespace Go.Proofs.YtigaphnafnpfnaaGreatDoor
open Go.RowKit Go.Maps
attribute [local go_sem ↓] Go.wp_at_zero Go.wp_at_succ

set_option maxRecDepth 100000
set_option maxHeartbeats 4000000
theorem st_51111 (D : Nat) (ao : Option Addr) (len cap : Nat) (zs : Nat → Int) (base P bv n : Nat) (acts : Int) (w : World) (Q : Exit → Act → World → Prop) (HQ : FinOK D ao len cap zs base P bv n acts w Q) (v1 v2 v3 v4 v5 : Nat) (Bs : Nat) (Bo : Nat) (W : World) (hR : Rolls D ao len cap zs base P bv n acts w W) (hv1 : (v1 : Int) < 4) (hv2 : (v2 : Int) < 2) (hv3 : (v3 : Int) < 9) (hv4 : (v4 : Int) < 10) (hv5 : (v5 : Int) < 9) (hN : NineAt D W Bs) (hO : SlotAt D w W Bo) :
    wpAny Tryz.prog .any ops53 Q 1 #[true, true, true, true, true, true, true, true, true, true, true, true, true, true, true, true, true, true, true, true, true, true, false] ⟨((.pointer (some ⟨P, 0, none⟩)) :: (.pointer (some ⟨D, 0, none⟩)) :: (undef) :: (undef) :: (.pointer (some ⟨w.heap.size, 0, none⟩)) :: (.pointer (some ⟨Bo, 0, none⟩)) :: (.pointer (some ⟨P, 0, none⟩)) :: (.pointer (some ⟨P, 0, none⟩)) :: (.pointer (some ⟨P, 1, none⟩)) :: (.int .i64 (n : Int)) :: (.int .i64 (IntKind.i64.wrap ((n : Int) + 1))) :: (.pointer (some ⟨D, 0, none⟩)) :: (.int .i64 (v1 : Int)) :: (.pointer (some ⟨D, 0, none⟩)) :: (.int .i64 (v2 : Int)) :: (.slice (some ⟨Bs, 0, none⟩) 9 9) :: (.pointer (some ⟨D, 0, none⟩)) :: (.int .i64 (v3 : Int)) :: (.pointer (some ⟨Bs, v3, none⟩)) :: (.int .i64 (kindOf v3)) :: (.pointer (some ⟨D, 0, none⟩)) :: (.int .i64 (v4 : Int)) :: (.int .i64 (IntKind.i64.wrap (95 + (v4 : Int)))) :: (.pointer (some ⟨D, 0, none⟩)) :: (.int .i64 (v5 : Int)) :: (.int .i64 (IntKind.i64.wrap (1 + (v5 : Int)))) :: (.agg #[.int .i64 (IntKind.i64.wrap ((n : Int) + 1)), .int .i64 (v1 : Int), .string ⟨#[65]⟩, .int .i64 (v2 : Int), .int .i64 (kindOf v3), .int .i64 (IntKind.i64.wrap (95 + (v4 : Int))), .int .i64 (IntKind.i64.wrap (1 + (v5 : Int)))]) :: (undef) :: (undef) :: (undef) :: (undef) :: (undef) :: (undef) :: (undef) :: (undef) :: (undef) :: []).toArray, []⟩ W := by
  have hcell := hR.cell
  have hlt := hR.ply.lt
  have hcv := hN.cells v3 (by omega)
  have hNl := hN.lt
  have hv3n : v3 < 9 := by omega
  refine wpAny_ready (rs := [22]) (by kernel_rfl) (by simp) ?_
  refine AllReady.cons rfl (fun K hK => ?_) ?_
  · obtain ⟨⟨q0, q1, q2, q3, q4, q5, q6⟩, ⟨g0, g1, g2, g3, g4, g5, g6⟩, ql⟩ := hO.cells
    simp only [ops53, Tryz.f63]
    go_simp
    refine hK _ _ ?_
    refine wpAny_done (by kernel_rfl) ?_ _
    exact HQ.1 v1 v2 v3 v4 v5 Bs Bo _ hv1 hv2 hv3 hv4 hv5 (slot_set hR hO).1 hO.ne hO.new (slot_set hR hO).2
  exact AllReady.nil

theorem st_51101 (D : Nat) (ao : Option Addr) (len cap : Nat) (zs : Nat → Int) (base P bv n : Nat) (acts : Int) (w : World) (Q : Exit → Act → World → Prop) (HQ : FinOK D ao len cap zs base P bv n acts w Q) (v1 v2 v3 v4 v5 : Nat) (Bs : Nat) (W : World) (hR : Rolls D ao len cap zs base P bv n acts w W) (hv1 : (v1 : Int) < 4) (hv2 : (v2 : Int) < 2) (hv3 : (v3 : Int) < 9) (hv4 : (v4 : Int) < 10) (hv5 : (v5 : Int) < 9) (hN : NineAt D W Bs) :
    wpAny Tryz.prog .any ops53 Q 2 #[true, true, true, true, true, true, true, true, true, true, true, true, true, true, true, true, true, true, true, true, true, false, false] ⟨((.pointer (some ⟨P, 0, none⟩)) :: (.pointer (some ⟨D, 0, none⟩)) :: (undef) :: (undef) :: (.pointer (some ⟨w.heap.size, 0, none⟩)) :: (undef) :: (.pointer (some ⟨P, 0, none⟩)) :: (.pointer (some ⟨P, 0, none⟩)) :: (.pointer (some ⟨P, 1, none⟩)) :: (.int .i64 (n : Int)) :: (.int .i64 (IntKind.i64.wrap ((n : Int) + 1))) :: (.pointer (some ⟨D, 0, none⟩)) :: (.int .i64 (v1 : Int)) :: (.pointer (some ⟨D, 0, none⟩)) :: (.int .i64 (v2 : Int)) :: (.slice (some ⟨Bs, 0, none⟩) 9 9) :: (.pointer (some ⟨D, 0, none⟩)) :: (.int .i64 (v3 : Int)) :: (.pointer (some ⟨Bs, v3, none⟩)) :: (.int .i64 (kindOf v3)) :: (.pointer (some ⟨D, 0, none⟩)) :: (.int .i64 (v4 : Int)) :: (.int .i64 (IntKind.i64.wrap (95 + (v4 : Int)))) :: (.pointer (some ⟨D, 0, none⟩)) :: (.int .i64 (v5 : Int)) :: (.int .i64 (IntKind.i64.wrap (1 + (v5 : Int)))) :: (.agg #[.int .i64 (IntKind.i64.wrap ((n : Int) + 1)), .int .i64 (v1 : Int), .string ⟨#[65]⟩, .int .i64 (v2 : Int), .int .i64 (kindOf v3), .int .i64 (IntKind.i64.wrap (95 + (v4 : Int))), .int .i64 (IntKind.i64.wrap (1 + (v5 : Int)))]) :: (undef) :: (undef) :: (undef) :: (undef) :: (undef) :: (undef) :: (undef) :: (undef) :: (undef) :: []).toArray, []⟩ W := by
  have hcell := hR.cell
  have hlt := hR.ply.lt
  have hcv := hN.cells v3 (by omega)
  have hNl := hN.lt
  have hv3n : v3 < 9 := by omega
  refine wpAny_ready (rs := [21]) (by kernel_rfl) (by simp) ?_
  refine AllReady.cons rfl (fun K hK => ?_) ?_
  · simp only [ops53, Tryz.f63]
    go_simp
    refine hK _ _ ?_
    exact st_51111 D ao len cap zs base P bv n acts w Q HQ v1 v2 v3 v4 v5 Bs _ _ (hR.alloc _) hv1 hv2 hv3 hv4 hv5 (hN.alloc _) (SlotAt.make hR)
  exact AllReady.nil

theorem st_51110 (D : Nat) (ao : Option Addr) (len cap : Nat) (zs : Nat → Int) (base P bv n : Nat) (acts : Int) (w : World) (Q : Exit → Act → World → Prop) (HQ : FinOK D ao len cap zs base P bv n acts w Q) (v1 v2 v3 v4 v5 : Nat) (Bs : Nat) (Bo : Nat) (W : World) (hR : Rolls D ao len cap zs base P bv n acts w W) (hv1 : (v1 : Int) < 4) (hv2 : (v2 : Int) < 2) (hv3 : (v3 : Int) < 9) (hv4 : (v4 : Int) < 10) (hv5 : (v5 : Int) < 9) (hN : NineAt D W Bs) (hO : SlotAt D w W Bo) :
    wpAny Tryz.prog .any ops53 Q 3 #[true, true, true, true, true, true, true, true, true, true, true, true, true, false, true, true, true, true, true, true, false, true, false] ⟨((.pointer (some ⟨P, 0, none⟩)) :: (.pointer (some ⟨D, 0, none⟩)) :: (undef) :: (undef) :: (.pointer (some ⟨w.heap.size, 0, none⟩)) :: (.pointer (some ⟨Bo, 0, none⟩)) :: (.pointer (some ⟨P, 0, none⟩)) :: (.pointer (some ⟨P, 0, none⟩)) :: (.pointer (some ⟨P, 1, none⟩)) :: (.int .i64 (n : Int)) :: (.int .i64 (IntKind.i64.wrap ((n : Int) + 1))) :: (.pointer (some ⟨D, 0, none⟩)) :: (.int .i64 (v1 : Int)) :: (.pointer (some ⟨D, 0, none⟩)) :: (.int .i64 (v2 : Int)) :: (.slice (some ⟨Bs, 0, none⟩) 9 9) :: (.pointer (some ⟨D, 0, none⟩)) :: (.int .i64 (v3 : Int)) :: (.pointer (some ⟨Bs, v3, none⟩)) :: (undef) :: (.pointer (some ⟨D, 0, none⟩)) :: (.int .i64 (v4 : Int)) :: (.int .i64 (IntKind.i64.wrap (95 + (v4 : Int)))) :: (.pointer (some ⟨D, 0, none⟩)) :: (.int .i64 (v5 : Int)) :: (.int .i64 (IntKind.i64.wrap (1 + (v5 : Int)))) :: (undef) :: (undef) :: (undef) :: (undef) :: (undef) :: (undef) :: (undef) :: (undef) :: (undef) :: (undef) :: []).toArray, []⟩ W := by
  have hcell := hR.cell
  have hlt := hR.ply.lt
  have hcv := hN.cells v3 (by omega)
  have hNl := hN.lt
  have hv3n : v3 < 9 := by omega
  refine wpAny_ready (rs := [13]) (by kernel_rfl) (by simp) ?_
  refine AllReady.cons rfl (fun K hK => ?_) ?_
  · simp only [ops53, Tryz.f63]
    go_simp
    refine hK _ _ ?_
    refine wpAny_take (i := 20) (v := .agg #[.int .i64 (IntKind.i64.wrap ((n : Int) + 1)), .int .i64 (v1 : Int), .string ⟨#[65]⟩, .int .i64 (v2 : Int), .int .i64 (kindOf v3), .int .i64 (IntKind.i64.wrap (95 + (v4 : Int))), .int .i64 (IntKind.i64.wrap (1 + (v5 : Int)))]) rfl (by kernel_rfl) (by kernel_rfl) (by kernel_rfl) (fun _ _ _ h => HQ.2 _ _ _ _ _ h) (Or.inl ⟨by rfl, fun w => by simp only [ops53, Tryz.f63]; go_simp⟩) ?_
    exact st_51111 D ao len cap zs base P bv n acts w Q HQ v1 v2 v3 v4 v5 Bs Bo _ hR hv1 hv2 hv3 hv4 hv5 hN hO
  exact AllReady.nil

theorem st_51100 (D : Nat) (ao : Option Addr) (len cap : Nat) (zs : Nat → Int) (base P bv n : Nat) (acts : Int) (w : World) (Q : Exit → Act → World → Prop) (HQ : FinOK D ao len cap zs base P bv n acts w Q) (v1 v2 v3 v4 v5 : Nat) (Bs : Nat) (W : World) (hR : Rolls D ao len cap zs base P bv n acts w W) (hv1 : (v1 : Int) < 4) (hv2 : (v2 : Int) < 2) (hv3 : (v3 : Int) < 9) (hv4 : (v4 : Int) < 10) (hv5 : (v5 : Int) < 9) (hN : NineAt D W Bs) :
    wpAny Tryz.prog .any ops53 Q 4 #[true, true, true, true, true, true, true, true, true, true, true, true, true, false, true, true, true, true, true, true, false, false, false] ⟨((.pointer (some ⟨P, 0, none⟩)) :: (.pointer (some ⟨D, 0, none⟩)) :: (undef) :: (undef) :: (.pointer (some ⟨w.heap.size, 0, none⟩)) :: (undef) :: (.pointer (some ⟨P, 0, none⟩)) :: (.pointer (some ⟨P, 0, none⟩)) :: (.pointer (some ⟨P, 1, none⟩)) :: (.int .i64 (n : Int)) :: (.int .i64 (IntKind.i64.wrap ((n : Int) + 1))) :: (.pointer (some ⟨D, 0, none⟩)) :: (.int .i64 (v1 : Int)) :: (.pointer (some ⟨D, 0, none⟩)) :: (.int .i64 (v2 : Int)) :: (.slice (some ⟨Bs, 0, none⟩) 9 9) :: (.pointer (some ⟨D, 0, none⟩)) :: (.int .i64 (v3 : Int)) :: (.pointer (some ⟨Bs, v3, none⟩)) :: (undef) :: (.pointer (some ⟨D, 0, none⟩)) :: (.int .i64 (v4 : Int)) :: (.int .i64 (IntKind.i64.wrap (95 + (v4 : Int)))) :: (.pointer (some ⟨D, 0, none⟩)) :: (.int .i64 (v5 : Int)) :: (.int .i64 (IntKind.i64.wrap (1 + (v5 : Int)))) :: (undef) :: (undef) :: (undef) :: (undef) :: (undef) :: (undef) :: (undef) :: (undef) :: (undef) :: (undef) :: []).toArray, []⟩ W := by
  have hcell := hR.cell
  have hlt := hR.ply.lt
  have hcv := hN.cells v3 (by omega)
  have hNl := hN.lt
  have hv3n : v3 < 9 := by omega
  refine wpAny_ready (rs := [13, 21]) (by kernel_rfl) (by simp) ?_
  refine AllReady.cons rfl (fun K hK => ?_) ?_
  · simp only [ops53, Tryz.f63]
    go_simp
    refine hK _ _ ?_
    refine wpAny_take (i := 20) (v := .agg #[.int .i64 (IntKind.i64.wrap ((n : Int) + 1)), .int .i64 (v1 : Int), .string ⟨#[65]⟩, .int .i64 (v2 : Int), .int .i64 (kindOf v3), .int .i64 (IntKind.i64.wrap (95 + (v4 : Int))), .int .i64 (IntKind.i64.wrap (1 + (v5 : Int)))]) rfl (by kernel_rfl) (by kernel_rfl) (by kernel_rfl) (fun _ _ _ h => HQ.2 _ _ _ _ _ h) (Or.inl ⟨by rfl, fun w => by simp only [ops53, Tryz.f63]; go_simp⟩) ?_
    exact st_51101 D ao len cap zs base P bv n acts w Q HQ v1 v2 v3 v4 v5 Bs _ hR hv1 hv2 hv3 hv4 hv5 hN
  refine AllReady.cons rfl (fun K hK => ?_) ?_
  · simp only [ops53, Tryz.f63]
    go_simp
    refine hK _ _ ?_
    exact st_51110 D ao len cap zs base P bv n acts w Q HQ v1 v2 v3 v4 v5 Bs _ _ (hR.alloc _) hv1 hv2 hv3 hv4 hv5 (hN.alloc _) (SlotAt.make hR)
  exact AllReady.nil

theorem st_50111 (D : Nat) (ao : Option Addr) (len cap : Nat) (zs : Nat → Int) (base P bv n : Nat) (acts : Int) (w : World) (Q : Exit → Act → World → Prop) (HQ : FinOK D ao len cap zs base P bv n acts w Q) (v1 v2 v3 v4 v5 : Nat) (Bs : Nat) (Bo : Nat) (W : World) (hR : Rolls D ao len cap zs base P bv n acts w W) (hv1 : (v1 : Int) < 4) (hv2 : (v2 : Int) < 2) (hv3 : (v3 : Int) < 9) (hv4 : (v4 : Int) < 10) (hv5 : (v5 : Int) < 9) (hN : NineAt D W Bs) (hO : SlotAt D w W Bo) :
    wpAny Tryz.prog .any ops53 Q 4 #[true, true, true, false, false, true, true, true, true, true, true, true, true, true, true, true, true, true, true, true, false, true, false] ⟨((.pointer (some ⟨P, 0, none⟩)) :: (.pointer (some ⟨D, 0, none⟩)) :: (undef) :: (undef) :: (.pointer (some ⟨w.heap.size, 0, none⟩)) :: (.pointer (some ⟨Bo, 0, none⟩)) :: (.pointer (some ⟨P, 0, none⟩)) :: (.pointer (some ⟨P, 0, none⟩)) :: (.pointer (some ⟨P, 1, none⟩)) :: (undef) :: (undef) :: (.pointer (some ⟨D, 0, none⟩)) :: (.int .i64 (v1 : Int)) :: (.pointer (some ⟨D, 0, none⟩)) :: (.int .i64 (v2 : Int)) :: (.slice (some ⟨Bs, 0, none⟩) 9 9) :: (.pointer (some ⟨D, 0, none⟩)) :: (.int .i64 (v3 : Int)) :: (.pointer (some ⟨Bs, v3, none⟩)) :: (.int .i64 (kindOf v3)) :: (.pointer (some ⟨D, 0, none⟩)) :: (.int .i64 (v4 : Int)) :: (.int .i64 (IntKind.i64.wrap (95 + (v4 : Int)))) :: (.pointer (some ⟨D, 0, none⟩)) :: (.int .i64 (v5 : Int)) :: (.int .i64 (IntKind.i64.wrap (1 + (v5 : Int)))) :: (undef) :: (undef) :: (undef) :: (undef) :: (undef) :: (undef) :: (undef) :: (undef) :: (undef) :: (undef) :: []).toArray, []⟩ W := by
  have hcell := hR.cell
  have hlt := hR.ply.lt
  have hcv := hN.cells v3 (by omega)
  have hNl := hN.lt
  have hv3n : v3 < 9 := by omega
  refine wpAny_ready (rs := [3]) (by kernel_rfl) (by simp) ?_
  refine AllReady.cons rfl (fun K hK => ?_) ?_
  · simp only [ops53, Tryz.f63]
    go_simp
    refine hK _ _ ?_
    refine wpAny_take (i := 4) (v := .int .i64 (IntKind.i64.wrap ((n : Int) + 1))) rfl (by kernel_rfl) (by kernel_rfl) (by kernel_rfl) (fun _ _ _ h => HQ.2 _ _ _ _ _ h) (Or.inl ⟨by rfl, fun w => by simp only [ops53, Tryz.f63]; go_simp⟩) ?_
    refine wpAny_take (i := 20) (v := .agg #[.int .i64 (IntKind.i64.wrap ((n : Int) + 1)), .int .i64 (v1 : Int), .string ⟨#[65]⟩, .int .i64 (v2 : Int), .int .i64 (kindOf v3), .int .i64 (IntKind.i64.wrap (95 + (v4 : Int))), .int .i64 (IntKind.i64.wrap (1 + (v5 : Int)))]) rfl (by kernel_rfl) (by kernel_rfl) (by kernel_rfl) (fun _ _ _ h => HQ.2 _ _ _ _ _ h) (Or.inl ⟨by rfl, fun w => by simp only [ops53, Tryz.f63]; go_simp⟩) ?_
    exact st_51111 D ao len cap zs base P bv n acts w Q HQ v1 v2 v3 v4 v5 Bs Bo _ hR hv1 hv2 hv3 hv4 hv5 hN hO
  exact AllReady.nil

theorem st_41111 (D : Nat) (ao : Option Addr) (len cap : Nat) (zs : Nat → Int) (base P bv n : Nat) (acts : Int) (w : World) (Q : Exit → Act → World → Prop) (HQ : FinOK D ao len cap zs base P bv n acts w Q) (v1 v2 v3 v4 : Nat) (Bs : Nat) (Bo : Nat) (W : World) (hR : Rolls D ao len cap zs base P bv n acts w W) (hv1 : (v1 : Int) < 4) (hv2 : (v2 : Int) < 2) (hv3 : (v3 : Int) < 9) (hv4 : (v4 : Int) < 10) (hN : NineAt D W Bs) (hO : SlotAt D w W Bo) :
    wpAny Tryz.prog .any ops53 Q 4 #[true, true, true, true, true, true, true, true, true, true, true, true, true, true, true, true, true, true, false, false, false, true, false] ⟨((.pointer (some ⟨P, 0, none⟩)) :: (.pointer (some ⟨D, 0, none⟩)) :: (undef) :: (undef) :: (.pointer (some ⟨w.heap.size, 0, none⟩)) :: (.pointer (some ⟨Bo, 0, none⟩)) :: (.pointer (some ⟨P, 0, none⟩)) :: (.pointer (some ⟨P, 0, none⟩)) :: (.pointer (some ⟨P, 1, none⟩)) :: (.int .i64 (n : Int)) :: (.int .i64 (IntKind.i64.wrap ((n : Int) + 1))) :: (.pointer (some ⟨D, 0, none⟩)) :: (.int .i64 (v1 : Int)) :: (.pointer (some ⟨D, 0, none⟩)) :: (.int .i64 (v2 : Int)) :: (.slice (some ⟨Bs, 0, none⟩) 9 9) :: (.pointer (some ⟨D, 0, none⟩)) :: (.int .i64 (v3 : Int)) :: (.pointer (some ⟨Bs, v3, none⟩)) :: (.int .i64 (kindOf v3)) :: (.pointer (some ⟨D, 0, none⟩)) :: (.int .i64 (v4 : Int)) :: (.int .i64 (IntKind.i64.wrap (95 + (v4 : Int)))) :: (.pointer (some ⟨D, 0, none⟩)) :: (undef) :: (undef) :: (undef) :: (undef) :: (undef) :: (undef) :: (undef) :: (undef) :: (undef) :: (undef) :: (undef) :: (undef) :: []).toArray, []⟩ W := by
  have hcell := hR.cell
  have hlt := hR.ply.lt
  have hcv := hN.cells v3 (by omega)
  have hNl := hN.lt
  have hv3n : v3 < 9 := by omega
  refine wpAny_ready (rs := [18]) (by kernel_rfl) (by simp) ?_
  refine AllReady.cons rfl (fun K hK => ?_) ?_
  · simp only [ops53, Tryz.f63]
    go_wp2_with (go_at_call 35; refine (roll_any D ao len cap zs base P bv n acts w W _ hR (by decide) (by decide)).mono ?_; rintro e w' ⟨v5, rfl, hv5, hr, hk⟩)
    refine wpAny_take (i := 19) (v := .int .i64 (IntKind.i64.wrap (1 + (v5 : Int)))) rfl (by kernel_rfl) (by kernel_rfl) (by kernel_rfl) (fun _ _ _ h => HQ.2 _ _ _ _ _ h) (Or.inl ⟨by rfl, fun w => by simp only [ops53, Tryz.f63]; go_simp⟩) ?_
    refine wpAny_take (i := 20) (v := .agg #[.int .i64 (IntKind.i64.wrap ((n : Int) + 1)), .int .i64 (v1 : Int), .string ⟨#[65]⟩, .int .i64 (v2 : Int), .int .i64 (kindOf v3), .int .i64 (IntKind.i64.wrap (95 + (v4 : Int))), .int .i64 (IntKind.i64.wrap (1 + (v5 : Int)))]) rfl (by kernel_rfl) (by kernel_rfl) (by kernel_rfl) (fun _ _ _ h => HQ.2 _ _ _ _ _ h) (Or.inl ⟨by rfl, fun w => by simp only [ops53, Tryz.f63]; go_simp⟩) ?_
    exact st_51111 D ao len cap zs base P bv n acts w Q HQ v1 v2 v3 v4 v5 Bs Bo w' hr hv1 hv2 hv3 hv4 hv5 (hN.keep hk) (hO.keep hk)
  exact AllReady.nil

theorem st_51010 (D : Nat) (ao : Option Addr) (len cap : Nat) (zs : Nat → Int) (base P bv n : Nat) (acts : Int) (w : World) (Q : Exit → Act → World → Prop) (HQ : FinOK D ao len cap zs base P bv n acts w Q) (v1 v2 v3 v4 v5 : Nat) (Bo : Nat) (W : World) (hR : Rolls D ao len cap zs base P bv n acts w W) (hv1 : (v1 : Int) < 4) (hv2 : (v2 : Int) < 2) (hv3 : (v3 : Int) < 9) (hv4 : (v4 : Int) < 10) (hv5 : (v5 : Int) < 9) (hO : SlotAt D w W Bo) :
    wpAny Tryz.prog .any ops53 Q 5 #[true, true, true, true, true, true, true, true, true, false, true, true, false, false, true, true, true, true, true, true, false, true, false] ⟨((.pointer (some ⟨P, 0, none⟩)) :: (.pointer (some ⟨D, 0, none⟩)) :: (undef) :: (undef) :: (.pointer (some ⟨w.heap.size, 0, none⟩)) :: (.pointer (some ⟨Bo, 0, none⟩)) :: (.pointer (some ⟨P, 0, none⟩)) :: (.pointer (some ⟨P, 0, none⟩)) :: (.pointer (some ⟨P, 1, none⟩)) :: (.int .i64 (n : Int)) :: (.int .i64 (IntKind.i64.wrap ((n : Int) + 1))) :: (.pointer (some ⟨D, 0, none⟩)) :: (.int .i64 (v1 : Int)) :: (.pointer (some ⟨D, 0, none⟩)) :: (.int .i64 (v2 : Int)) :: (undef) :: (.pointer (some ⟨D, 0, none⟩)) :: (.int .i64 (v3 : Int)) :: (undef) :: (undef) :: (.pointer (some ⟨D, 0, none⟩)) :: (.int .i64 (v4 : Int)) :: (.int .i64 (IntKind.i64.wrap (95 + (v4 : Int)))) :: (.pointer (some ⟨D, 0, none⟩)) :: (.int .i64 (v5 : Int)) :: (.int .i64 (IntKind.i64.wrap (1 + (v5 : Int)))) :: (undef) :: (undef) :: (undef) :: (undef) :: (undef) :: (undef) :: (undef) :: (undef) :: (undef) :: (undef) :: []).toArray, []⟩ W := by
  have hcell := hR.cell
  have hlt := hR.ply.lt
  refine wpAny_ready (rs := [9]) (by kernel_rfl) (by simp) ?_
  refine AllReady.cons rfl (fun K hK => ?_) ?_
  · simp only [ops53, Tryz.f63]
    go_simp
    refine hK _ _ ?_
    have hv3n : v3 < 9 := by omega
    refine wpAny_take (i := 12) (v := .pointer (some ⟨W.heap.size, v3, none⟩)) rfl (by kernel_rfl) (by kernel_rfl) (by kernel_rfl) (fun _ _ _ h => HQ.2 _ _ _ _ _ h) (Or.inl ⟨by rfl, fun w => by simp only [ops53, Tryz.f63]; go_simp⟩) ?_
    exact st_51110 D ao len cap zs base P bv n acts w Q HQ v1 v2 v3 v4 v5 _ Bo _ (hR.alloc _) hv1 hv2 hv3 hv4 hv5 (NineAt.new hR) (hO.alloc _)
  exact AllReady.nil

theorem st_50110 (D : Nat) (ao : Option Addr) (len cap : Nat) (zs : Nat → Int) (base P bv n : Nat) (acts : Int) (w : World) (Q : Exit → Act → World → Prop) (HQ : FinOK D ao len cap zs base P bv n acts w Q) (v1 v2 v3 v4 v5 : Nat) (Bs : Nat) (Bo : Nat) (W : World) (hR : Rolls D ao len cap zs base P bv n acts w W) (hv1 : (v1 : Int) < 4) (hv2 : (v2 : Int) < 2) (hv3 : (v3 : Int) < 9) (hv4 : (v4 : Int) < 10) (hv5 : (v5 : Int) < 9) (hN : NineAt D W Bs) (hO : SlotAt D w W Bo) :
    wpAny Tryz.prog .any ops53 Q 5 #[true, true, true, false, false, true, true, true, true, true, true, true, true, false, true, true, true, true, true, true, false, true, false] ⟨((.pointer (some ⟨P, 0, none⟩)) :: (.pointer (some ⟨D, 0, none⟩)) :: (undef) :: (undef) :: (.pointer (some ⟨w.heap.size, 0, none⟩)) :: (.pointer (some ⟨Bo, 0, none⟩)) :: (.pointer (some ⟨P, 0, none⟩)) :: (.pointer (some ⟨P, 0, none⟩)) :: (.pointer (some ⟨P, 1, none⟩)) :: (undef) :: (undef) :: (.pointer (some ⟨D, 0, none⟩)) :: (.int .i64 (v1 : Int)) :: (.pointer (some ⟨D, 0, none⟩)) :: (.int .i64 (v2 : Int)) :: (.slice (some ⟨Bs, 0, none⟩) 9 9) :: (.pointer (some ⟨D, 0, none⟩)) :: (.int .i64 (v3 : Int)) :: (.pointer (some ⟨Bs, v3, none⟩)) :: (undef) :: (.pointer (some ⟨D, 0, none⟩)) :: (.int .i64 (v4 : Int)) :: (.int .i64 (IntKind.i64.wrap (95 + (v4 : Int)))) :: (.pointer (some ⟨D, 0, none⟩)) :: (.int .i64 (v5 : Int)) :: (.int .i64 (IntKind.i64.wrap (1 + (v5 : Int)))) :: (undef) :: (undef) :: (undef) :: (undef) :: (undef) :: (undef) :: (undef) :: (undef) :: (undef) :: (undef) :: []).toArray, []⟩ W := by
  have hcell := hR.cell
  have hlt := hR.ply.lt
  have hcv := hN.cells v3 (by omega)
  have hNl := hN.lt
  have hv3n : v3 < 9 := by omega
  refine wpAny_ready (rs := [3, 13]) (by kernel_rfl) (by simp) ?_
  refine AllReady.cons rfl (fun K hK => ?_) ?_
  · simp only [ops53, Tryz.f63]
    go_simp
    refine hK _ _ ?_
    refine wpAny_take (i := 4) (v := .int .i64 (IntKind.i64.wrap ((n : Int) + 1))) rfl (by kernel_rfl) (by kernel_rfl) (by kernel_rfl) (fun _ _ _ h => HQ.2 _ _ _ _ _ h) (Or.inl ⟨by rfl, fun w => by simp only [ops53, Tryz.f63]; go_simp⟩) ?_
    exact st_51110 D ao len cap zs base P bv n acts w Q HQ v1 v2 v3 v4 v5 Bs Bo _ hR hv1 hv2 hv3 hv4 hv5 hN hO
  refine AllReady.cons rfl (fun K hK => ?_) ?_
  · simp only [ops53, Tryz.f63]
    go_simp
    refine hK _ _ ?_
    exact st_50111 D ao len cap zs base P bv n acts w Q HQ v1 v2 v3 v4 v5 Bs Bo _ hR hv1 hv2 hv3 hv4 hv5 hN hO
  exact AllReady.nil

theorem st_50101 (D : Nat) (ao : Option Addr) (len cap : Nat) (zs : Nat → Int) (base P bv n : Nat) (acts : Int) (w : World) (Q : Exit → Act → World → Prop) (HQ : FinOK D ao len cap zs base P bv n acts w Q) (v1 v2 v3 v4 v5 : Nat) (Bs : Nat) (W : World) (hR : Rolls D ao len cap zs base P bv n acts w W) (hv1 : (v1 : Int) < 4) (hv2 : (v2 : Int) < 2) (hv3 : (v3 : Int) < 9) (hv4 : (v4 : Int) < 10) (hv5 : (v5 : Int) < 9) (hN : NineAt D W Bs) :
    wpAny Tryz.prog .any ops53 Q 5 #[true, true, true, false, false, true, true, true, true, true, true, true, true, true, true, true, true, true, true, true, false, false, false] ⟨((.pointer (some ⟨P, 0, none⟩)) :: (.pointer (some ⟨D, 0, none⟩)) :: (undef) :: (undef) :: (.pointer (some ⟨w.heap.size, 0, none⟩)) :: (undef) :: (.pointer (some ⟨P, 0, none⟩)) :: (.pointer (some ⟨P, 0, none⟩)) :: (.pointer (some ⟨P, 1, none⟩)) :: (undef) :: (undef) :: (.pointer (some ⟨D, 0, none⟩)) :: (.int .i64 (v1 : Int)) :: (.pointer (some ⟨D, 0, none⟩)) :: (.int .i64 (v2 : Int)) :: (.slice (some ⟨Bs, 0, none⟩) 9 9) :: (.pointer (some ⟨D, 0, none⟩)) :: (.int .i64 (v3 : Int)) :: (.pointer (some ⟨Bs, v3, none⟩)) :: (.int .i64 (kindOf v3)) :: (.pointer (some ⟨D, 0, none⟩)) :: (.int .i64 (v4 : Int)) :: (.int .i64 (IntKind.i64.wrap (95 + (v4 : Int)))) :: (.pointer (some ⟨D, 0, none⟩)) :: (.int .i64 (v5 : Int)) :: (.int .i64 (IntKind.i64.wrap (1 + (v5 : Int)))) :: (undef) :: (undef) :: (undef) :: (undef) :: (undef) :: (undef) :: (undef) :: (undef) :: (undef) :: (undef) :: []).toArray, []⟩ W := by
  have hcell := hR.cell
  have hlt := hR.ply.lt
  have hcv := hN.cells v3 (by omega)
  have hNl := hN.lt
  have hv3n : v3 < 9 := by omega
  refine wpAny_ready (rs := [3, 21]) (by kernel_rfl) (by simp) ?_
  refine AllReady.cons rfl (fun K hK => ?_) ?_
  · simp only [ops53, Tryz.f63]
    go_simp
    refine hK _ _ ?_
    refine wpAny_take (i := 4) (v := .int .i64 (IntKind.i64.wrap ((n : Int) + 1))) rfl (by kernel_rfl) (by kernel_rfl) (by kernel_rfl) (fun _ _ _ h => HQ.2 _ _ _ _ _ h) (Or.inl ⟨by rfl, fun w => by simp only [ops53, Tryz.f63]; go_simp⟩) ?_
    refine wpAny_take (i := 20) (v := .agg #[.int .i64 (IntKind.i64.wrap ((n : Int) + 1)), .int .i64 (v1 : Int), .string ⟨#[65]⟩, .int .i64 (v2 : Int), .int .i64 (kindOf v3), .int .i64 (IntKind.i64.wrap (95 + (v4 : Int))), .int .i64 (IntKind.i64.wrap (1 + (v5 : Int)))]) rfl (by kernel_rfl) (by kernel_rfl) (by kernel_rfl) (fun _ _ _ h => HQ.2 _ _ _ _ _ h) (Or.inl ⟨by rfl, fun w => by simp only [ops53, Tryz.f63]; go_simp⟩) ?_
    exact st_51101 D ao len cap zs base P bv n acts w Q HQ v1 v2 v3 v4 v5 Bs _ hR hv1 hv2 hv3 hv4 hv5 hN
  refine AllReady.cons rfl (fun K hK => ?_) ?_
  · simp only [ops53, Tryz.f63]
    go_simp
    refine hK _ _ ?_
    exact st_50111 D ao len cap zs base P bv n acts w Q HQ v1 v2 v3 v4 v5 Bs _ _ (hR.alloc _) hv1 hv2 hv3 hv4 hv5 (hN.alloc _) (SlotAt.make hR)
  exact AllReady.nil

theorem st_41110 (D : Nat) (ao : Option Addr) (len cap : Nat) (zs : Nat → Int) (base P bv n : Nat) (acts : Int) (w : World) (Q : Exit → Act → World → Prop) (HQ : FinOK D ao len cap zs base P bv n acts w Q) (v1 v2 v3 v4 : Nat) (Bs : Nat) (Bo : Nat) (W : World) (hR : Rolls D ao len cap zs base P bv n acts w W) (hv1 : (v1 : Int) < 4) (hv2 : (v2 : Int) < 2) (hv3 : (v3 : Int) < 9) (hv4 : (v4 : Int) < 10) (hN : NineAt D W Bs) (hO : SlotAt D w W Bo) :
    wpAny Tryz.prog .any ops53 Q 5 #[true, true, true, true, true, true, true, true, true, true, true, true, true, false, true, true, true, true, false, false, false, true, false] ⟨((.pointer (some ⟨P, 0, none⟩)) :: (.pointer (some ⟨D, 0, none⟩)) :: (undef) :: (undef) :: (.pointer (some ⟨w.heap.size, 0, none⟩)) :: (.pointer (some ⟨Bo, 0, none⟩)) :: (.pointer (some ⟨P, 0, none⟩)) :: (.pointer (some ⟨P, 0, none⟩)) :: (.pointer (some ⟨P, 1, none⟩)) :: (.int .i64 (n : Int)) :: (.int .i64 (IntKind.i64.wrap ((n : Int) + 1))) :: (.pointer (some ⟨D, 0, none⟩)) :: (.int .i64 (v1 : Int)) :: (.pointer (some ⟨D, 0, none⟩)) :: (.int .i64 (v2 : Int)) :: (.slice (some ⟨Bs, 0, none⟩) 9 9) :: (.pointer (some ⟨D, 0, none⟩)) :: (.int .i64 (v3 : Int)) :: (.pointer (some ⟨Bs, v3, none⟩)) :: (undef) :: (.pointer (some ⟨D, 0, none⟩)) :: (.int .i64 (v4 : Int)) :: (.int .i64 (IntKind.i64.wrap (95 + (v4 : Int)))) :: (.pointer (some ⟨D, 0, none⟩)) :: (undef) :: (undef) :: (undef) :: (undef) :: (undef) :: (undef) :: (undef) :: (undef) :: (undef) :: (undef) :: (undef) :: (undef) :: []).toArray, []⟩ W := by
  have hcell := hR.cell
  have hlt := hR.ply.lt
  have hcv := hN.cells v3 (by omega)
  have hNl := hN.lt
  have hv3n : v3 < 9 := by omega
  refine wpAny_ready (rs := [13, 18]) (by kernel_rfl) (by simp) ?_
  refine AllReady.cons rfl (fun K hK => ?_) ?_
  · simp only [ops53, Tryz.f63]
    go_simp
    refine hK _ _ ?_
    exact st_41111 D ao len cap zs base P bv n acts w Q HQ v1 v2 v3 v4 Bs Bo _ hR hv1 hv2 hv3 hv4 hN hO
  refine AllReady.cons rfl (fun K hK => ?_) ?_
  · simp only [ops53, Tryz.f63]
    go_wp2_with (go_at_call 35; refine (roll_any D ao len cap zs base P bv n acts w W _ hR (by decide) (by decide)).mono ?_; rintro e w' ⟨v5, rfl, hv5, hr, hk⟩)
    refine wpAny_take (i := 19) (v := .int .i64 (IntKind.i64.wrap (1 + (v5 : Int)))) rfl (by kernel_rfl) (by kernel_rfl) (by kernel_rfl) (fun _ _ _ h => HQ.2 _ _ _ _ _ h) (Or.inl ⟨by rfl, fun w => by simp only [ops53, Tryz.f63]; go_simp⟩) ?_
    exact st_51110 D ao len cap zs base P bv n acts w Q HQ v1 v2 v3 v4 v5 Bs Bo w' hr hv1 hv2 hv3 hv4 hv5 (hN.keep hk) (hO.keep hk)
  exact AllReady.nil

theorem st_41101 (D : Nat) (ao : Option Addr) (len cap : Nat) (zs : Nat → Int) (base P bv n : Nat) (acts : Int) (w : World) (Q : Exit → Act → World → Prop) (HQ : FinOK D ao len cap zs base P bv n acts w Q) (v1 v2 v3 v4 : Nat) (Bs : Nat) (W : World) (hR : Rolls D ao len cap zs base P bv n acts w W) (hv1 : (v1 : Int) < 4) (hv2 : (v2 : Int) < 2) (hv3 : (v3 : Int) < 9) (hv4 : (v4 : Int) < 10) (hN : NineAt D W Bs) :
    wpAny Tryz.prog .any ops53 Q 5 #[true, true, true, true, true, true, true, true, true, true, true, true, true, true, true, true, true, true, false, false, false, false, false] ⟨((.pointer (some ⟨P, 0, none⟩)) :: (.pointer (some ⟨D, 0, none⟩)) :: (undef) :: (undef) :: (.pointer (some ⟨w.heap.size, 0, none⟩)) :: (undef) :: (.pointer (some ⟨P, 0, none⟩)) :: (.pointer (some ⟨P, 0, none⟩)) :: (.pointer (some ⟨P, 1, none⟩)) :: (.int .i64 (n : Int)) :: (.int .i64 (IntKind.i64.wrap ((n : Int) + 1))) :: (.pointer (some ⟨D, 0, none⟩)) :: (.int .i64 (v1 : Int)) :: (.pointer (some ⟨D, 0, none⟩)) :: (.int .i64 (v2 : Int)) :: (.slice (some ⟨Bs, 0, none⟩) 9 9) :: (.pointer (some ⟨D, 0, none⟩)) :: (.int .i64 (v3 : Int)) :: (.pointer (some ⟨Bs, v3, none⟩)) :: (.int .i64 (kindOf v3)) :: (.pointer (some ⟨D, 0, none⟩)) :: (.int .i64 (v4 : Int)) :: (.int .i64 (IntKind.i64.wrap (95 + (v4 : Int)))) :: (.pointer (some ⟨D, 0, none⟩)) :: (undef) :: (undef) :: (undef) :: (undef) :: (undef) :: (undef) :: (undef) :: (undef) :: (undef) :: (undef) :: (undef) :: (undef) :: []).toArray, []⟩ W := by
  have hcell := hR.cell
  have hlt := hR.ply.lt
  have hcv := hN.cells v3 (by omega)
  have hNl := hN.lt
  have hv3n : v3 < 9 := by omega
  refine wpAny_ready (rs := [18, 21]) (by kernel_rfl) (by simp) ?_
  refine AllReady.cons rfl (fun K hK => ?_) ?_
  · simp only [ops53, Tryz.f63]
    go_wp2_with (go_at_call 35; refine (roll_any D ao len cap zs base P bv n acts w W _ hR (by decide) (by decide)).mono ?_; rintro e w' ⟨v5, rfl, hv5, hr, hk⟩)
    refine wpAny_take (i := 19) (v := .int .i64 (IntKind.i64.wrap (1 + (v5 : Int)))) rfl (by kernel_rfl) (by kernel_rfl) (by kernel_rfl) (fun _ _ _ h => HQ.2 _ _ _ _ _ h) (Or.inl ⟨by rfl, fun w => by simp only [ops53, Tryz.f63]; go_simp⟩) ?_
    refine wpAny_take (i := 20) (v := .agg #[.int .i64 (IntKind.i64.wrap ((n : Int) + 1)), .int .i64 (v1 : Int), .string ⟨#[65]⟩, .int .i64 (v2 : Int), .int .i64 (kindOf v3), .int .i64 (IntKind.i64.wrap (95 + (v4 : Int))), .int .i64 (IntKind.i64.wrap (1 + (v5 : Int)))]) rfl (by kernel_rfl) (by kernel_rfl) (by kernel_rfl) (fun _ _ _ h => HQ.2 _ _ _ _ _ h) (Or.inl ⟨by rfl, fun w => by simp only [ops53, Tryz.f63]; go_simp⟩) ?_
    exact st_51101 D ao len cap zs base P bv n acts w Q HQ v1 v2 v3 v4 v5 Bs w' hr hv1 hv2 hv3 hv4 hv5 (hN.keep hk)
  refine AllReady.cons rfl (fun K hK => ?_) ?_
  · simp only [ops53, Tryz.f63]
    go_simp
    refine hK _ _ ?_
    exact st_41111 D ao len cap zs base P bv n acts w Q HQ v1 v2 v3 v4 Bs _ _ (hR.alloc _) hv1 hv2 hv3 hv4 (hN.alloc _) (SlotAt.make hR)
  exact AllReady.nil

theorem st_51000 (D : Nat) (ao : Option Addr) (len cap : Nat) (zs : Nat → Int) (base P bv n : Nat) (acts : Int) (w : World) (Q : Exit → Act → World → Prop) (HQ : FinOK D ao len cap zs base P bv n acts w Q) (v1 v2 v3 v4 v5 : Nat) (W : World) (hR : Rolls D ao len cap zs base P bv n acts w W) (hv1 : (v1 : Int) < 4) (hv2 : (v2 : Int) < 2) (hv3 : (v3 : Int) < 9) (hv4 : (v4 : Int) < 10) (hv5 : (v5 : Int) < 9) :
    wpAny Tryz.prog .any ops53 Q 6 #[true, true, true, true, true, true, true, true, true, false, true, true, false, false, true, true, true, true, true, true, false, false, false] ⟨((.pointer (some ⟨P, 0, none⟩)) :: (.pointer (some ⟨D, 0, none⟩)) :: (undef) :: (undef) :: (.pointer (some ⟨w.heap.size, 0, none⟩)) :: (undef) :: (.pointer (some ⟨P, 0, none⟩)) :: (.pointer (some ⟨P, 0, none⟩)) :: (.pointer (some ⟨P, 1, none⟩)) :: (.int .i64 (n : Int)) :: (.int .i64 (IntKind.i64.wrap ((n : Int) + 1))) :: (.pointer (some ⟨D, 0, none⟩)) :: (.int .i64 (v1 : Int)) :: (.pointer (some ⟨D, 0, none⟩)) :: (.int .i64 (v2 : Int)) :: (undef) :: (.pointer (some ⟨D, 0, none⟩)) :: (.int .i64 (v3 : Int)) :: (undef) :: (undef) :: (.pointer (some ⟨D, 0, none⟩)) :: (.int .i64 (v4 : Int)) :: (.int .i64 (IntKind.i64.wrap (95 + (v4 : Int)))) :: (.pointer (some ⟨D, 0, none⟩)) :: (.int .i64 (v5 : Int)) :: (.int .i64 (IntKind.i64.wrap (1 + (v5 : Int)))) :: (undef) :: (undef) :: (undef) :: (undef) :: (undef) :: (undef) :: (undef) :: (undef) :: (undef) :: (undef) :: []).toArray, []⟩ W := by
  have hcell := hR.cell
  have hlt := hR.ply.lt
  refine wpAny_ready (rs := [9, 21]) (by kernel_rfl) (by simp) ?_
  refine AllReady.cons rfl (fun K hK => ?_) ?_
  · simp only [ops53, Tryz.f63]
    go_simp
    refine hK _ _ ?_
    have hv3n : v3 < 9 := by omega
    refine wpAny_take (i := 12) (v := .pointer (some ⟨W.heap.size, v3, none⟩)) rfl (by kernel_rfl) (by kernel_rfl) (by kernel_rfl) (fun _ _ _ h => HQ.2 _ _ _ _ _ h) (Or.inl ⟨by rfl, fun w => by simp only [ops53, Tryz.f63]; go_simp⟩) ?_
    exact st_51100 D ao len cap zs base P bv n acts w Q HQ v1 v2 v3 v4 v5 _ _ (hR.alloc _) hv1 hv2 hv3 hv4 hv5 (NineAt.new hR)
  refine AllReady.cons rfl (fun K hK => ?_) ?_
  · simp only [ops53, Tryz.f63]
    go_simp
    refine hK _ _ ?_
    exact st_51010 D ao len cap zs base P bv n acts w Q HQ v1 v2 v3 v4 v5 _ _ (hR.alloc _) hv1 hv2 hv3 hv4 hv5 (SlotAt.make hR)
  exact AllReady.nil

theorem st_50100 (D : Nat) (ao : Option Addr) (len cap : Nat) (zs : Nat → Int) (base P bv n : Nat) (acts : Int) (w : World) (Q : Exit → Act → World → Prop) (HQ : FinOK D ao len cap zs base P bv n acts w Q) (v1 v2 v3 v4 v5 : Nat) (Bs : Nat) (W : World) (hR : Rolls D ao len cap zs base P bv n acts w W) (hv1 : (v1 : Int) < 4) (hv2 : (v2 : Int) < 2) (hv3 : (v3 : Int) < 9) (hv4 : (v4 : Int) < 10) (hv5 : (v5 : Int) < 9) (hN : NineAt D W Bs) :
    wpAny Tryz.prog .any ops53 Q 6 #[true, true, true, false, false, true, true, true, true, true, true, true, true, false, true, true, true, true, true, true, false, false, false] ⟨((.pointer (some ⟨P, 0, none⟩)) :: (.pointer (some ⟨D, 0, none⟩)) :: (undef) :: (undef) :: (.pointer (some ⟨w.heap.size, 0, none⟩)) :: (undef) :: (.pointer (some ⟨P, 0, none⟩)) :: (.pointer (some ⟨P, 0, none⟩)) :: (.pointer (some ⟨P, 1, none⟩)) :: (undef) :: (undef) :: (.pointer (some ⟨D, 0, none⟩)) :: (.int .i64 (v1 : Int)) :: (.pointer (some ⟨D, 0, none⟩)) :: (.int .i64 (v2 : Int)) :: (.slice (some ⟨Bs, 0, none⟩) 9 9) :: (.pointer (some ⟨D, 0, none⟩)) :: (.int .i64 (v3 : Int)) :: (.pointer (some ⟨Bs, v3, none⟩)) :: (undef) :: (.pointer (some ⟨D, 0, none⟩)) :: (.int .i64 (v4 : Int)) :: (.int .i64 (IntKind.i64.wrap (95 + (v4 : Int)))) :: (.pointer (some ⟨D, 0, none⟩)) :: (.int .i64 (v5 : Int)) :: (.int .i64 (IntKind.i64.wrap (1 + (v5 : Int)))) :: (undef) :: (undef) :: (undef) :: (undef) :: (undef) :: (undef) :: (undef) :: (undef) :: (undef) :: (undef) :: []).toArray, []⟩ W := by
  have hcell := hR.cell
  have hlt := hR.ply.lt
  have hcv := hN.cells v3 (by omega)
  have hNl := hN.lt
  have hv3n : v3 < 9 := by omega
  refine wpAny_ready (rs := [3, 13, 21]) (by kernel_rfl) (by simp) ?_
  refine AllReady.cons rfl (fun K hK => ?_) ?_
  · simp only [ops53, Tryz.f63]
    go_simp
    refine hK _ _ ?_
    refine wpAny_take (i := 4) (v := .int .i64 (IntKind.i64.wrap ((n : Int) + 1))) rfl (by kernel_rfl) (by kernel_rfl) (by kernel_rfl) (fun _ _ _ h => HQ.2 _ _ _ _ _ h) (Or.inl ⟨by rfl, fun w => by simp only [ops53, Tryz.f63]; go_simp⟩) ?_
    exact st_51100 D ao len cap zs base P bv n acts w Q HQ v1 v2 v3 v4 v5 Bs _ hR hv1 hv2 hv3 hv4 hv5 hN
  refine AllReady.cons rfl (fun K hK => ?_) ?_
  · simp only [ops53, Tryz.f63]
    go_simp
    refine hK _ _ ?_
    exact st_50101 D ao len cap zs base P bv n acts w Q HQ v1 v2 v3 v4 v5 Bs _ hR hv1 hv2 hv3 hv4 hv5 hN
  refine AllReady.cons rfl (fun K hK => ?_) ?_
  · simp only [ops53, Tryz.f63]
    go_simp
    refine hK _ _ ?_
    exact st_50110 D ao len cap zs base P bv n acts w Q HQ v1 v2 v3 v4 v5 Bs _ _ (hR.alloc _) hv1 hv2 hv3 hv4 hv5 (hN.alloc _) (SlotAt.make hR)
  exact AllReady.nil

theorem st_41100 (D : Nat) (ao : Option Addr) (len cap : Nat) (zs : Nat → Int) (base P bv n : Nat) (acts : Int) (w : World) (Q : Exit → Act → World → Prop) (HQ : FinOK D ao len cap zs base P bv n acts w Q) (v1 v2 v3 v4 : Nat) (Bs : Nat) (W : World) (hR : Rolls D ao len cap zs base P bv n acts w W) (hv1 : (v1 : Int) < 4) (hv2 : (v2 : Int) < 2) (hv3 : (v3 : Int) < 9) (hv4 : (v4 : Int) < 10) (hN : NineAt D W Bs) :
    wpAny Tryz.prog .any ops53 Q 6 #[true, true, true, true, true, true, true, true, true, true, true, true, true, false, true, true, true, true, false, false, false, false, false] ⟨((.pointer (some ⟨P, 0, none⟩)) :: (.pointer (some ⟨D, 0, none⟩)) :: (undef) :: (undef) :: (.pointer (some ⟨w.heap.size, 0, none⟩)) :: (undef) :: (.pointer (some ⟨P, 0, none⟩)) :: (.pointer (some ⟨P, 0, none⟩)) :: (.pointer (some ⟨P, 1, none⟩)) :: (.int .i64 (n : Int)) :: (.int .i64 (IntKind.i64.wrap ((n : Int) + 1))) :: (.pointer (some ⟨D, 0, none⟩)) :: (.int .i64 (v1 : Int)) :: (.pointer (some ⟨D, 0, none⟩)) :: (.int .i64 (v2 : Int)) :: (.slice (some ⟨Bs, 0, none⟩) 9 9) :: (.pointer (some ⟨D, 0, none⟩)) :: (.int .i64 (v3 : Int)) :: (.pointer (some ⟨Bs, v3, none⟩)) :: (undef) :: (.pointer (some ⟨D, 0, none⟩)) :: (.int .i64 (v4 : Int)) :: (.int .i64 (IntKind.i64.wrap (95 + (v4 : Int)))) :: (.pointer (some ⟨D, 0, none⟩)) :: (undef) :: (undef) :: (undef) :: (undef) :: (undef) :: (undef) :: (undef) :: (undef) :: (undef) :: (undef) :: (undef) :: (undef) :: []).toArray, []⟩ W := by
  have hcell := hR.cell
  have hlt := hR.ply.lt
  have hcv := hN.cells v3 (by omega)
  have hNl := hN.lt
  have hv3n : v3 < 9 := by omega
  refine wpAny_ready (rs := [13, 18, 21]) (by kernel_rfl) (by simp) ?_
  refine AllReady.cons rfl (fun K hK => ?_) ?_
  · simp only [ops53, Tryz.f63]
    go_simp
    refine hK _ _ ?_
    exact st_41101 D ao len cap zs base P bv n acts w Q HQ v1 v2 v3 v4 Bs _ hR hv1 hv2 hv3 hv4 hN
  refine AllReady.cons rfl (fun K hK => ?_) ?_
  · simp only [ops53, Tryz.f63]
    go_wp2_with (go_at_call 35; refine (roll_any D ao len cap zs base P bv n acts w W _ hR (by decide) (by decide)).mono ?_; rintro e w' ⟨v5, rfl, hv5, hr, hk⟩)
    refine wpAny_take (i := 19) (v := .int .i64 (IntKind.i64.wrap (1 + (v5 : Int)))) rfl (by kernel_rfl) (by kernel_rfl) (by kernel_rfl) (fun _ _ _ h => HQ.2 _ _ _ _ _ h) (Or.inl ⟨by rfl, fun w => by simp only [ops53, Tryz.f63]; go_simp⟩) ?_
    exact st_51100 D ao len cap zs base P bv n acts w Q HQ v1 v2 v3 v4 v5 Bs w' hr hv1 hv2 hv3 hv4 hv5 (hN.keep hk)
  refine AllReady.cons rfl (fun K hK => ?_) ?_
  · simp only [ops53, Tryz.f63]
    go_simp
    refine hK _ _ ?_
    exact st_41110 D ao len cap zs base P bv n acts w Q HQ v1 v2 v3 v4 Bs _ _ (hR.alloc _) hv1 hv2 hv3 hv4 (hN.alloc _) (SlotAt.make hR)
  exact AllReady.nil

theorem st_40111 (D : Nat) (ao : Option Addr) (len cap : Nat) (zs : Nat → Int) (base P bv n : Nat) (acts : Int) (w : World) (Q : Exit → Act → World → Prop) (HQ : FinOK D ao len cap zs base P bv n acts w Q) (v1 v2 v3 v4 : Nat) (Bs : Nat) (Bo : Nat) (W : World) (hR : Rolls D ao len cap zs base P bv n acts w W) (hv1 : (v1 : Int) < 4) (hv2 : (v2 : Int) < 2) (hv3 : (v3 : Int) < 9) (hv4 : (v4 : Int) < 10) (hN : NineAt D W Bs) (hO : SlotAt D w W Bo) :
    wpAny Tryz.prog .any ops53 Q 6 #[true, true, true, false, false, true, true, true, true, true, true, true, true, true, true, true, true, true, false, false, false, true, false] ⟨((.pointer (some ⟨P, 0, none⟩)) :: (.pointer (some ⟨D, 0, none⟩)) :: (undef) :: (undef) :: (.pointer (some ⟨w.heap.size, 0, none⟩)) :: (.pointer (some ⟨Bo, 0, none⟩)) :: (.pointer (some ⟨P, 0, none⟩)) :: (.pointer (some ⟨P, 0, none⟩)) :: (.pointer (some ⟨P, 1, none⟩)) :: (undef) :: (undef) :: (.pointer (some ⟨D, 0, none⟩)) :: (.int .i64 (v1 : Int)) :: (.pointer (some ⟨D, 0, none⟩)) :: (.int .i64 (v2 : Int)) :: (.slice (some ⟨Bs, 0, none⟩) 9 9) :: (.pointer (some ⟨D, 0, none⟩)) :: (.int .i64 (v3 : Int)) :: (.pointer (some ⟨Bs, v3, none⟩)) :: (.int .i64 (kindOf v3)) :: (.pointer (some ⟨D, 0, none⟩)) :: (.int .i64 (v4 : Int)) :: (.int .i64 (IntKind.i64.wrap (95 + (v4 : Int)))) :: (.pointer (some ⟨D, 0, none⟩)) :: (undef) :: (undef) :: (undef) :: (undef) :: (undef) :: (undef) :: (undef) :: (undef) :: (undef) :: (undef) :: (undef) :: (undef) :: []).toArray, []⟩ W := by
  have hcell := hR.cell
  have hlt := hR.ply.lt
  have hcv := hN.cells v3 (by omega)
  have hNl := hN.lt
  have hv3n : v3 < 9 := by omega
  refine wpAny_ready (rs := [3, 18]) (by kernel_rfl) (by simp) ?_
  refine AllReady.cons rfl (fun K hK => ?_) ?_
  · simp only [ops53, Tryz.f63]
    go_simp
    refine hK _ _ ?_
    refine wpAny_take (i := 4) (v := .int .i64 (IntKind.i64.wrap ((n : Int) + 1))) rfl (by kernel_rfl) (by kernel_rfl) (by kernel_rfl) (fun _ _ _ h => HQ.2 _ _ _ _ _ h) (Or.inl ⟨by rfl, fun w => by simp only [ops53, Tryz.f63]; go_simp⟩) ?_
    exact st_41111 D ao len cap zs base P bv n acts w Q HQ v1 v2 v3 v4 Bs Bo _ hR hv1 hv2 hv3 hv4 hN hO
  refine AllReady.cons rfl (fun K hK => ?_) ?_
  · simp only [ops53, Tryz.f63]
    go_wp2_with (go_at_call 35; refine (roll_any D ao len cap zs base P bv n acts w W _ hR (by decide) (by decide)).mono ?_; rintro e w' ⟨v5, rfl, hv5, hr, hk⟩)
    refine wpAny_take (i := 19) (v := .int .i64 (IntKind.i64.wrap (1 + (v5 : Int)))) rfl (by kernel_rfl) (by kernel_rfl) (by kernel_rfl) (fun _ _ _ h => HQ.2 _ _ _ _ _ h) (Or.inl ⟨by rfl, fun w => by simp only [ops53, Tryz.f63]; go_simp⟩) ?_
    exact st_50111 D ao len cap zs base P bv n acts w Q HQ v1 v2 v3 v4 v5 Bs Bo w' hr hv1 hv2 hv3 hv4 hv5 (hN.keep hk) (hO.keep hk)
  exact AllReady.nil

theorem st_31111 (D : Nat) (ao : Option Addr) (len cap : Nat) (zs : Nat → Int) (base P bv n : Nat) (acts : Int) (w : World) (Q : Exit → Act → World → Prop) (HQ : FinOK D ao len cap zs base P bv n acts w Q) (v1 v2 v3 : Nat) (Bs : Nat) (Bo : Nat) (W : World) (hR : Rolls D ao len cap zs base P bv n acts w W) (hv1 : (v1 : Int) < 4) (hv2 : (v2 : Int) < 2) (hv3 : (v3 : Int) < 9) (hN : NineAt D W Bs) (hO : SlotAt D w W Bo) :
    wpAny Tryz.prog .any ops53 Q 6 #[true, true, true, true, true, true, true, true, true, true, true, true, true, true, true, false, false, true, false, false, false, true, false] ⟨((.pointer (some ⟨P, 0, none⟩)) :: (.pointer (some ⟨D, 0, none⟩)) :: (undef) :: (undef) :: (.pointer (some ⟨w.heap.size, 0, none⟩)) :: (.pointer (some ⟨Bo, 0, none⟩)) :: (.pointer (some ⟨P, 0, none⟩)) :: (.pointer (some ⟨P, 0, none⟩)) :: (.pointer (some ⟨P, 1, none⟩)) :: (.int .i64 (n : Int)) :: (.int .i64 (IntKind.i64.wrap ((n : Int) + 1))) :: (.pointer (some ⟨D, 0, none⟩)) :: (.int .i64 (v1 : Int)) :: (.pointer (some ⟨D, 0, none⟩)) :: (.int .i64 (v2 : Int)) :: (.slice (some ⟨Bs, 0, none⟩) 9 9) :: (.pointer (some ⟨D, 0, none⟩)) :: (.int .i64 (v3 : Int)) :: (.pointer (some ⟨Bs, v3, none⟩)) :: (.int .i64 (kindOf v3)) :: (.pointer (some ⟨D, 0, none⟩)) :: (undef) :: (undef) :: (.pointer (some ⟨D, 0, none⟩)) :: (undef) :: (undef) :: (undef) :: (undef) :: (undef) :: (undef) :: (undef) :: (undef) :: (undef) :: (undef) :: (undef) :: (undef) :: []).toArray, []⟩ W := by
  have hcell := hR.cell
  have hlt := hR.ply.lt
  have hcv := hN.cells v3 (by omega)
  have hNl := hN.lt
  have hv3n : v3 < 9 := by omega
  refine wpAny_ready (rs := [15]) (by kernel_rfl) (by simp) ?_
  refine AllReady.cons rfl (fun K hK => ?_) ?_
  · simp only [ops53, Tryz.f63]
    go_wp2_with (go_at_call 35; refine (roll_any D ao len cap zs base P bv n acts w W _ hR (by decide) (by decide)).mono ?_; rintro e w' ⟨v4, rfl, hv4, hr, hk⟩)
    refine wpAny_take (i := 16) (v := .int .i64 (IntKind.i64.wrap (95 + (v4 : Int)))) rfl (by kernel_rfl) (by kernel_rfl) (by kernel_rfl) (fun _ _ _ h => HQ.2 _ _ _ _ _ h) (Or.inl ⟨by rfl, fun w => by simp only [ops53, Tryz.f63]; go_simp⟩) ?_
    exact st_41111 D ao len cap zs base P bv n acts w Q HQ v1 v2 v3 v4 Bs Bo w' hr hv1 hv2 hv3 hv4 (hN.keep hk) (hO.keep hk)
  exact AllReady.nil

theorem st_50010 (D : Nat) (ao : Option Addr) (len cap : Nat) (zs : Nat → Int) (base P bv n : Nat) (acts : Int) (w : World) (Q : Exit → Act → World → Prop) (HQ : FinOK D ao len cap zs base P bv n acts w Q) (v1 v2 v3 v4 v5 : Nat) (Bo : Nat) (W : World) (hR : Rolls D ao len cap zs base P bv n acts w W) (hv1 : (v1 : Int) < 4) (hv2 : (v2 : Int) < 2) (hv3 : (v3 : Int) < 9) (hv4 : (v4 : Int) < 10) (hv5 : (v5 : Int) < 9) (hO : SlotAt D w W Bo) :
    wpAny Tryz.prog .any ops53 Q 7 #[true, true, true, false, false, true, true, true, true, false, true, true, false, false, true, true, true, true, true, true, false, true, false] ⟨((.pointer (some ⟨P, 0, none⟩)) :: (.pointer (some ⟨D, 0, none⟩)) :: (undef) :: (undef) :: (.pointer (some ⟨w.heap.size, 0, none⟩)) :: (.pointer (some ⟨Bo, 0, none⟩)) :: (.pointer (some ⟨P, 0, none⟩)) :: (.pointer (some ⟨P, 0, none⟩)) :: (.pointer (some ⟨P, 1, none⟩)) :: (undef) :: (undef) :: (.pointer (some ⟨D, 0, none⟩)) :: (.int .i64 (v1 : Int)) :: (.pointer (some ⟨D, 0, none⟩)) :: (.int .i64 (v2 : Int)) :: (undef) :: (.pointer (some ⟨D, 0, none⟩)) :: (.int .i64 (v3 : Int)) :: (undef) :: (undef) :: (.pointer (some ⟨D, 0, none⟩)) :: (.int .i64 (v4 : Int)) :: (.int .i64 (IntKind.i64.wrap (95 + (v4 : Int)))) :: (.pointer (some ⟨D, 0, none⟩)) :: (.int .i64 (v5 : Int)) :: (.int .i64 (IntKind.i64.wrap (1 + (v5 : Int)))) :: (undef) :: (undef) :: (undef) :: (undef) :: (undef) :: (undef) :: (undef) :: (undef) :: (undef) :: (undef) :: []).toArray, []⟩ W := by
  have hcell := hR.cell
  have hlt := hR.ply.lt
  refine wpAny_ready (rs := [3, 9]) (by kernel_rfl) (by simp) ?_
  refine AllReady.cons rfl (fun K hK => ?_) ?_
  · simp only [ops53, Tryz.f63]
    go_simp
    refine hK _ _ ?_
    refine wpAny_take (i := 4) (v := .int .i64 (IntKind.i64.wrap ((n : Int) + 1))) rfl (by kernel_rfl) (by kernel_rfl) (by kernel_rfl) (fun _ _ _ h => HQ.2 _ _ _ _ _ h) (Or.inl ⟨by rfl, fun w => by simp only [ops53, Tryz.f63]; go_simp⟩) ?_
    exact st_51010 D ao len cap zs base P bv n acts w Q HQ v1 v2 v3 v4 v5 Bo _ hR hv1 hv2 hv3 hv4 hv5 hO
  refine AllReady.cons rfl (fun K hK => ?_) ?_
  · simp only [ops53, Tryz.f63]
    go_simp
    refine hK _ _ ?_
    have hv3n : v3 < 9 := by omega
    refine wpAny_take (i := 12) (v := .pointer (some ⟨W.heap.size, v3, none⟩)) rfl (by kernel_rfl) (by kernel_rfl) (by kernel_rfl) (fun _ _ _ h => HQ.2 _ _ _ _ _ h) (Or.inl ⟨by rfl, fun w => by simp only [ops53, Tryz.f63]; go_simp⟩) ?_
    exact st_50110 D ao len cap zs base P bv n acts w Q HQ v1 v2 v3 v4 v5 _ Bo _ (hR.alloc _) hv1 hv2 hv3 hv4 hv5 (NineAt.new hR) (hO.alloc _)
  exact AllReady.nil

theorem st_41010 (D : Nat) (ao : Option Addr) (len cap : Nat) (zs : Nat → Int) (base P bv n : Nat) (acts : Int) (w : World) (Q : Exit → Act → World → Prop) (HQ : FinOK D ao len cap zs base P bv n acts w Q) (v1 v2 v3 v4 : Nat) (Bo : Nat) (W : World) (hR : Rolls D ao len cap zs base P bv n acts w W) (hv1 : (v1 : Int) < 4) (hv2 : (v2 : Int) < 2) (hv3 : (v3 : Int) < 9) (hv4 : (v4 : Int) < 10) (hO : SlotAt D w W Bo) :
    wpAny Tryz.prog .any ops53 Q 7 #[true, true, true, true, true, true, true, true, true, false, true, true, false, false, true, true, true, true, false, false, false, true, false] ⟨((.pointer (some ⟨P, 0, none⟩)) :: (.pointer (some ⟨D, 0, none⟩)) :: (undef) :: (undef) :: (.pointer (some ⟨w.heap.size, 0, none⟩)) :: (.pointer (some ⟨Bo, 0, none⟩)) :: (.pointer (some ⟨P, 0, none⟩)) :: (.pointer (some ⟨P, 0, none⟩)) :: (.pointer (some ⟨P, 1, none⟩)) :: (.int .i64 (n : Int)) :: (.int .i64 (IntKind.i64.wrap ((n : Int) + 1))) :: (.pointer (some ⟨D, 0, none⟩)) :: (.int .i64 (v1 : Int)) :: (.pointer (some ⟨D, 0, none⟩)) :: (.int .i64 (v2 : Int)) :: (undef) :: (.pointer (some ⟨D, 0, none⟩)) :: (.int .i64 (v3 : Int)) :: (undef) :: (undef) :: (.pointer (some ⟨D, 0, none⟩)) :: (.int .i64 (v4 : Int)) :: (.int .i64 (IntKind.i64.wrap (95 + (v4 : Int)))) :: (.pointer (some ⟨D, 0, none⟩)) :: (undef) :: (undef) :: (undef) :: (undef) :: (undef) :: (undef) :: (undef) :: (undef) :: (undef) :: (undef) :: (undef) :: (undef) :: []).toArray, []⟩ W := by
  have hcell := hR.cell
  have hlt := hR.ply.lt
  refine wpAny_ready (rs := [9, 18]) (by kernel_rfl) (by simp) ?_
  refine AllReady.cons rfl (fun K hK => ?_) ?_
  · simp only [ops53, Tryz.f63]
    go_simp
    refine hK _ _ ?_
    have hv3n : v3 < 9 := by omega
    refine wpAny_take (i := 12) (v := .pointer (some ⟨W.heap.size, v3, none⟩)) rfl (by kernel_rfl) (by kernel_rfl) (by kernel_rfl) (fun _ _ _ h => HQ.2 _ _ _ _ _ h) (Or.inl ⟨by rfl, fun w => by simp only [ops53, Tryz.f63]; go_simp⟩) ?_
    exact st_41110 D ao len cap zs base P bv n acts w Q HQ v1 v2 v3 v4 _ Bo _ (hR.alloc _) hv1 hv2 hv3 hv4 (NineAt.new hR) (hO.alloc _)
  refine AllReady.cons rfl (fun K hK => ?_) ?_
  · simp only [ops53, Tryz.f63]
    go_wp2_with (go_at_call 35; refine (roll_any D ao len cap zs base P bv n acts w W _ hR (by decide) (by decide)).mono ?_; rintro e w' ⟨v5, rfl, hv5, hr, hk⟩)
    refine wpAny_take (i := 19) (v := .int .i64 (IntKind.i64.wrap (1 + (v5 : Int)))) rfl (by kernel_rfl) (by kernel_rfl) (by kernel_rfl) (fun _ _ _ h => HQ.2 _ _ _ _ _ h) (Or.inl ⟨by rfl, fun w => by simp only [ops53, Tryz.f63]; go_simp⟩) ?_
    exact st_51010 D ao len cap zs base P bv n acts w Q HQ v1 v2 v3 v4 v5 Bo w' hr hv1 hv2 hv3 hv4 hv5 (hO.keep hk)
  exact AllReady.nil

theorem st_40110 (D : Nat) (ao : Option Addr) (len cap : Nat) (zs : Nat → Int) (base P bv n : Nat) (acts : Int) (w : World) (Q : Exit → Act → World → Prop) (HQ : FinOK D ao len cap zs base P bv n acts w Q) (v1 v2 v3 v4 : Nat) (Bs : Nat) (Bo : Nat) (W : World) (hR : Rolls D ao len cap zs base P bv n acts w W) (hv1 : (v1 : Int) < 4) (hv2 : (v2 : Int) < 2) (hv3 : (v3 : Int) < 9) (hv4 : (v4 : Int) < 10) (hN : NineAt D W Bs) (hO : SlotAt D w W Bo) :
    wpAny Tryz.prog .any ops53 Q 7 #[true, true, true, false, false, true, true, true, true, true, true, true, true, false, true, true, true, true, false, false, false, true, false] ⟨((.pointer (some ⟨P, 0, none⟩)) :: (.pointer (some ⟨D, 0, none⟩)) :: (undef) :: (undef) :: (.pointer (some ⟨w.heap.size, 0, none⟩)) :: (.pointer (some ⟨Bo, 0, none⟩)) :: (.pointer (some ⟨P, 0, none⟩)) :: (.pointer (some ⟨P, 0, none⟩)) :: (.pointer (some ⟨P, 1, none⟩)) :: (undef) :: (undef) :: (.pointer (some ⟨D, 0, none⟩)) :: (.int .i64 (v1 : Int)) :: (.pointer (some ⟨D, 0, none⟩)) :: (.int .i64 (v2 : Int)) :: (.slice (some ⟨Bs, 0, none⟩) 9 9) :: (.pointer (some ⟨D, 0, none⟩)) :: (.int .i64 (v3 : Int)) :: (.pointer (some ⟨Bs, v3, none⟩)) :: (undef) :: (.pointer (some ⟨D, 0, none⟩)) :: (.int .i64 (v4 : Int)) :: (.int .i64 (IntKind.i64.wrap (95 + (v4 : Int)))) :: (.pointer (some ⟨D, 0, none⟩)) :: (undef) :: (undef) :: (undef) :: (undef) :: (undef) :: (undef) :: (undef) :: (undef) :: (undef) :: (undef) :: (undef) :: (undef) :: []).toArray, []⟩ W := by
  have hcell := hR.cell
  have hlt := hR.ply.lt
  have hcv := hN.cells v3 (by omega)
  have hNl := hN.lt
  have hv3n : v3 < 9 := by omega
  refine wpAny_ready (rs := [3, 13, 18]) (by kernel_rfl) (by simp) ?_
  refine AllReady.cons rfl (fun K hK => ?_) ?_
  · simp only [ops53, Tryz.f63]
    go_simp
    refine hK _ _ ?_
    refine wpAny_take (i := 4) (v := .int .i64 (IntKind.i64.wrap ((n : Int) + 1))) rfl (by kernel_rfl) (by kernel_rfl) (by kernel_rfl) (fun _ _ _ h => HQ.2 _ _ _ _ _ h) (Or.inl ⟨by rfl, fun w => by simp only [ops53, Tryz.f63]; go_simp⟩) ?_
    exact st_41110 D ao len cap zs base P bv n acts w Q HQ v1 v2 v3 v4 Bs Bo _ hR hv1 hv2 hv3 hv4 hN hO
  refine AllReady.cons rfl (fun K hK => ?_) ?_
  · simp only [ops53, Tryz.f63]
    go_simp
    refine hK _ _ ?_
    exact st_40111 D ao len cap zs base P bv n acts w Q HQ v1 v2 v3 v4 Bs Bo _ hR hv1 hv2 hv3 hv4 hN hO
  refine AllReady.cons rfl (fun K hK => ?_) ?_
  · simp only [ops53, Tryz.f63]
    go_wp2_with (go_at_call 35; refine (roll_any D ao len cap zs base P bv n acts w W _ hR (by decide) (by decide)).mono ?_; rintro e w' ⟨v5, rfl, hv5, hr, hk⟩)
    refine wpAny_take (i := 19) (v := .int .i64 (IntKind.i64.wrap (1 + (v5 : Int)))) rfl (by kernel_rfl) (by kernel_rfl) (by kernel_rfl) (fun _ _ _ h => HQ.2 _ _ _ _ _ h) (Or.inl ⟨by rfl, fun w => by simp only [ops53, Tryz.f63]; go_simp⟩) ?_
    exact st_50110 D ao len cap zs base P bv n acts w Q HQ v1 v2 v3 v4 v5 Bs Bo w' hr hv1 hv2 hv3 hv4 hv5 (hN.keep hk) (hO.keep hk)
  exact AllReady.nil

theorem st_40101 (D : Nat) (ao : Option Addr) (len cap : Nat) (zs : Nat → Int) (base P bv n : Nat) (acts : Int) (w : World) (Q : Exit → Act → World → Prop) (HQ : FinOK D ao len cap zs base P bv n acts w Q) (v1 v2 v3 v4 : Nat) (Bs : Nat) (W : World) (hR : Rolls D ao len cap zs base P bv n acts w W) (hv1 : (v1 : Int) < 4) (hv2 : (v2 : Int) < 2) (hv3 : (v3 : Int) < 9) (hv4 : (v4 : Int) < 10) (hN : NineAt D W Bs) :
    wpAny Tryz.prog .any ops53 Q 7 #[true, true, true, false, false, true, true, true, true, true, true, true, true, true, true, true, true, true, false, false, false, false, false] ⟨((.pointer (some ⟨P, 0, none⟩)) :: (.pointer (some ⟨D, 0, none⟩)) :: (undef) :: (undef) :: (.pointer (some ⟨w.heap.size, 0, none⟩)) :: (undef) :: (.pointer (some ⟨P, 0, none⟩)) :: (.pointer (some ⟨P, 0, none⟩)) :: (.pointer (some ⟨P, 1, none⟩)) :: (undef) :: (undef) :: (.pointer (some ⟨D, 0, none⟩)) :: (.int .i64 (v1 : Int)) :: (.pointer (some ⟨D, 0, none⟩)) :: (.int .i64 (v2 : Int)) :: (.slice (some ⟨Bs, 0, none⟩) 9 9) :: (.pointer (some ⟨D, 0, none⟩)) :: (.int .i64 (v3 : Int)) :: (.pointer (some ⟨Bs, v3, none⟩)) :: (.int .i64 (kindOf v3)) :: (.pointer (some ⟨D, 0, none⟩)) :: (.int .i64 (v4 : Int)) :: (.int .i64 (IntKind.i64.wrap (95 + (v4 : Int)))) :: (.pointer (some ⟨D, 0, none⟩)) :: (undef) :: (undef) :: (undef) :: (undef) :: (undef) :: (undef) :: (undef) :: (undef) :: (undef) :: (undef) :: (undef) :: (undef) :: []).toArray, []⟩ W := by
  have hcell := hR.cell
  have hlt := hR.ply.lt
  have hcv := hN.cells v3 (by omega)
  have hNl := hN.lt
  have hv3n : v3 < 9 := by omega
  refine wpAny_ready (rs := [3, 18, 21]) (by kernel_rfl) (by simp) ?_
  refine AllReady.cons rfl (fun K hK => ?_) ?_
  · simp only [ops53, Tryz.f63]
    go_simp
    refine hK _ _ ?_
    refine wpAny_take (i := 4) (v := .int .i64 (IntKind.i64.wrap ((n : Int) + 1))) rfl (by kernel_rfl) (by kernel_rfl) (by kernel_rfl) (fun _ _ _ h => HQ.2 _ _ _ _ _ h) (Or.inl ⟨by rfl, fun w => by simp only [ops53, Tryz.f63]; go_simp⟩) ?_
    exact st_41101 D ao len cap zs base P bv n acts w Q HQ v1 v2 v3 v4 Bs _ hR hv1 hv2 hv3 hv4 hN
  refine AllReady.cons rfl (fun K hK => ?_) ?_
  · simp only [ops53, Tryz.f63]
    go_wp2_with (go_at_call 35; refine (roll_any D ao len cap zs base P bv n acts w W _ hR (by decide) (by decide)).mono ?_; rintro e w' ⟨v5, rfl, hv5, hr, hk⟩)
    refine wpAny_take (i := 19) (v := .int .i64 (IntKind.i64.wrap (1 + (v5 : Int)))) rfl (by kernel_rfl) (by kernel_rfl) (by kernel_rfl) (fun _ _ _ h => HQ.2 _ _ _ _ _ h) (Or.inl ⟨by rfl, fun w => by simp only [ops53, Tryz.f63]; go_simp⟩) ?_
    exact st_50101 D ao len cap zs base P bv n acts w Q HQ v1 v2 v3 v4 v5 Bs w' hr hv1 hv2 hv3 hv4 hv5 (hN.keep hk)
  refine AllReady.cons rfl (fun K hK => ?_) ?_
  · simp only [ops53, Tryz.f63]
    go_simp
    refine hK _ _ ?_
    exact st_40111 D ao len cap zs base P bv n acts w Q HQ v1 v2 v3 v4 Bs _ _ (hR.alloc _) hv1 hv2 hv3 hv4 (hN.alloc _) (SlotAt.make hR)
  exact AllReady.nil

theorem st_31110 (D : Nat) (ao : Option Addr) (len cap : Nat) (zs : Nat → Int) (base P bv n : Nat) (acts : Int) (w : World) (Q : Exit → Act → World → Prop) (HQ : FinOK D ao len cap zs base P bv n acts w Q) (v1 v2 v3 : Nat) (Bs : Nat) (Bo : Nat) (W : World) (hR : Rolls D ao len cap zs base P bv n acts w W) (hv1 : (v1 : Int) < 4) (hv2 : (v2 : Int) < 2) (hv3 : (v3 : Int) < 9) (hN : NineAt D W Bs) (hO : SlotAt D w W Bo) :
    wpAny Tryz.prog .any ops53 Q 7 #[true, true, true, true, true, true, true, true, true, true, true, true, true, false, true, false, false, true, false, false, false, true, false] ⟨((.pointer (some ⟨P, 0, none⟩)) :: (.pointer (some ⟨D, 0, none⟩)) :: (undef) :: (undef) :: (.pointer (some ⟨w.heap.size, 0, none⟩)) :: (.pointer (some ⟨Bo, 0, none⟩)) :: (.pointer (some ⟨P, 0, none⟩)) :: (.pointer (some ⟨P, 0, none⟩)) :: (.pointer (some ⟨P, 1, none⟩)) :: (.int .i64 (n : Int)) :: (.int .i64 (IntKind.i64.wrap ((n : Int) + 1))) :: (.pointer (some ⟨D, 0, none⟩)) :: (.int .i64 (v1 : Int)) :: (.pointer (some ⟨D, 0, none⟩)) :: (.int .i64 (v2 : Int)) :: (.slice (some ⟨Bs, 0, none⟩) 9 9) :: (.pointer (some ⟨D, 0, none⟩)) :: (.int .i64 (v3 : Int)) :: (.pointer (some ⟨Bs, v3, none⟩)) :: (undef) :: (.pointer (some ⟨D, 0, none⟩)) :: (undef) :: (undef) :: (.pointer (some ⟨D, 0, none⟩)) :: (undef) :: (undef) :: (undef) :: (undef) :: (undef) :: (undef) :: (undef) :: (undef) :: (undef) :: (undef) :: (undef) :: (undef) :: []).toArray, []⟩ W := by
  have hcell := hR.cell
  have hlt := hR.ply.lt
  have hcv := hN.cells v3 (by omega)
  have hNl := hN.lt
  have hv3n : v3 < 9 := by omega
  refine wpAny_ready (rs := [13, 15]) (by kernel_rfl) (by simp) ?_
  refine AllReady.cons rfl (fun K hK => ?_) ?_
  · simp only [ops53, Tryz.f63]
    go_simp
    refine hK _ _ ?_
    exact st_31111 D ao len cap zs base P bv n acts w Q HQ v1 v2 v3 Bs Bo _ hR hv1 hv2 hv3 hN hO
  refine AllReady.cons rfl (fun K hK => ?_) ?_
  · simp only [ops53, Tryz.f63]
    go_wp2_with (go_at_call 35; refine (roll_any D ao len cap zs base P bv n acts w W _ hR (by decide) (by decide)).mono ?_; rintro e w' ⟨v4, rfl, hv4, hr, hk⟩)
    refine wpAny_take (i := 16) (v := .int .i64 (IntKind.i64.wrap (95 + (v4 : Int)))) rfl (by kernel_rfl) (by kernel_rfl) (by kernel_rfl) (fun _ _ _ h => HQ.2 _ _ _ _ _ h) (Or.inl ⟨by rfl, fun w => by simp only [ops53, Tryz.f63]; go_simp⟩) ?_
    exact st_41110 D ao len cap zs base P bv n acts w Q HQ v1 v2 v3 v4 Bs Bo w' hr hv1 hv2 hv3 hv4 (hN.keep hk) (hO.keep hk)
  exact AllReady.nil

theorem st_31101 (D : Nat) (ao : Option Addr) (len cap : Nat) (zs : Nat → Int) (base P bv n : Nat) (acts : Int) (w : World) (Q : Exit → Act → World → Prop) (HQ : FinOK D ao len cap zs base P bv n acts w Q) (v1 v2 v3 : Nat) (Bs : Nat) (W : World) (hR : Rolls D ao len cap zs base P bv n acts w W) (hv1 : (v1 : Int) < 4) (hv2 : (v2 : Int) < 2) (hv3 : (v3 : Int) < 9) (hN : NineAt D W Bs) :
    wpAny Tryz.prog .any ops53 Q 7 #[true, true, true, true, true, true, true, true, true, true, true, true, true, true, true, false, false, true, false, false, false, false, false] ⟨((.pointer (some ⟨P, 0, none⟩)) :: (.pointer (some ⟨D, 0, none⟩)) :: (undef) :: (undef) :: (.pointer (some ⟨w.heap.size, 0, none⟩)) :: (undef) :: (.pointer (some ⟨P, 0, none⟩)) :: (.pointer (some ⟨P, 0, none⟩)) :: (.pointer (some ⟨P, 1, none⟩)) :: (.int .i64 (n : Int)) :: (.int .i64 (IntKind.i64.wrap ((n : Int) + 1))) :: (.pointer (some ⟨D, 0, none⟩)) :: (.int .i64 (v1 : Int)) :: (.pointer (some ⟨D, 0, none⟩)) :: (.int .i64 (v2 : Int)) :: (.slice (some ⟨Bs, 0, none⟩) 9 9) :: (.pointer (some ⟨D, 0, none⟩)) :: (.int .i64 (v3 : Int)) :: (.pointer (some ⟨Bs, v3, none⟩)) :: (.int .i64 (kindOf v3)) :: (.pointer (some ⟨D, 0, none⟩)) :: (undef) :: (undef) :: (.pointer (some ⟨D, 0, none⟩)) :: (undef) :: (undef) :: (undef) :: (undef) :: (undef) :: (undef) :: (undef) :: (undef) :: (undef) :: (undef) :: (undef) :: (undef) :: []).toArray, []⟩ W := by
  have hcell := hR.cell
  have hlt := hR.ply.lt
  have hcv := hN.cells v3 (by omega)
  have hNl := hN.lt
  have hv3n : v3 < 9 := by omega
  refine wpAny_ready (rs := [15, 21]) (by kernel_rfl) (by simp) ?_
  refine AllReady.cons rfl (fun K hK => ?_) ?_
  · simp only [ops53, Tryz.f63]
    go_wp2_with (go_at_call 35; refine (roll_any D ao len cap zs base P bv n acts w W _ hR (by decide) (by decide)).mono ?_; rintro e w' ⟨v4, rfl, hv4, hr, hk⟩)
    refine wpAny_take (i := 16) (v := .int .i64 (IntKind.i64.wrap (95 + (v4 : Int)))) rfl (by kernel_rfl) (by kernel_rfl) (by kernel_rfl) (fun _ _ _ h => HQ.2 _ _ _ _ _ h) (Or.inl ⟨by rfl, fun w => by simp only [ops53, Tryz.f63]; go_simp⟩) ?_
    exact st_41101 D ao len cap zs base P bv n acts w Q HQ v1 v2 v3 v4 Bs w' hr hv1 hv2 hv3 hv4 (hN.keep hk)
  refine AllReady.cons rfl (fun K hK => ?_) ?_
  · simp only [ops53, Tryz.f63]
    go_simp
    refine hK _ _ ?_
    exact st_31111 D ao len cap zs base P bv n acts w Q HQ v1 v2 v3 Bs _ _ (hR.alloc _) hv1 hv2 hv3 (hN.alloc _) (SlotAt.make hR)
  exact AllReady.nil

theorem st_50000 (D : Nat) (ao : Option Addr) (len cap : Nat) (zs : Nat → Int) (base P bv n : Nat) (acts : Int) (w : World) (Q : Exit → Act → World → Prop) (HQ : FinOK D ao len cap zs base P bv n acts w Q) (v1 v2 v3 v4 v5 : Nat) (W : World) (hR : Rolls D ao len cap zs base P bv n acts w W) (hv1 : (v1 : Int) < 4) (hv2 : (v2 : Int) < 2) (hv3 : (v3 : Int) < 9) (hv4 : (v4 : Int) < 10) (hv5 : (v5 : Int) < 9) :
    wpAny Tryz.prog .any ops53 Q 8 #[true, true, true, false, false, true, true, true, true, false, true, true, false, false, true, true, true, true, true, true, false, false, false] ⟨((.pointer (some ⟨P, 0, none⟩)) :: (.pointer (some ⟨D, 0, none⟩)) :: (undef) :: (undef) :: (.pointer (some ⟨w.heap.size, 0, none⟩)) :: (undef) :: (.pointer (some ⟨P, 0, none⟩)) :: (.pointer (some ⟨P, 0, none⟩)) :: (.pointer (some ⟨P, 1, none⟩)) :: (undef) :: (undef) :: (.pointer (some ⟨D, 0, none⟩)) :: (.int .i64 (v1 : Int)) :: (.pointer (some ⟨D, 0, none⟩)) :: (.int .i64 (v2 : Int)) :: (undef) :: (.pointer (some ⟨D, 0, none⟩)) :: (.int .i64 (v3 : Int)) :: (undef) :: (undef) :: (.pointer (some ⟨D, 0, none⟩)) :: (.int .i64 (v4 : Int)) :: (.int .i64 (IntKind.i64.wrap (95 + (v4 : Int)))) :: (.pointer (some ⟨D, 0, none⟩)) :: (.int .i64 (v5 : Int)) :: (.int .i64 (IntKind.i64.wrap (1 + (v5 : Int)))) :: (undef) :: (undef) :: (undef) :: (undef) :: (undef) :: (undef) :: (undef) :: (undef) :: (undef) :: (undef) :: []).toArray, []⟩ W := by
  have hcell := hR.cell
  have hlt := hR.ply.lt
  refine wpAny_ready (rs := [3, 9, 21]) (by kernel_rfl) (by simp) ?_
  refine AllReady.cons rfl (fun K hK => ?_) ?_
  · simp only [ops53, Tryz.f63]
    go_simp
    refine hK _ _ ?_
    refine wpAny_take (i := 4) (v := .int .i64 (IntKind.i64.wrap ((n : Int) + 1))) rfl (by kernel_rfl) (by kernel_rfl) (by kernel_rfl) (fun _ _ _ h => HQ.2 _ _ _ _ _ h) (Or.inl ⟨by rfl, fun w => by simp only [ops53, Tryz.f63]; go_simp⟩) ?_
    exact st_51000 D ao len cap zs base P bv n acts w Q HQ v1 v2 v3 v4 v5 _ hR hv1 hv2 hv3 hv4 hv5
  refine AllReady.cons rfl (fun K hK => ?_) ?_
  · simp only [ops53, Tryz.f63]
    go_simp
    refine hK _ _ ?_
    have hv3n : v3 < 9 := by omega
    refine wpAny_take (i := 12) (v := .pointer (some ⟨W.heap.size, v3, none⟩)) rfl (by kernel_rfl) (by kernel_rfl) (by kernel_rfl) (fun _ _ _ h => HQ.2 _ _ _ _ _ h) (Or.inl ⟨by rfl, fun w => by simp only [ops53, Tryz.f63]; go_simp⟩) ?_
    exact st_50100 D ao len cap zs base P bv n acts w Q HQ v1 v2 v3 v4 v5 _ _ (hR.alloc _) hv1 hv2 hv3 hv4 hv5 (NineAt.new hR)
  refine AllReady.cons rfl (fun K hK => ?_) ?_
  · simp only [ops53, Tryz.f63]
    go_simp
    refine hK _ _ ?_
    exact st_50010 D ao len cap zs base P bv n acts w Q HQ v1 v2 v3 v4 v5 _ _ (hR.alloc _) hv1 hv2 hv3 hv4 hv5 (SlotAt.make hR)
  exact AllReady.nil

theorem st_41000 (D : Nat) (ao : Option Addr) (len cap : Nat) (zs : Nat → Int) (base P bv n : Nat) (acts : Int) (w : World) (Q : Exit → Act → World → Prop) (HQ : FinOK D ao len cap zs base P bv n acts w Q) (v1 v2 v3 v4 : Nat) (W : World) (hR : Rolls D ao len cap zs base P bv n acts w W) (hv1 : (v1 : Int) < 4) (hv2 : (v2 : Int) < 2) (hv3 : (v3 : Int) < 9) (hv4 : (v4 : Int) < 10) :
    wpAny Tryz.prog .any ops53 Q 8 #[true, true, true, true, true, true, true, true, true, false, true, true, false, false, true, true, true, true, false, false, false, false, false] ⟨((.pointer (some ⟨P, 0, none⟩)) :: (.pointer (some ⟨D, 0, none⟩)) :: (undef) :: (undef) :: (.pointer (some ⟨w.heap.size, 0, none⟩)) :: (undef) :: (.pointer (some ⟨P, 0, none⟩)) :: (.pointer (some ⟨P, 0, none⟩)) :: (.pointer (some ⟨P, 1, none⟩)) :: (.int .i64 (n : Int)) :: (.int .i64 (IntKind.i64.wrap ((n : Int) + 1))) :: (.pointer (some ⟨D, 0, none⟩)) :: (.int .i64 (v1 : Int)) :: (.pointer (some ⟨D, 0, none⟩)) :: (.int .i64 (v2 : Int)) :: (undef) :: (.pointer (some ⟨D, 0, none⟩)) :: (.int .i64 (v3 : Int)) :: (undef) :: (undef) :: (.pointer (some ⟨D, 0, none⟩)) :: (.int .i64 (v4 : Int)) :: (.int .i64 (IntKind.i64.wrap (95 + (v4 : Int)))) :: (.pointer (some ⟨D, 0, none⟩)) :: (undef) :: (undef) :: (undef) :: (undef) :: (undef) :: (undef) :: (undef) :: (undef) :: (undef) :: (undef) :: (undef) :: (undef) :: []).toArray, []⟩ W := by
  have hcell := hR.cell
  have hlt := hR.ply.lt
  refine wpAny_ready (rs := [9, 18, 21]) (by kernel_rfl) (by simp) ?_
  refine AllReady.cons rfl (fun K hK => ?_) ?_
  · simp only [ops53, Tryz.f63]
    go_simp
    refine hK _ _ ?_
    have hv3n : v3 < 9 := by omega
    refine wpAny_take (i := 12) (v := .pointer (some ⟨W.heap.size, v3, none⟩)) rfl (by kernel_rfl) (by kernel_rfl) (by kernel_rfl) (fun _ _ _ h => HQ.2 _ _ _ _ _ h) (Or.inl ⟨by rfl, fun w => by simp only [ops53, Tryz.f63]; go_simp⟩) ?_
    exact st_41100 D ao len cap zs base P bv n acts w Q HQ v1 v2 v3 v4 _ _ (hR.alloc _) hv1 hv2 hv3 hv4 (NineAt.new hR)
  refine AllReady.cons rfl (fun K hK => ?_) ?_
  · simp only [ops53, Tryz.f63]
    go_wp2_with (go_at_call 35; refine (roll_any D ao len cap zs base P bv n acts w W _ hR (by decide) (by decide)).mono ?_; rintro e w' ⟨v5, rfl, hv5, hr, hk⟩)
    refine wpAny_take (i := 19) (v := .int .i64 (IntKind.i64.wrap (1 + (v5 : Int)))) rfl (by kernel_rfl) (by kernel_rfl) (by kernel_rfl) (fun _ _ _ h => HQ.2 _ _ _ _ _ h) (Or.inl ⟨by rfl, fun w => by simp only [ops53, Tryz.f63]; go_simp⟩) ?_
    exact st_51000 D ao len cap zs base P bv n acts w Q HQ v1 v2 v3 v4 v5 w' hr hv1 hv2 hv3 hv4 hv5
  refine AllReady.cons rfl (fun K hK => ?_) ?_
  · simp only [ops53, Tryz.f63]
    go_simp
    refine hK _ _ ?_
    exact st_41010 D ao len cap zs base P bv n acts w Q HQ v1 v2 v3 v4 _ _ (hR.alloc _) hv1 hv2 hv3 hv4 (SlotAt.make hR)
  exact AllReady.nil

theorem st_40100 (D : Nat) (ao : Option Addr) (len cap : Nat) (zs : Nat → Int) (base P bv n : Nat) (acts : Int) (w : World) (Q : Exit → Act → World → Prop) (HQ : FinOK D ao len cap zs base P bv n acts w Q) (v1 v2 v3 v4 : Nat) (Bs : Nat) (W : World) (hR : Rolls D ao len cap zs base P bv n acts w W) (hv1 : (v1 : Int) < 4) (hv2 : (v2 : Int) < 2) (hv3 : (v3 : Int) < 9) (hv4 : (v4 : Int) < 10) (hN : NineAt D W Bs) :
    wpAny Tryz.prog .any ops53 Q 8 #[true, true, true, false, false, true, true, true, true, true, true, true, true, false, true, true, true, true, false, false, false, false, false] ⟨((.pointer (some ⟨P, 0, none⟩)) :: (.pointer (some ⟨D, 0, none⟩)) :: (undef) :: (undef) :: (.pointer (some ⟨w.heap.size, 0, none⟩)) :: (undef) :: (.pointer (some ⟨P, 0, none⟩)) :: (.pointer (some ⟨P, 0, none⟩)) :: (.pointer (some ⟨P, 1, none⟩)) :: (undef) :: (undef) :: (.pointer (some ⟨D, 0, none⟩)) :: (.int .i64 (v1 : Int)) :: (.pointer (some ⟨D, 0, none⟩)) :: (.int .i64 (v2 : Int)) :: (.slice (some ⟨Bs, 0, none⟩) 9 9) :: (.pointer (some ⟨D, 0, none⟩)) :: (.int .i64 (v3 : Int)) :: (.pointer (some ⟨Bs, v3, none⟩)) :: (undef) :: (.pointer (some ⟨D, 0, none⟩)) :: (.int .i64 (v4 : Int)) :: (.int .i64 (IntKind.i64.wrap (95 + (v4 : Int)))) :: (.pointer (some ⟨D, 0, none⟩)) :: (undef) :: (undef) :: (undef) :: (undef) :: (undef) :: (undef) :: (undef) :: (undef) :: (undef) :: (undef) :: (undef) :: (undef) :: []).toArray, []⟩ W := by
  have hcell := hR.cell
  have hlt := hR.ply.lt
  have hcv := hN.cells v3 (by omega)
  have hNl := hN.lt
  have hv3n : v3 < 9 := by omega
  refine wpAny_ready (rs := [3, 13, 18, 21]) (by kernel_rfl) (by simp) ?_
  refine AllReady.cons rfl (fun K hK => ?_) ?_
  · simp only [ops53, Tryz.f63]
    go_simp
    refine hK _ _ ?_
    refine wpAny_take (i := 4) (v := .int .i64 (IntKind.i64.wrap ((n : Int) + 1))) rfl (by kernel_rfl) (by kernel_rfl) (by kernel_rfl) (fun _ _ _ h => HQ.2 _ _ _ _ _ h) (Or.inl ⟨by rfl, fun w => by simp only [ops53, Tryz.f63]; go_simp⟩) ?_
    exact st_41100 D ao len cap zs base P bv n acts w Q HQ v1 v2 v3 v4 Bs _ hR hv1 hv2 hv3 hv4 hN
  refine AllReady.cons rfl (fun K hK => ?_) ?_
  · simp only [ops53, Tryz.f63]
    go_simp
    refine hK _ _ ?_
    exact st_40101 D ao len cap zs base P bv n acts w Q HQ v1 v2 v3 v4 Bs _ hR hv1 hv2 hv3 hv4 hN
  refine AllReady.cons rfl (fun K hK => ?_) ?_
  · simp only [ops53, Tryz.f63]
    go_wp2_with (go_at_call 35; refine (roll_any D ao len cap zs base P bv n acts w W _ hR (by decide) (by decide)).mono ?_; rintro e w' ⟨v5, rfl, hv5, hr, hk⟩)
    refine wpAny_take (i := 19) (v := .int .i64 (IntKind.i64.wrap (1 + (v5 : Int)))) rfl (by kernel_rfl) (by kernel_rfl) (by kernel_rfl) (fun _ _ _ h => HQ.2 _ _ _ _ _ h) (Or.inl ⟨by rfl, fun w => by simp only [ops53, Tryz.f63]; go_simp⟩) ?_
    exact st_50100 D ao len cap zs base P bv n acts w Q HQ v1 v2 v3 v4 v5 Bs w' hr hv1 hv2 hv3 hv4 hv5 (hN.keep hk)
  refine AllReady.cons rfl (fun K hK => ?_) ?_
  · simp only [ops53, Tryz.f63]
    go_simp
    refine hK _ _ ?_
    exact st_40110 D ao len cap zs base P bv n acts w Q HQ v1 v2 v3 v4 Bs _ _ (hR.alloc _) hv1 hv2 hv3 hv4 (hN.alloc _) (SlotAt.make hR)
  exact AllReady.nil

theorem st_31100 (D : Nat) (ao : Option Addr) (len cap : Nat) (zs : Nat → Int) (base P bv n : Nat) (acts : Int) (w : World) (Q : Exit → Act → World → Prop) (HQ : FinOK D ao len cap zs base P bv n acts w Q) (v1 v2 v3 : Nat) (Bs : Nat) (W : World) (hR : Rolls D ao len cap zs base P bv n acts w W) (hv1 : (v1 : Int) < 4) (hv2 : (v2 : Int) < 2) (hv3 : (v3 : Int) < 9) (hN : NineAt D W Bs) :
    wpAny Tryz.prog .any ops53 Q 8 #[true, true, true, true, true, true, true, true, true, true, true, true, true, false, true, false, false, true, false, false, false, false, false] ⟨((.pointer (some ⟨P, 0, none⟩)) :: (.pointer (some ⟨D, 0, none⟩)) :: (undef) :: (undef) :: (.pointer (some ⟨w.heap.size, 0, none⟩)) :: (undef) :: (.pointer (some ⟨P, 0, none⟩)) :: (.pointer (some ⟨P, 0, none⟩)) :: (.pointer (some ⟨P, 1, none⟩)) :: (.int .i64 (n : Int)) :: (.int .i64 (IntKind.i64.wrap ((n : Int) + 1))) :: (.pointer (some ⟨D, 0, none⟩)) :: (.int .i64 (v1 : Int)) :: (.pointer (some ⟨D, 0, none⟩)) :: (.int .i64 (v2 : Int)) :: (.slice (some ⟨Bs, 0, none⟩) 9 9) :: (.pointer (some ⟨D, 0, none⟩)) :: (.int .i64 (v3 : Int)) :: (.pointer (some ⟨Bs, v3, none⟩)) :: (undef) :: (.pointer (some ⟨D, 0, none⟩)) :: (undef) :: (undef) :: (.pointer (some ⟨D, 0, none⟩)) :: (undef) :: (undef) :: (undef) :: (undef) :: (undef) :: (undef) :: (undef) :: (undef) :: (undef) :: (undef) :: (undef) :: (undef) :: []).toArray, []⟩ W := by
  have hcell := hR.cell
  have hlt := hR.ply.lt
  have hcv := hN.cells v3 (by omega)
  have hNl := hN.lt
  have hv3n : v3 < 9 := by omega
  refine wpAny_ready (rs := [13, 15, 21]) (by kernel_rfl) (by simp) ?_
  refine AllReady.cons rfl (fun K hK => ?_) ?_
  · simp only [ops53, Tryz.f63]
    go_simp
    refine hK _ _ ?_
    exact st_31101 D ao len cap zs base P bv n acts w Q HQ v1 v2 v3 Bs _ hR hv1 hv2 hv3 hN
  refine AllReady.cons rfl (fun K hK => ?_) ?_
  · simp only [ops53, Tryz.f63]
    go_wp2_with (go_at_call 35; refine (roll_any D ao len cap zs base P bv n acts w W _ hR (by decide) (by decide)).mono ?_; rintro e w' ⟨v4, rfl, hv4, hr, hk⟩)
    refine wpAny_take (i := 16) (v := .int .i64 (IntKind.i64.wrap (95 + (v4 : Int)))) rfl (by kernel_rfl) (by kernel_rfl) (by kernel_rfl) (fun _ _ _ h => HQ.2 _ _ _ _ _ h) (Or.inl ⟨by rfl, fun w => by simp only [ops53, Tryz.f63]; go_simp⟩) ?_
    exact st_41100 D ao len cap zs base P bv n acts w Q HQ v1 v2 v3 v4 Bs w' hr hv1 hv2 hv3 hv4 (hN.keep hk)
  refine AllReady.cons rfl (fun K hK => ?_) ?_
  · simp only [ops53, Tryz.f63]
    go_simp
    refine hK _ _ ?_
    exact st_31110 D ao len cap zs base P bv n acts w Q HQ v1 v2 v3 Bs _ _ (hR.alloc _) hv1 hv2 hv3 (hN.alloc _) (SlotAt.make hR)
  exact AllReady.nil

theorem st_30111 (D : Nat) (ao : Option Addr) (len cap : Nat) (zs : Nat → Int) (base P bv n : Nat) (acts : Int) (w : World) (Q : Exit → Act → World → Prop) (HQ : FinOK D ao len cap zs base P bv n acts w Q) (v1 v2 v3 : Nat) (Bs : Nat) (Bo : Nat) (W : World) (hR : Rolls D ao len cap zs base P bv n acts w W) (hv1 : (v1 : Int) < 4) (hv2 : (v2 : Int) < 2) (hv3 : (v3 : Int) < 9) (hN : NineAt D W Bs) (hO : SlotAt D w W Bo) :
    wpAny Tryz.prog .any ops53 Q 8 #[true, true, true, false, false, true, true, true, true, true, true, true, true, true, true, false, false, true, false, false, false, true, false] ⟨((.pointer (some ⟨P, 0, none⟩)) :: (.pointer (some ⟨D, 0, none⟩)) :: (undef) :: (undef) :: (.pointer (some ⟨w.heap.size, 0, none⟩)) :: (.pointer (some ⟨Bo, 0, none⟩)) :: (.pointer (some ⟨P, 0, none⟩)) :: (.pointer (some ⟨P, 0, none⟩)) :: (.pointer (some ⟨P, 1, none⟩)) :: (undef) :: (undef) :: (.pointer (some ⟨D, 0, none⟩)) :: (.int .i64 (v1 : Int)) :: (.pointer (some ⟨D, 0, none⟩)) :: (.int .i64 (v2 : Int)) :: (.slice (some ⟨Bs, 0, none⟩) 9 9) :: (.pointer (some ⟨D, 0, none⟩)) :: (.int .i64 (v3 : Int)) :: (.pointer (some ⟨Bs, v3, none⟩)) :: (.int .i64 (kindOf v3)) :: (.pointer (some ⟨D, 0, none⟩)) :: (undef) :: (undef) :: (.pointer (some ⟨D, 0, none⟩)) :: (undef) :: (undef) :: (undef) :: (undef) :: (undef) :: (undef) :: (undef) :: (undef) :: (undef) :: (undef) :: (undef) :: (undef) :: []).toArray, []⟩ W := by
  have hcell := hR.cell
  have hlt := hR.ply.lt
  have hcv := hN.cells v3 (by omega)
  have hNl := hN.lt
  have hv3n : v3 < 9 := by omega
  refine wpAny_ready (rs := [3, 15]) (by kernel_rfl) (by simp) ?_
  refine AllReady.cons rfl (fun K hK => ?_) ?_
  · simp only [ops53, Tryz.f63]
    go_simp
    refine hK _ _ ?_
    refine wpAny_take (i := 4) (v := .int .i64 (IntKind.i64.wrap ((n : Int) + 1))) rfl (by kernel_rfl) (by kernel_rfl) (by kernel_rfl) (fun _ _ _ h => HQ.2 _ _ _ _ _ h) (Or.inl ⟨by rfl, fun w => by simp only [ops53, Tryz.f63]; go_simp⟩) ?_
    exact st_31111 D ao len cap zs base P bv n acts w Q HQ v1 v2 v3 Bs Bo _ hR hv1 hv2 hv3 hN hO
  refine AllReady.cons rfl (fun K hK => ?_) ?_
  · simp only [ops53, Tryz.f63]
    go_wp2_with (go_at_call 35; refine (roll_any D ao len cap zs base P bv n acts w W _ hR (by decide) (by decide)).mono ?_; rintro e w' ⟨v4, rfl, hv4, hr, hk⟩)
    refine wpAny_take (i := 16) (v := .int .i64 (IntKind.i64.wrap (95 + (v4 : Int)))) rfl (by kernel_rfl) (by kernel_rfl) (by kernel_rfl) (fun _ _ _ h => HQ.2 _ _ _ _ _ h) (Or.inl ⟨by rfl, fun w => by simp only [ops53, Tryz.f63]; go_simp⟩) ?_
    exact st_40111 D ao len cap zs base P bv n acts w Q HQ v1 v2 v3 v4 Bs Bo w' hr hv1 hv2 hv3 hv4 (hN.keep hk) (hO.keep hk)
  exact AllReady.nil

theorem st_40010 (D : Nat) (ao : Option Addr) (len cap : Nat) (zs : Nat → Int) (base P bv n : Nat) (acts : Int) (w : World) (Q : Exit → Act → World → Prop) (HQ : FinOK D ao len cap zs base P bv n acts w Q) (v1 v2 v3 v4 : Nat) (Bo : Nat) (W : World) (hR : Rolls D ao len cap zs base P bv n acts w W) (hv1 : (v1 : Int) < 4) (hv2 : (v2 : Int) < 2) (hv3 : (v3 : Int) < 9) (hv4 : (v4 : Int) < 10) (hO : SlotAt D w W Bo) :
    wpAny Tryz.prog .any ops53 Q 9 #[true, true, true, false, false, true, true, true, true, false, true, true, false, false, true, true, true, true, false, false, false, true, false] ⟨((.pointer (some ⟨P, 0, none⟩)) :: (.pointer (some ⟨D, 0, none⟩)) :: (undef) :: (undef) :: (.pointer (some ⟨w.heap.size, 0, none⟩)) :: (.pointer (some ⟨Bo, 0, none⟩)) :: (.pointer (some ⟨P, 0, none⟩)) :: (.pointer (some ⟨P, 0, none⟩)) :: (.pointer (some ⟨P, 1, none⟩)) :: (undef) :: (undef) :: (.pointer (some ⟨D, 0, none⟩)) :: (.int .i64 (v1 : Int)) :: (.pointer (some ⟨D, 0, none⟩)) :: (.int .i64 (v2 : Int)) :: (undef) :: (.pointer (some ⟨D, 0, none⟩)) :: (.int .i64 (v3 : Int)) :: (undef) :: (undef) :: (.pointer (some ⟨D, 0, none⟩)) :: (.int .i64 (v4 : Int)) :: (.int .i64 (IntKind.i64.wrap (95 + (v4 : Int)))) :: (.pointer (some ⟨D, 0, none⟩)) :: (undef) :: (undef) :: (undef) :: (undef) :: (undef) :: (undef) :: (undef) :: (undef) :: (undef) :: (undef) :: (undef) :: (undef) :: []).toArray, []⟩ W := by
  have hcell := hR.cell
  have hlt := hR.ply.lt
  refine wpAny_ready (rs := [3, 9, 18]) (by kernel_rfl) (by simp) ?_
  refine AllReady.cons rfl (fun K hK => ?_) ?_
  · simp only [ops53, Tryz.f63]
    go_simp
    refine hK _ _ ?_
    refine wpAny_take (i := 4) (v := .int .i64 (IntKind.i64.wrap ((n : Int) + 1))) rfl (by kernel_rfl) (by kernel_rfl) (by kernel_rfl) (fun _ _ _ h => HQ.2 _ _ _ _ _ h) (Or.inl ⟨by rfl, fun w => by simp only [ops53, Tryz.f63]; go_simp⟩) ?_
    exact st_41010 D ao len cap zs base P bv n acts w Q HQ v1 v2 v3 v4 Bo _ hR hv1 hv2 hv3 hv4 hO
  refine AllReady.cons rfl (fun K hK => ?_) ?_
  · simp only [ops53, Tryz.f63]
    go_simp
    refine hK _ _ ?_
    have hv3n : v3 < 9 := by omega
    refine wpAny_take (i := 12) (v := .pointer (some ⟨W.heap.size, v3, none⟩)) rfl (by kernel_rfl) (by kernel_rfl) (by kernel_rfl) (fun _ _ _ h => HQ.2 _ _ _ _ _ h) (Or.inl ⟨by rfl, fun w => by simp only [ops53, Tryz.f63]; go_simp⟩) ?_
    exact st_40110 D ao len cap zs base P bv n acts w Q HQ v1 v2 v3 v4 _ Bo _ (hR.alloc _) hv1 hv2 hv3 hv4 (NineAt.new hR) (hO.alloc _)
  refine AllReady.cons rfl (fun K hK => ?_) ?_
  · simp only [ops53, Tryz.f63]
    go_wp2_with (go_at_call 35; refine (roll_any D ao len cap zs base P bv n acts w W _ hR (by decide) (by decide)).mono ?_; rintro e w' ⟨v5, rfl, hv5, hr, hk⟩)
    refine wpAny_take (i := 19) (v := .int .i64 (IntKind.i64.wrap (1 + (v5 : Int)))) rfl (by kernel_rfl) (by kernel_rfl) (by kernel_rfl) (fun _ _ _ h => HQ.2 _ _ _ _ _ h) (Or.inl ⟨by rfl, fun w => by simp only [ops53, Tryz.f63]; go_simp⟩) ?_
    exact st_50010 D ao len cap zs base P bv n acts w Q HQ v1 v2 v3 v4 v5 Bo w' hr hv1 hv2 hv3 hv4 hv5 (hO.keep hk)
  exact AllReady.nil

theorem st_31010 (D : Nat) (ao : Option Addr) (len cap : Nat) (zs : Nat → Int) (base P bv n : Nat) (acts : Int) (w : World) (Q : Exit → Act → World → Prop) (HQ : FinOK D ao len cap zs base P bv n acts w Q) (v1 v2 v3 : Nat) (Bo : Nat) (W : World) (hR : Rolls D ao len cap zs base P bv n acts w W) (hv1 : (v1 : Int) < 4) (hv2 : (v2 : Int) < 2) (hv3 : (v3 : Int) < 9) (hO : SlotAt D w W Bo) :
    wpAny Tryz.prog .any ops53 Q 9 #[true, true, true, true, true, true, true, true, true, false, true, true, false, false, true, false, false, true, false, false, false, true, false] ⟨((.pointer (some ⟨P, 0, none⟩)) :: (.pointer (some ⟨D, 0, none⟩)) :: (undef) :: (undef) :: (.pointer (some ⟨w.heap.size, 0, none⟩)) :: (.pointer (some ⟨Bo, 0, none⟩)) :: (.pointer (some ⟨P, 0, none⟩)) :: (.pointer (some ⟨P, 0, none⟩)) :: (.pointer (some ⟨P, 1, none⟩)) :: (.int .i64 (n : Int)) :: (.int .i64 (IntKind.i64.wrap ((n : Int) + 1))) :: (.pointer (some ⟨D, 0, none⟩)) :: (.int .i64 (v1 : Int)) :: (.pointer (some ⟨D, 0, none⟩)) :: (.int .i64 (v2 : Int)) :: (undef) :: (.pointer (some ⟨D, 0, none⟩)) :: (.int .i64 (v3 : Int)) :: (undef) :: (undef) :: (.pointer (some ⟨D, 0, none⟩)) :: (undef) :: (undef) :: (.pointer (some ⟨D, 0, none⟩)) :: (undef) :: (undef) :: (undef) :: (undef) :: (undef) :: (undef) :: (undef) :: (undef) :: (undef) :: (undef) :: (undef) :: (undef) :: []).toArray, []⟩ W := by
  have hcell := hR.cell
  have hlt := hR.ply.lt
  refine wpAny_ready (rs := [9, 15]) (by kernel_rfl) (by simp) ?_
  refine AllReady.cons rfl (fun K hK => ?_) ?_
  · simp only [ops53, Tryz.f63]
    go_simp
    refine hK _ _ ?_
    have hv3n : v3 < 9 := by omega
    refine wpAny_take (i := 12) (v := .pointer (some ⟨W.heap.size, v3, none⟩)) rfl (by kernel_rfl) (by kernel_rfl) (by kernel_rfl) (fun _ _ _ h => HQ.2 _ _ _ _ _ h) (Or.inl ⟨by rfl, fun w => by simp only [ops53, Tryz.f63]; go_simp⟩) ?_
    exact st_31110 D ao len cap zs base P bv n acts w Q HQ v1 v2 v3 _ Bo _ (hR.alloc _) hv1 hv2 hv3 (NineAt.new hR) (hO.alloc _)
  refine AllReady.cons rfl (fun K hK => ?_) ?_
  · simp only [ops53, Tryz.f63]
    go_wp2_with (go_at_call 35; refine (roll_any D ao len cap zs base P bv n acts w W _ hR (by decide) (by decide)).mono ?_; rintro e w' ⟨v4, rfl, hv4, hr, hk⟩)
    refine wpAny_take (i := 16) (v := .int .i64 (IntKind.i64.wrap (95 + (v4 : Int)))) rfl (by kernel_rfl) (by kernel_rfl) (by kernel_rfl) (fun _ _ _ h => HQ.2 _ _ _ _ _ h) (Or.inl ⟨by rfl, fun w => by simp only [ops53, Tryz.f63]; go_simp⟩) ?_
    exact st_41010 D ao len cap zs base P bv n acts w Q HQ v1 v2 v3 v4 Bo w' hr hv1 hv2 hv3 hv4 (hO.keep hk)
  exact AllReady.nil

theorem st_30110 (D : Nat) (ao : Option Addr) (len cap : Nat) (zs : Nat → Int) (base P bv n : Nat) (acts : Int) (w : World) (Q : Exit → Act → World → Prop) (HQ : FinOK D ao len cap zs base P bv n acts w Q) (v1 v2 v3 : Nat) (Bs : Nat) (Bo : Nat) (W : World) (hR : Rolls D ao len cap zs base P bv n acts w W) (hv1 : (v1 : Int) < 4) (hv2 : (v2 : Int) < 2) (hv3 : (v3 : Int) < 9) (hN : NineAt D W Bs) (hO : SlotAt D w W Bo) :
    wpAny Tryz.prog .any ops53 Q 9 #[true, true, true, false, false, true, true, true, true, true, true, true, true, false, true, false, false, true, false, false, false, true, false] ⟨((.pointer (some ⟨P, 0, none⟩)) :: (.pointer (some ⟨D, 0, none⟩)) :: (undef) :: (undef) :: (.pointer (some ⟨w.heap.size, 0, none⟩)) :: (.pointer (some ⟨Bo, 0, none⟩)) :: (.pointer (some ⟨P, 0, none⟩)) :: (.pointer (some ⟨P, 0, none⟩)) :: (.pointer (some ⟨P, 1, none⟩)) :: (undef) :: (undef) :: (.pointer (some ⟨D, 0, none⟩)) :: (.int .i64 (v1 : Int)) :: (.pointer (some ⟨D, 0, none⟩)) :: (.int .i64 (v2 : Int)) :: (.slice (some ⟨Bs, 0, none⟩) 9 9) :: (.pointer (some ⟨D, 0, none⟩)) :: (.int .i64 (v3 : Int)) :: (.pointer (some ⟨Bs, v3, none⟩)) :: (undef) :: (.pointer (some ⟨D, 0, none⟩)) :: (undef) :: (undef) :: (.pointer (some ⟨D, 0, none⟩)) :: (undef) :: (undef) :: (undef) :: (undef) :: (undef) :: (undef) :: (undef) :: (undef) :: (undef) :: (undef) :: (undef) :: (undef) :: []).toArray, []⟩ W := by
  have hcell := hR.cell
  have hlt := hR.ply.lt
  have hcv := hN.cells v3 (by omega)
  have hNl := hN.lt
  have hv3n : v3 < 9 := by omega
  refine wpAny_ready (rs := [3, 13, 15]) (by kernel_rfl) (by simp) ?_
  refine AllReady.cons rfl (fun K hK => ?_) ?_
  · simp only [ops53, Tryz.f63]
    go_simp
    refine hK _ _ ?_
    refine wpAny_take (i := 4) (v := .int .i64 (IntKind.i64.wrap ((n : Int) + 1))) rfl (by kernel_rfl) (by kernel_rfl) (by kernel_rfl) (fun _ _ _ h => HQ.2 _ _ _ _ _ h) (Or.inl ⟨by rfl, fun w => by simp only [ops53, Tryz.f63]; go_simp⟩) ?_
    exact st_31110 D ao len cap zs base P bv n acts w Q HQ v1 v2 v3 Bs Bo _ hR hv1 hv2 hv3 hN hO
  refine AllReady.cons rfl (fun K hK => ?_) ?_
  · simp only [ops53, Tryz.f63]
    go_simp
    refine hK _ _ ?_
    exact st_30111 D ao len cap zs base P bv n acts w Q HQ v1 v2 v3 Bs Bo _ hR hv1 hv2 hv3 hN hO
  refine AllReady.cons rfl (fun K hK => ?_) ?_
  · simp only [ops53, Tryz.f63]
    go_wp2_with (go_at_call 35; refine (roll_any D ao len cap zs base P bv n acts w W _ hR (by decide) (by decide)).mono ?_; rintro e w' ⟨v4, rfl, hv4, hr, hk⟩)
    refine wpAny_take (i := 16) (v := .int .i64 (IntKind.i64.wrap (95 + (v4 : Int)))) rfl (by kernel_rfl) (by kernel_rfl) (by kernel_rfl) (fun _ _ _ h => HQ.2 _ _ _ _ _ h) (Or.inl ⟨by rfl, fun w => by simp only [ops53, Tryz.f63]; go_simp⟩) ?_
    exact st_40110 D ao len cap zs base P bv n acts w Q HQ v1 v2 v3 v4 Bs Bo w' hr hv1 hv2 hv3 hv4 (hN.keep hk) (hO.keep hk)
  exact AllReady.nil

theorem st_30101 (D : Nat) (ao : Option Addr) (len cap : Nat) (zs : Nat → Int) (base P bv n : Nat) (acts : Int) (w : World) (Q : Exit → Act → World → Prop) (HQ : FinOK D ao len cap zs base P bv n acts w Q) (v1 v2 v3 : Nat) (Bs : Nat) (W : World) (hR : Rolls D ao len cap zs base P bv n acts w W) (hv1 : (v1 : Int) < 4) (hv2 : (v2 : Int) < 2) (hv3 : (v3 : Int) < 9) (hN : NineAt D W Bs) :
    wpAny Tryz.prog .any ops53 Q 9 #[true, true, true, false, false, true, true, true, true, true, true, true, true, true, true, false, false, true, false, false, false, false, false] ⟨((.pointer (some ⟨P, 0, none⟩)) :: (.pointer (some ⟨D, 0, none⟩)) :: (undef) :: (undef) :: (.pointer (some ⟨w.heap.size, 0, none⟩)) :: (undef) :: (.pointer (some ⟨P, 0, none⟩)) :: (.pointer (some ⟨P, 0, none⟩)) :: (.pointer (some ⟨P, 1, none⟩)) :: (undef) :: (undef) :: (.pointer (some ⟨D, 0, none⟩)) :: (.int .i64 (v1 : Int)) :: (.pointer (some ⟨D, 0, none⟩)) :: (.int .i64 (v2 : Int)) :: (.slice (some ⟨Bs, 0, none⟩) 9 9) :: (.pointer (some ⟨D, 0, none⟩)) :: (.int .i64 (v3 : Int)) :: (.pointer (some ⟨Bs, v3, none⟩)) :: (.int .i64 (kindOf v3)) :: (.pointer (some ⟨D, 0, none⟩)) :: (undef) :: (undef) :: (.pointer (some ⟨D, 0, none⟩)) :: (undef) :: (undef) :: (undef) :: (undef) :: (undef) :: (undef) :: (undef) :: (undef) :: (undef) :: (undef) :: (undef) :: (undef) :: []).toArray, []⟩ W := by
  have hcell := hR.cell
  have hlt := hR.ply.lt
  have hcv := hN.cells v3 (by omega)
  have hNl := hN.lt
  have hv3n : v3 < 9 := by omega
  refine wpAny_ready (rs := [3, 15, 21]) (by kernel_rfl) (by simp) ?_
  refine AllReady.cons rfl (fun K hK => ?_) ?_
  · simp only [ops53, Tryz.f63]
    go_simp
    refine hK _ _ ?_
    refine wpAny_take (i := 4) (v := .int .i64 (IntKind.i64.wrap ((n : Int) + 1))) rfl (by kernel_rfl) (by kernel_rfl) (by kernel_rfl) (fun _ _ _ h => HQ.2 _ _ _ _ _ h) (Or.inl ⟨by rfl, fun w => by simp only [ops53, Tryz.f63]; go_simp⟩) ?_
    exact st_31101 D ao len cap zs base P bv n acts w Q HQ v1 v2 v3 Bs _ hR hv1 hv2 hv3 hN
  refine AllReady.cons rfl (fun K hK => ?_) ?_
  · simp only [ops53, Tryz.f63]
    go_wp2_with (go_at_call 35; refine (roll_any D ao len cap zs base P bv n acts w W _ hR (by decide) (by decide)).mono ?_; rintro e w' ⟨v4, rfl, hv4, hr, hk⟩)
    refine wpAny_take (i := 16) (v := .int .i64 (IntKind.i64.wrap (95 + (v4 : Int)))) rfl (by kernel_rfl) (by kernel_rfl) (by kernel_rfl) (fun _ _ _ h => HQ.2 _ _ _ _ _ h) (Or.inl ⟨by rfl, fun w => by simp only [ops53, Tryz.f63]; go_simp⟩) ?_
    exact st_40101 D ao len cap zs base P bv n acts w Q HQ v1 v2 v3 v4 Bs w' hr hv1 hv2 hv3 hv4 (hN.keep hk)
  refine AllReady.cons rfl (fun K hK => ?_) ?_
  · simp only [ops53, Tryz.f63]
    go_simp
    refine hK _ _ ?_
    exact st_30111 D ao len cap zs base P bv n acts w Q HQ v1 v2 v3 Bs _ _ (hR.alloc _) hv1 hv2 hv3 (hN.alloc _) (SlotAt.make hR)
  exact AllReady.nil

theorem st_21110 (D : Nat) (ao : Option Addr) (len cap : Nat) (zs : Nat → Int) (base P bv n : Nat) (acts : Int) (w : World) (Q : Exit → Act → World → Prop) (HQ : FinOK D ao len cap zs base P bv n acts w Q) (v1 v2 : Nat) (Bs : Nat) (Bo : Nat) (W : World) (hR : Rolls D ao len cap zs base P bv n acts w W) (hv1 : (v1 : Int) < 4) (hv2 : (v2 : Int) < 2) (hN : NineAt D W Bs) (hO : SlotAt D w W Bo) :
    wpAny Tryz.prog .any ops53 Q 9 #[true, true, true, true, true, true, true, true, true, true, true, false, false, false, true, false, false, true, false, false, false, true, false] ⟨((.pointer (some ⟨P, 0, none⟩)) :: (.pointer (some ⟨D, 0, none⟩)) :: (undef) :: (undef) :: (.pointer (some ⟨w.heap.size, 0, none⟩)) :: (.pointer (some ⟨Bo, 0, none⟩)) :: (.pointer (some ⟨P, 0, none⟩)) :: (.pointer (some ⟨P, 0, none⟩)) :: (.pointer (some ⟨P, 1, none⟩)) :: (.int .i64 (n : Int)) :: (.int .i64 (IntKind.i64.wrap ((n : Int) + 1))) :: (.pointer (some ⟨D, 0, none⟩)) :: (.int .i64 (v1 : Int)) :: (.pointer (some ⟨D, 0, none⟩)) :: (.int .i64 (v2 : Int)) :: (.slice (some ⟨Bs, 0, none⟩) 9 9) :: (.pointer (some ⟨D, 0, none⟩)) :: (undef) :: (undef) :: (undef) :: (.pointer (some ⟨D, 0, none⟩)) :: (undef) :: (undef) :: (.pointer (some ⟨D, 0, none⟩)) :: (undef) :: (undef) :: (undef) :: (undef) :: (undef) :: (undef) :: (undef) :: (undef) :: (undef) :: (undef) :: (undef) :: (undef) :: []).toArray, []⟩ W := by
  have hcell := hR.cell
  have hlt := hR.ply.lt
  refine wpAny_ready (rs := [11]) (by kernel_rfl) (by simp) ?_
  refine AllReady.cons rfl (fun K hK => ?_) ?_
  · simp only [ops53, Tryz.f63]
    go_wp2_with (go_at_call 35; refine (roll_any D ao len cap zs base P bv n acts w W _ hR (by decide) (by decide)).mono ?_; rintro e w' ⟨v3, rfl, hv3, hr, hk⟩)
    have hv3n : v3 < 9 := by omega
    refine wpAny_take (i := 12) (v := .pointer (some ⟨Bs, v3, none⟩)) rfl (by kernel_rfl) (by kernel_rfl) (by kernel_rfl) (fun _ _ _ h => HQ.2 _ _ _ _ _ h) (Or.inl ⟨by rfl, fun w => by simp only [ops53, Tryz.f63]; go_simp⟩) ?_
    exact st_31110 D ao len cap zs base P bv n acts w Q HQ v1 v2 v3 Bs Bo w' hr hv1 hv2 hv3 (hN.keep hk) (hO.keep hk)
  exact AllReady.nil

theorem st_40000 (D : Nat) (ao : Option Addr) (len cap : Nat) (zs : Nat → Int) (base P bv n : Nat) (acts : Int) (w : World) (Q : Exit → Act → World → Prop) (HQ : FinOK D ao len cap zs base P bv n acts w Q) (v1 v2 v3 v4 : Nat) (W : World) (hR : Rolls D ao len cap zs base P bv n acts w W) (hv1 : (v1 : Int) < 4) (hv2 : (v2 : Int) < 2) (hv3 : (v3 : Int) < 9) (hv4 : (v4 : Int) < 10) :
    wpAny Tryz.prog .any ops53 Q 10 #[true, true, true, false, false, true, true, true, true, false, true, true, false, false, true, true, true, true, false, false, false, false, false] ⟨((.pointer (some ⟨P, 0, none⟩)) :: (.pointer (some ⟨D, 0, none⟩)) :: (undef) :: (undef) :: (.pointer (some ⟨w.heap.size, 0, none⟩)) :: (undef) :: (.pointer (some ⟨P, 0, none⟩)) :: (.pointer (some ⟨P, 0, none⟩)) :: (.pointer (some ⟨P, 1, none⟩)) :: (undef) :: (undef) :: (.pointer (some ⟨D, 0, none⟩)) :: (.int .i64 (v1 : Int)) :: (.pointer (some ⟨D, 0, none⟩)) :: (.int .i64 (v2 : Int)) :: (undef) :: (.pointer (some ⟨D, 0, none⟩)) :: (.int .i64 (v3 : Int)) :: (undef) :: (undef) :: (.pointer (some ⟨D, 0, none⟩)) :: (.int .i64 (v4 : Int)) :: (.int .i64 (IntKind.i64.wrap (95 + (v4 : Int)))) :: (.pointer (some ⟨D, 0, none⟩)) :: (undef) :: (undef) :: (undef) :: (undef) :: (undef) :: (undef) :: (undef) :: (undef) :: (undef) :: (undef) :: (undef) :: (undef) :: []).toArray, []⟩ W := by
  have hcell := hR.cell
  have hlt := hR.ply.lt
  refine wpAny_ready (rs := [3, 9, 18, 21]) (by kernel_rfl) (by simp) ?_
  refine AllReady.cons rfl (fun K hK => ?_) ?_
  · simp only [ops53, Tryz.f63]
    go_simp
    refine hK _ _ ?_
    refine wpAny_take (i := 4) (v := .int .i64 (IntKind.i64.wrap ((n : Int) + 1))) rfl (by kernel_rfl) (by kernel_rfl) (by kernel_rfl) (fun _ _ _ h => HQ.2 _ _ _ _ _ h) (Or.inl ⟨by rfl, fun w => by simp only [ops53, Tryz.f63]; go_simp⟩) ?_
    exact st_41000 D ao len cap zs base P bv n acts w Q HQ v1 v2 v3 v4 _ hR hv1 hv2 hv3 hv4
  refine AllReady.cons rfl (fun K hK => ?_) ?_
  · simp only [ops53, Tryz.f63]
    go_simp
    refine hK _ _ ?_
    have hv3n : v3 < 9 := by omega
    refine wpAny_take (i := 12) (v := .pointer (some ⟨W.heap.size, v3, none⟩)) rfl (by kernel_rfl) (by kernel_rfl) (by kernel_rfl) (fun _ _ _ h => HQ.2 _ _ _ _ _ h) (Or.inl ⟨by rfl, fun w => by simp only [ops53, Tryz.f63]; go_simp⟩) ?_
    exact st_40100 D ao len cap zs base P bv n acts w Q HQ v1 v2 v3 v4 _ _ (hR.alloc _) hv1 hv2 hv3 hv4 (NineAt.new hR)
  refine AllReady.cons rfl (fun K hK => ?_) ?_
  · simp only [ops53, Tryz.f63]
    go_wp2_with (go_at_call 35; refine (roll_any D ao len cap zs base P bv n acts w W _ hR (by decide) (by decide)).mono ?_; rintro e w' ⟨v5, rfl, hv5, hr, hk⟩)
    refine wpAny_take (i := 19) (v := .int .i64 (IntKind.i64.wrap (1 + (v5 : Int)))) rfl (by kernel_rfl) (by kernel_rfl) (by kernel_rfl) (fun _ _ _ h => HQ.2 _ _ _ _ _ h) (Or.inl ⟨by rfl, fun w => by simp only [ops53, Tryz.f63]; go_simp⟩) ?_
    exact st_50000 D ao len cap zs base P bv n acts w Q HQ v1 v2 v3 v4 v5 w' hr hv1 hv2 hv3 hv4 hv5
  refine AllReady.cons rfl (fun K hK => ?_) ?_
  · simp only [ops53, Tryz.f63]
    go_simp
    refine hK _ _ ?_
    exact st_40010 D ao len cap zs base P bv n acts w Q HQ v1 v2 v3 v4 _ _ (hR.alloc _) hv1 hv2 hv3 hv4 (SlotAt.make hR)
  exact AllReady.nil

theorem st_31000 (D : Nat) (ao : Option Addr) (len cap : Nat) (zs : Nat → Int) (base P bv n : Nat) (acts : Int) (w : World) (Q : Exit → Act → World → Prop) (HQ : FinOK D ao len cap zs base P bv n acts w Q) (v1 v2 v3 : Nat) (W : World) (hR : Rolls D ao len cap zs base P bv n acts w W) (hv1 : (v1 : Int) < 4) (hv2 : (v2 : Int) < 2) (hv3 : (v3 : Int) < 9) :
    wpAny Tryz.prog .any ops53 Q 10 #[true, true, true, true, true, true, true, true, true, false, true, true, false, false, true, false, false, true, false, false, false, false, false] ⟨((.pointer (some ⟨P, 0, none⟩)) :: (.pointer (some ⟨D, 0, none⟩)) :: (undef) :: (undef) :: (.pointer (some ⟨w.heap.size, 0, none⟩)) :: (undef) :: (.pointer (some ⟨P, 0, none⟩)) :: (.pointer (some ⟨P, 0, none⟩)) :: (.pointer (some ⟨P, 1, none⟩)) :: (.int .i64 (n : Int)) :: (.int .i64 (IntKind.i64.wrap ((n : Int) + 1))) :: (.pointer (some ⟨D, 0, none⟩)) :: (.int .i64 (v1 : Int)) :: (.pointer (some ⟨D, 0, none⟩)) :: (.int .i64 (v2 : Int)) :: (undef) :: (.pointer (some ⟨D, 0, none⟩)) :: (.int .i64 (v3 : Int)) :: (undef) :: (undef) :: (.pointer (some ⟨D, 0, none⟩)) :: (undef) :: (undef) :: (.pointer (some ⟨D, 0, none⟩)) :: (undef) :: (undef) :: (undef) :: (undef) :: (undef) :: (undef) :: (undef) :: (undef) :: (undef) :: (undef) :: (undef) :: (undef) :: []).toArray, []⟩ W := by
  have hcell := hR.cell
  have hlt := hR.ply.lt
  refine wpAny_ready (rs := [9, 15, 21]) (by kernel_rfl) (by simp) ?_
  refine AllReady.cons rfl (fun K hK => ?_) ?_
  · simp only [ops53, Tryz.f63]
    go_simp
    refine hK _ _ ?_
    have hv3n : v3 < 9 := by omega
    refine wpAny_take (i := 12) (v := .pointer (some ⟨W.heap.size, v3, none⟩)) rfl (by kernel_rfl) (by kernel_rfl) (by kernel_rfl) (fun _ _ _ h => HQ.2 _ _ _ _ _ h) (Or.inl ⟨by rfl, fun w => by simp only [ops53, Tryz.f63]; go_simp⟩) ?_
    exact st_31100 D ao len cap zs base P bv n acts w Q HQ v1 v2 v3 _ _ (hR.alloc _) hv1 hv2 hv3 (NineAt.new hR)
  refine AllReady.cons rfl (fun K hK => ?_) ?_
  · simp only [ops53, Tryz.f63]
    go_wp2_with (go_at_call 35; refine (roll_any D ao len cap zs base P bv n acts w W _ hR (by decide) (by decide)).mono ?_; rintro e w' ⟨v4, rfl, hv4, hr, hk⟩)
    refine wpAny_take (i := 16) (v := .int .i64 (IntKind.i64.wrap (95 + (v4 : Int)))) rfl (by kernel_rfl) (by kernel_rfl) (by kernel_rfl) (fun _ _ _ h => HQ.2 _ _ _ _ _ h) (Or.inl ⟨by rfl, fun w => by simp only [ops53, Tryz.f63]; go_simp⟩) ?_
    exact st_41000 D ao len cap zs base P bv n acts w Q HQ v1 v2 v3 v4 w' hr hv1 hv2 hv3 hv4
  refine AllReady.cons rfl (fun K hK => ?_) ?_
  · simp only [ops53, Tryz.f63]
    go_simp
    refine hK _ _ ?_
    exact st_31010 D ao len cap zs base P bv n acts w Q HQ v1 v2 v3 _ _ (hR.alloc _) hv1 hv2 hv3 (SlotAt.make hR)
  exact AllReady.nil

theorem st_30100 (D : Nat) (ao : Option Addr) (len cap : Nat) (zs : Nat → Int) (base P bv n : Nat) (acts : Int) (w : World) (Q : Exit → Act → World → Prop) (HQ : FinOK D ao len cap zs base P bv n acts w Q) (v1 v2 v3 : Nat) (Bs : Nat) (W : World) (hR : Rolls D ao len cap zs base P bv n acts w W) (hv1 : (v1 : Int) < 4) (hv2 : (v2 : Int) < 2) (hv3 : (v3 : Int) < 9) (hN : NineAt D W Bs) :
    wpAny Tryz.prog .any ops53 Q 10 #[true, true, true, false, false, true, true, true, true, true, true, true, true, false, true, false, false, true, false, false, false, false, false] ⟨((.pointer (some ⟨P, 0, none⟩)) :: (.pointer (some ⟨D, 0, none⟩)) :: (undef) :: (undef) :: (.pointer (some ⟨w.heap.size, 0, none⟩)) :: (undef) :: (.pointer (some ⟨P, 0, none⟩)) :: (.pointer (some ⟨P, 0, none⟩)) :: (.pointer (some ⟨P, 1, none⟩)) :: (undef) :: (undef) :: (.pointer (some ⟨D, 0, none⟩)) :: (.int .i64 (v1 : Int)) :: (.pointer (some ⟨D, 0, none⟩)) :: (.int .i64 (v2 : Int)) :: (.slice (some ⟨Bs, 0, none⟩) 9 9) :: (.pointer (some ⟨D, 0, none⟩)) :: (.int .i64 (v3 : Int)) :: (.pointer (some ⟨Bs, v3, none⟩)) :: (undef) :: (.pointer (some ⟨D, 0, none⟩)) :: (undef) :: (undef) :: (.pointer (some ⟨D, 0, none⟩)) :: (undef) :: (undef) :: (undef) :: (undef) :: (undef) :: (undef) :: (undef) :: (undef) :: (undef) :: (undef) :: (undef) :: (undef) :: []).toArray, []⟩ W := by
  have hcell := hR.cell
  have hlt := hR.ply.lt
  have hcv := hN.cells v3 (by omega)
  have hNl := hN.lt
  have hv3n : v3 < 9 := by omega
  refine wpAny_ready (rs := [3, 13, 15, 21]) (by kernel_rfl) (by simp) ?_
  refine AllReady.cons rfl (fun K hK => ?_) ?_
  · simp only [ops53, Tryz.f63]
    go_simp
    refine hK _ _ ?_
    refine wpAny_take (i := 4) (v := .int .i64 (IntKind.i64.wrap ((n : Int) + 1))) rfl (by kernel_rfl) (by kernel_rfl) (by kernel_rfl) (fun _ _ _ h => HQ.2 _ _ _ _ _ h) (Or.inl ⟨by rfl, fun w => by simp only [ops53, Tryz.f63]; go_simp⟩) ?_
    exact st_31100 D ao len cap zs base P bv n acts w Q HQ v1 v2 v3 Bs _ hR hv1 hv2 hv3 hN
  refine AllReady.cons rfl (fun K hK => ?_) ?_
  · simp only [ops53, Tryz.f63]
    go_simp
    refine hK _ _ ?_
    exact st_30101 D ao len cap zs base P bv n acts w Q HQ v1 v2 v3 Bs _ hR hv1 hv2 hv3 hN
  refine AllReady.cons rfl (fun K hK => ?_) ?_
  · simp only [ops53, Tryz.f63]
    go_wp2_with (go_at_call 35; refine (roll_any D ao len cap zs base P bv n acts w W _ hR (by decide) (by decide)).mono ?_; rintro e w' ⟨v4, rfl, hv4, hr, hk⟩)
    refine wpAny_take (i := 16) (v := .int .i64 (IntKind.i64.wrap (95 + (v4 : Int)))) rfl (by kernel_rfl) (by kernel_rfl) (by kernel_rfl) (fun _ _ _ h => HQ.2 _ _ _ _ _ h) (Or.inl ⟨by rfl, fun w => by simp only [ops53, Tryz.f63]; go_simp⟩) ?_
    exact st_40100 D ao len cap zs base P bv n acts w Q HQ v1 v2 v3 v4 Bs w' hr hv1 hv2 hv3 hv4 (hN.keep hk)
  refine AllReady.cons rfl (fun K hK => ?_) ?_
  · simp only [ops53, Tryz.f63]
    go_simp
    refine hK _ _ ?_
    exact st_30110 D ao len cap zs base P bv n acts w Q HQ v1 v2 v3 Bs _ _ (hR.alloc _) hv1 hv2 hv3 (hN.alloc _) (SlotAt.make hR)
  exact AllReady.nil

theorem st_21100 (D : Nat) (ao : Option Addr) (len cap : Nat) (zs : Nat → Int) (base P bv n : Nat) (acts : Int) (w : World) (Q : Exit → Act → World → Prop) (HQ : FinOK D ao len cap zs base P bv n acts w Q) (v1 v2 : Nat) (Bs : Nat) (W : World) (hR : Rolls D ao len cap zs base P bv n acts w W) (hv1 : (v1 : Int) < 4) (hv2 : (v2 : Int) < 2) (hN : NineAt D W Bs) :
    wpAny Tryz.prog .any ops53 Q 10 #[true, true, true, true, true, true, true, true, true, true, true, false, false, false, true, false, false, true, false, false, false, false, false] ⟨((.pointer (some ⟨P, 0, none⟩)) :: (.pointer (some ⟨D, 0, none⟩)) :: (undef) :: (undef) :: (.pointer (some ⟨w.heap.size, 0, none⟩)) :: (undef) :: (.pointer (some ⟨P, 0, none⟩)) :: (.pointer (some ⟨P, 0, none⟩)) :: (.pointer (some ⟨P, 1, none⟩)) :: (.int .i64 (n : Int)) :: (.int .i64 (IntKind.i64.wrap ((n : Int) + 1))) :: (.pointer (some ⟨D, 0, none⟩)) :: (.int .i64 (v1 : Int)) :: (.pointer (some ⟨D, 0, none⟩)) :: (.int .i64 (v2 : Int)) :: (.slice (some ⟨Bs, 0, none⟩) 9 9) :: (.pointer (some ⟨D, 0, none⟩)) :: (undef) :: (undef) :: (undef) :: (.pointer (some ⟨D, 0, none⟩)) :: (undef) :: (undef) :: (.pointer (some ⟨D, 0, none⟩)) :: (undef) :: (undef) :: (undef) :: (undef) :: (undef) :: (undef) :: (undef) :: (undef) :: (undef) :: (undef) :: (undef) :: (undef) :: []).toArray, []⟩ W := by
  have hcell := hR.cell
  have hlt := hR.ply.lt
  refine wpAny_ready (rs := [11, 21]) (by kernel_rfl) (by simp) ?_
  refine AllReady.cons rfl (fun K hK => ?_) ?_
  · simp only [ops53, Tryz.f63]
    go_wp2_with (go_at_call 35; refine (roll_any D ao len cap zs base P bv n acts w W _ hR (by decide) (by decide)).mono ?_; rintro e w' ⟨v3, rfl, hv3, hr, hk⟩)
    have hv3n : v3 < 9 := by omega
    refine wpAny_take (i := 12) (v := .pointer (some ⟨Bs, v3, none⟩)) rfl (by kernel_rfl) (by kernel_rfl) (by kernel_rfl) (fun _ _ _ h => HQ.2 _ _ _ _ _ h) (Or.inl ⟨by rfl, fun w => by simp only [ops53, Tryz.f63]; go_simp⟩) ?_
    exact st_31100 D ao len cap zs base P bv n acts w Q HQ v1 v2 v3 Bs w' hr hv1 hv2 hv3 (hN.keep hk)
  refine AllReady.cons rfl (fun K hK => ?_) ?_
  · simp only [ops53, Tryz.f63]
    go_simp
    refine hK _ _ ?_
    exact st_21110 D ao len cap zs base P bv n acts w Q HQ v1 v2 Bs _ _ (hR.alloc _) hv1 hv2 (hN.alloc _) (SlotAt.make hR)
  exact AllReady.nil

theorem st_21010 (D : Nat) (ao : Option Addr) (len cap : Nat) (zs : Nat → Int) (base P bv n : Nat) (acts : Int) (w : World) (Q : Exit → Act → World → Prop) (HQ : FinOK D ao len cap zs base P bv n acts w Q) (v1 v2 : Nat) (Bo : Nat) (W : World) (hR : Rolls D ao len cap zs base P bv n acts w W) (hv1 : (v1 : Int) < 4) (hv2 : (v2 : Int) < 2) (hO : SlotAt D w W Bo) :
    wpAny Tryz.prog .any ops53 Q 10 #[true, true, true, true, true, true, true, true, true, false, true, false, false, false, true, false, false, true, false, false, false, true, false] ⟨((.pointer (some ⟨P, 0, none⟩)) :: (.pointer (some ⟨D, 0, none⟩)) :: (undef) :: (undef) :: (.pointer (some ⟨w.heap.size, 0, none⟩)) :: (.pointer (some ⟨Bo, 0, none⟩)) :: (.pointer (some ⟨P, 0, none⟩)) :: (.pointer (some ⟨P, 0, none⟩)) :: (.pointer (some ⟨P, 1, none⟩)) :: (.int .i64 (n : Int)) :: (.int .i64 (IntKind.i64.wrap ((n : Int) + 1))) :: (.pointer (some ⟨D, 0, none⟩)) :: (.int .i64 (v1 : Int)) :: (.pointer (some ⟨D, 0, none⟩)) :: (.int .i64 (v2 : Int)) :: (undef) :: (.pointer (some ⟨D, 0, none⟩)) :: (undef) :: (undef) :: (undef) :: (.pointer (some ⟨D, 0, none⟩)) :: (undef) :: (undef) :: (.pointer (some ⟨D, 0, none⟩)) :: (undef) :: (undef) :: (undef) :: (undef) :: (undef) :: (undef) :: (undef) :: (undef) :: (undef) :: (undef) :: (undef) :: (undef) :: []).toArray, []⟩ W := by
  have hcell := hR.cell
  have hlt := hR.ply.lt
  refine wpAny_ready (rs := [9, 11]) (by kernel_rfl) (by simp) ?_
  refine AllReady.cons rfl (fun K hK => ?_) ?_
  · simp only [ops53, Tryz.f63]
    go_simp
    refine hK _ _ ?_
    exact st_21110 D ao len cap zs base P bv n acts w Q HQ v1 v2 _ Bo _ (hR.alloc _) hv1 hv2 (NineAt.new hR) (hO.alloc _)
  refine AllReady.cons rfl (fun K hK => ?_) ?_
  · simp only [ops53, Tryz.f63]
    go_wp2_with (go_at_call 35; refine (roll_any D ao len cap zs base P bv n acts w W _ hR (by decide) (by decide)).mono ?_; rintro e w' ⟨v3, rfl, hv3, hr, hk⟩)
    exact st_31010 D ao len cap zs base P bv n acts w Q HQ v1 v2 v3 Bo w' hr hv1 hv2 hv3 (hO.keep hk)
  exact AllReady.nil

theorem st_11110 (D : Nat) (ao : Option Addr) (len cap : Nat) (zs : Nat → Int) (base P bv n : Nat) (acts : Int) (w : World) (Q : Exit → Act → World → Prop) (HQ : FinOK D ao len cap zs base P bv n acts w Q) (v1 : Nat) (Bs : Nat) (Bo : Nat) (W : World) (hR : Rolls D ao len cap zs base P bv n acts w W) (hv1 : (v1 : Int) < 4) (hN : NineAt D W Bs) (hO : SlotAt D w W Bo) :
    wpAny Tryz.prog .any ops53 Q 10 #[true, true, true, true, true, true, true, true, false, true, true, false, false, false, true, false, false, true, false, false, false, true, false] ⟨((.pointer (some ⟨P, 0, none⟩)) :: (.pointer (some ⟨D, 0, none⟩)) :: (undef) :: (undef) :: (.pointer (some ⟨w.heap.size, 0, none⟩)) :: (.pointer (some ⟨Bo, 0, none⟩)) :: (.pointer (some ⟨P, 0, none⟩)) :: (.pointer (some ⟨P, 0, none⟩)) :: (.pointer (some ⟨P, 1, none⟩)) :: (.int .i64 (n : Int)) :: (.int .i64 (IntKind.i64.wrap ((n : Int) + 1))) :: (.pointer (some ⟨D, 0, none⟩)) :: (.int .i64 (v1 : Int)) :: (.pointer (some ⟨D, 0, none⟩)) :: (undef) :: (.slice (some ⟨Bs, 0, none⟩) 9 9) :: (.pointer (some ⟨D, 0, none⟩)) :: (undef) :: (undef) :: (undef) :: (.pointer (some ⟨D, 0, none⟩)) :: (undef) :: (undef) :: (.pointer (some ⟨D, 0, none⟩)) :: (undef) :: (undef) :: (undef) :: (undef) :: (undef) :: (undef) :: (undef) :: (undef) :: (undef) :: (undef) :: (undef) :: (undef) :: []).toArray, []⟩ W := by
  have hcell := hR.cell
  have hlt := hR.ply.lt
  refine wpAny_ready (rs := [8]) (by kernel_rfl) (by simp) ?_
  refine AllReady.cons rfl (fun K hK => ?_) ?_
  · simp only [ops53, Tryz.f63]
    go_wp2_with (go_at_call 35; refine (roll_any D ao len cap zs base P bv n acts w W _ hR (by decide) (by decide)).mono ?_; rintro e w' ⟨v2, rfl, hv2, hr, hk⟩)
    exact st_21110 D ao len cap zs base P bv n acts w Q HQ v1 v2 Bs Bo w' hr hv1 hv2 (hN.keep hk) (hO.keep hk)
  exact AllReady.nil

theorem st_30010 (D : Nat) (ao : Option Addr) (len cap : Nat) (zs : Nat → Int) (base P bv n : Nat) (acts : Int) (w : World) (Q : Exit → Act → World → Prop) (HQ : FinOK D ao len cap zs base P bv n acts w Q) (v1 v2 v3 : Nat) (Bo : Nat) (W : World) (hR : Rolls D ao len cap zs base P bv n acts w W) (hv1 : (v1 : Int) < 4) (hv2 : (v2 : Int) < 2) (hv3 : (v3 : Int) < 9) (hO : SlotAt D w W Bo) :
    wpAny Tryz.prog .any ops53 Q 11 #[true, true, true, false, false, true, true, true, true, false, true, true, false, false, true, false, false, true, false, false, false, true, false] ⟨((.pointer (some ⟨P, 0, none⟩)) :: (.pointer (some ⟨D, 0, none⟩)) :: (undef) :: (undef) :: (.pointer (some ⟨w.heap.size, 0, none⟩)) :: (.pointer (some ⟨Bo, 0, none⟩)) :: (.pointer (some ⟨P, 0, none⟩)) :: (.pointer (some ⟨P, 0, none⟩)) :: (.pointer (some ⟨P, 1, none⟩)) :: (undef) :: (undef) :: (.pointer (some ⟨D, 0, none⟩)) :: (.int .i64 (v1 : Int)) :: (.pointer (some ⟨D, 0, none⟩)) :: (.int .i64 (v2 : Int)) :: (undef) :: (.pointer (some ⟨D, 0, none⟩)) :: (.int .i64 (v3 : Int)) :: (undef) :: (undef) :: (.pointer (some ⟨D, 0, none⟩)) :: (undef) :: (undef) :: (.pointer (some ⟨D, 0, none⟩)) :: (undef) :: (undef) :: (undef) :: (undef) :: (undef) :: (undef) :: (undef) :: (undef) :: (undef) :: (undef) :: (undef) :: (undef) :: []).toArray, []⟩ W := by
  have hcell := hR.cell
  have hlt := hR.ply.lt
  refine wpAny_ready (rs := [3, 9, 15]) (by kernel_rfl) (by simp) ?_
  refine AllReady.cons rfl (fun K hK => ?_) ?_
  · simp only [ops53, Tryz.f63]
    go_simp
    refine hK _ _ ?_
    refine wpAny_take (i := 4) (v := .int .i64 (IntKind.i64.wrap ((n : Int) + 1))) rfl (by kernel_rfl) (by kernel_rfl) (by kernel_rfl) (fun _ _ _ h => HQ.2 _ _ _ _ _ h) (Or.inl ⟨by rfl, fun w => by simp only [ops53, Tryz.f63]; go_simp⟩) ?_
    exact st_31010 D ao len cap zs base P bv n acts w Q HQ v1 v2 v3 Bo _ hR hv1 hv2 hv3 hO
  refine AllReady.cons rfl (fun K hK => ?_) ?_
  · simp only [ops53, Tryz.f63]
    go_simp
    refine hK _ _ ?_
    have hv3n : v3 < 9 := by omega
    refine wpAny_take (i := 12) (v := .pointer (some ⟨W.heap.size, v3, none⟩)) rfl (by kernel_rfl) (by kernel_rfl) (by kernel_rfl) (fun _ _ _ h => HQ.2 _ _ _ _ _ h) (Or.inl ⟨by rfl, fun w => by simp only [ops53, Tryz.f63]; go_simp⟩) ?_
    exact st_30110 D ao len cap zs base P bv n acts w Q HQ v1 v2 v3 _ Bo _ (hR.alloc _) hv1 hv2 hv3 (NineAt.new hR) (hO.alloc _)
  refine AllReady.cons rfl (fun K hK => ?_) ?_
  · simp only [ops53, Tryz.f63]
    go_wp2_with (go_at_call 35; refine (roll_any D ao len cap zs base P bv n acts w W _ hR (by decide) (by decide)).mono ?_; rintro e w' ⟨v4, rfl, hv4, hr, hk⟩)
    refine wpAny_take (i := 16) (v := .int .i64 (IntKind.i64.wrap (95 + (v4 : Int)))) rfl (by kernel_rfl) (by kernel_rfl) (by kernel_rfl) (fun _ _ _ h => HQ.2 _ _ _ _ _ h) (Or.inl ⟨by rfl, fun w => by simp only [ops53, Tryz.f63]; go_simp⟩) ?_
    exact st_40010 D ao len cap zs base P bv n acts w Q HQ v1 v2 v3 v4 Bo w' hr hv1 hv2 hv3 hv4 (hO.keep hk)
  exact AllReady.nil

theorem st_21000 (D : Nat) (ao : Option Addr) (len cap : Nat) (zs : Nat → Int) (base P bv n : Nat) (acts : Int) (w : World) (Q : Exit → Act → World → Prop) (HQ : FinOK D ao len cap zs base P bv n acts w Q) (v1 v2 : Nat) (W : World) (hR : Rolls D ao len cap zs base P bv n acts w W) (hv1 : (v1 : Int) < 4) (hv2 : (v2 : Int) < 2) :
    wpAny Tryz.prog .any ops53 Q 11 #[true, true, true, true, true, true, true, true, true, false, true, false, false, false, true, false, false, true, false, false, false, false, false] ⟨((.pointer (some ⟨P, 0, none⟩)) :: (.pointer (some ⟨D, 0, none⟩)) :: (undef) :: (undef) :: (.pointer (some ⟨w.heap.size, 0, none⟩)) :: (undef) :: (.pointer (some ⟨P, 0, none⟩)) :: (.pointer (some ⟨P, 0, none⟩)) :: (.pointer (some ⟨P, 1, none⟩)) :: (.int .i64 (n : Int)) :: (.int .i64 (IntKind.i64.wrap ((n : Int) + 1))) :: (.pointer (some ⟨D, 0, none⟩)) :: (.int .i64 (v1 : Int)) :: (.pointer (some ⟨D, 0, none⟩)) :: (.int .i64 (v2 : Int)) :: (undef) :: (.pointer (some ⟨D, 0, none⟩)) :: (undef) :: (undef) :: (undef) :: (.pointer (some ⟨D, 0, none⟩)) :: (undef) :: (undef) :: (.pointer (some ⟨D, 0, none⟩)) :: (undef) :: (undef) :: (undef) :: (undef) :: (undef) :: (undef) :: (undef) :: (undef) :: (undef) :: (undef) :: (undef) :: (undef) :: []).toArray, []⟩ W := by
  have hcell := hR.cell
  have hlt := hR.ply.lt
  refine wpAny_ready (rs := [9, 11, 21]) (by kernel_rfl) (by simp) ?_
  refine AllReady.cons rfl (fun K hK => ?_) ?_
  · simp only [ops53, Tryz.f63]
    go_simp
    refine hK _ _ ?_
    exact st_21100 D ao len cap zs base P bv n acts w Q HQ v1 v2 _ _ (hR.alloc _) hv1 hv2 (NineAt.new hR)
  refine AllReady.cons rfl (fun K hK => ?_) ?_
  · simp only [ops53, Tryz.f63]
    go_wp2_with (go_at_call 35; refine (roll_any D ao len cap zs base P bv n acts w W _ hR (by decide) (by decide)).mono ?_; rintro e w' ⟨v3, rfl, hv3, hr, hk⟩)
    exact st_31000 D ao len cap zs base P bv n acts w Q HQ v1 v2 v3 w' hr hv1 hv2 hv3
  refine AllReady.cons rfl (fun K hK => ?_) ?_
  · simp only [ops53, Tryz.f63]
    go_simp
    refine hK _ _ ?_
    exact st_21010 D ao len cap zs base P bv n acts w Q HQ v1 v2 _ _ (hR.alloc _) hv1 hv2 (SlotAt.make hR)
  exact AllReady.nil

theorem st_20110 (D : Nat) (ao : Option Addr) (len cap : Nat) (zs : Nat → Int) (base P bv n : Nat) (acts : Int) (w : World) (Q : Exit → Act → World → Prop) (HQ : FinOK D ao len cap zs base P bv n acts w Q) (v1 v2 : Nat) (Bs : Nat) (Bo : Nat) (W : World) (hR : Rolls D ao len cap zs base P bv n acts w W) (hv1 : (v1 : Int) < 4) (hv2 : (v2 : Int) < 2) (hN : NineAt D W Bs) (hO : SlotAt D w W Bo) :
    wpAny Tryz.prog .any ops53 Q 11 #[true, true, true, false, false, true, true, true, true, true, true, false, false, false, true, false, false, true, false, false, false, true, false] ⟨((.pointer (some ⟨P, 0, none⟩)) :: (.pointer (some ⟨D, 0, none⟩)) :: (undef) :: (undef) :: (.pointer (some ⟨w.heap.size, 0, none⟩)) :: (.pointer (some ⟨Bo, 0, none⟩)) :: (.pointer (some ⟨P, 0, none⟩)) :: (.pointer (some ⟨P, 0, none⟩)) :: (.pointer (some ⟨P, 1, none⟩)) :: (undef) :: (undef) :: (.pointer (some ⟨D, 0, none⟩)) :: (.int .i64 (v1 : Int)) :: (.pointer (some ⟨D, 0, none⟩)) :: (.int .i64 (v2 : Int)) :: (.slice (some ⟨Bs, 0, none⟩) 9 9) :: (.pointer (some ⟨D, 0, none⟩)) :: (undef) :: (undef) :: (undef) :: (.pointer (some ⟨D, 0, none⟩)) :: (undef) :: (undef) :: (.pointer (some ⟨D, 0, none⟩)) :: (undef) :: (undef) :: (undef) :: (undef) :: (undef) :: (undef) :: (undef) :: (undef) :: (undef) :: (undef) :: (undef) :: (undef) :: []).toArray, []⟩ W := by
  have hcell := hR.cell
  have hlt := hR.ply.lt
  refine wpAny_ready (rs := [3, 11]) (by kernel_rfl) (by simp) ?_
  refine AllReady.cons rfl (fun K hK => ?_) ?_
  · simp only [ops53, Tryz.f63]
    go_simp
    refine hK _ _ ?_
    refine wpAny_take (i := 4) (v := .int .i64 (IntKind.i64.wrap ((n : Int) + 1))) rfl (by kernel_rfl) (by kernel_rfl) (by kernel_rfl) (fun _ _ _ h => HQ.2 _ _ _ _ _ h) (Or.inl ⟨by rfl, fun w => by simp only [ops53, Tryz.f63]; go_simp⟩) ?_
    exact st_21110 D ao len cap zs base P bv n acts w Q HQ v1 v2 Bs Bo _ hR hv1 hv2 hN hO
  refine AllReady.cons rfl (fun K hK => ?_) ?_
  · simp only [ops53, Tryz.f63]
    go_wp2_with (go_at_call 35; refine (roll_any D ao len cap zs base P bv n acts w W _ hR (by decide) (by decide)).mono ?_; rintro e w' ⟨v3, rfl, hv3, hr, hk⟩)
    have hv3n : v3 < 9 := by omega
    refine wpAny_take (i := 12) (v := .pointer (some ⟨Bs, v3, none⟩)) rfl (by kernel_rfl) (by kernel_rfl) (by kernel_rfl) (fun _ _ _ h => HQ.2 _ _ _ _ _ h) (Or.inl ⟨by rfl, fun w => by simp only [ops53, Tryz.f63]; go_simp⟩) ?_
    exact st_30110 D ao len cap zs base P bv n acts w Q HQ v1 v2 v3 Bs Bo w' hr hv1 hv2 hv3 (hN.keep hk) (hO.keep hk)
  exact AllReady.nil

theorem st_11100 (D : Nat) (ao : Option Addr) (len cap : Nat) (zs : Nat → Int) (base P bv n : Nat) (acts : Int) (w : World) (Q : Exit → Act → World → Prop) (HQ : FinOK D ao len cap zs base P bv n acts w Q) (v1 : Nat) (Bs : Nat) (W : World) (hR : Rolls D ao len cap zs base P bv n acts w W) (hv1 : (v1 : Int) < 4) (hN : NineAt D W Bs) :
    wpAny Tryz.prog .any ops53 Q 11 #[true, true, true, true, true, true, true, true, false, true, true, false, false, false, true, false, false, true, false, false, false, false, false] ⟨((.pointer (some ⟨P, 0, none⟩)) :: (.pointer (some ⟨D, 0, none⟩)) :: (undef) :: (undef) :: (.pointer (some ⟨w.heap.size, 0, none⟩)) :: (undef) :: (.pointer (some ⟨P, 0, none⟩)) :: (.pointer (some ⟨P, 0, none⟩)) :: (.pointer (some ⟨P, 1, none⟩)) :: (.int .i64 (n : Int)) :: (.int .i64 (IntKind.i64.wrap ((n : Int) + 1))) :: (.pointer (some ⟨D, 0, none⟩)) :: (.int .i64 (v1 : Int)) :: (.pointer (some ⟨D, 0, none⟩)) :: (undef) :: (.slice (some ⟨Bs, 0, none⟩) 9 9) :: (.pointer (some ⟨D, 0, none⟩)) :: (undef) :: (undef) :: (undef) :: (.pointer (some ⟨D, 0, none⟩)) :: (undef) :: (undef) :: (.pointer (some ⟨D, 0, none⟩)) :: (undef) :: (undef) :: (undef) :: (undef) :: (undef) :: (undef) :: (undef) :: (undef) :: (undef) :: (undef) :: (undef) :: (undef) :: []).toArray, []⟩ W := by
  have hcell := hR.cell
  have hlt := hR.ply.lt
  refine wpAny_ready (rs := [8, 21]) (by kernel_rfl) (by simp) ?_
  refine AllReady.cons rfl (fun K hK => ?_) ?_
  · simp only [ops53, Tryz.f63]
    go_wp2_with (go_at_call 35; refine (roll_any D ao len cap zs base P bv n acts w W _ hR (by decide) (by decide)).mono ?_; rintro e w' ⟨v2, rfl, hv2, hr, hk⟩)
    exact st_21100 D ao len cap zs base P bv n acts w Q HQ v1 v2 Bs w' hr hv1 hv2 (hN.keep hk)
  refine AllReady.cons rfl (fun K hK => ?_) ?_
  · simp only [ops53, Tryz.f63]
    go_simp
    refine hK _ _ ?_
    exact st_11110 D ao len cap zs base P bv n acts w Q HQ v1 Bs _ _ (hR.alloc _) hv1 (hN.alloc _) (SlotAt.make hR)
  exact AllReady.nil

theorem st_11010 (D : Nat) (ao : Option Addr) (len cap : Nat) (zs : Nat → Int) (base P bv n : Nat) (acts : Int) (w : World) (Q : Exit → Act → World → Prop) (HQ : FinOK D ao len cap zs base P bv n acts w Q) (v1 : Nat) (Bo : Nat) (W : World) (hR : Rolls D ao len cap zs base P bv n acts w W) (hv1 : (v1 : Int) < 4) (hO : SlotAt D w W Bo) :
    wpAny Tryz.prog .any ops53 Q 11 #[true, true, true, true, true, true, true, true, false, false, true, false, false, false, true, false, false, true, false, false, false, true, false] ⟨((.pointer (some ⟨P, 0, none⟩)) :: (.pointer (some ⟨D, 0, none⟩)) :: (undef) :: (undef) :: (.pointer (some ⟨w.heap.size, 0, none⟩)) :: (.pointer (some ⟨Bo, 0, none⟩)) :: (.pointer (some ⟨P, 0, none⟩)) :: (.pointer (some ⟨P, 0, none⟩)) :: (.pointer (some ⟨P, 1, none⟩)) :: (.int .i64 (n : Int)) :: (.int .i64 (IntKind.i64.wrap ((n : Int) + 1))) :: (.pointer (some ⟨D, 0, none⟩)) :: (.int .i64 (v1 : Int)) :: (.pointer (some ⟨D, 0, none⟩)) :: (undef) :: (undef) :: (.pointer (some ⟨D, 0, none⟩)) :: (undef) :: (undef) :: (undef) :: (.pointer (some ⟨D, 0, none⟩)) :: (undef) :: (undef) :: (.pointer (some ⟨D, 0, none⟩)) :: (undef) :: (undef) :: (undef) :: (undef) :: (undef) :: (undef) :: (undef) :: (undef) :: (undef) :: (undef) :: (undef) :: (undef) :: []).toArray, []⟩ W := by
  have hcell := hR.cell
  have hlt := hR.ply.lt
  refine wpAny_ready (rs := [8, 9]) (by kernel_rfl) (by simp) ?_
  refine AllReady.cons rfl (fun K hK => ?_) ?_
  · simp only [ops53, Tryz.f63]
    go_wp2_with (go_at_call 35; refine (roll_any D ao len cap zs base P bv n acts w W _ hR (by decide) (by decide)).mono ?_; rintro e w' ⟨v2, rfl, hv2, hr, hk⟩)
    exact st_21010 D ao len cap zs base P bv n acts w Q HQ v1 v2 Bo w' hr hv1 hv2 (hO.keep hk)
  refine AllReady.cons rfl (fun K hK => ?_) ?_
  · simp only [ops53, Tryz.f63]
    go_simp
    refine hK _ _ ?_
    exact st_11110 D ao len cap zs base P bv n acts w Q HQ v1 _ Bo _ (hR.alloc _) hv1 (NineAt.new hR) (hO.alloc _)
  exact AllReady.nil

theorem st_01110 (D : Nat) (ao : Option Addr) (len cap : Nat) (zs : Nat → Int) (base P bv n : Nat) (acts : Int) (w : World) (Q : Exit → Act → World → Prop) (HQ : FinOK D ao len cap zs base P bv n acts w Q) (Bs : Nat) (Bo : Nat) (W : World) (hR : Rolls D ao len cap zs base P bv n acts w W) (hN : NineAt D W Bs) (hO : SlotAt D w W Bo) :
    wpAny Tryz.prog .any ops53 Q 11 #[true, true, true, true, true, true, false, true, false, true, true, false, false, false, true, false, false, true, false, false, false, true, false] ⟨((.pointer (some ⟨P, 0, none⟩)) :: (.pointer (some ⟨D, 0, none⟩)) :: (undef) :: (undef) :: (.pointer (some ⟨w.heap.size, 0, none⟩)) :: (.pointer (some ⟨Bo, 0, none⟩)) :: (.pointer (some ⟨P, 0, none⟩)) :: (.pointer (some ⟨P, 0, none⟩)) :: (.pointer (some ⟨P, 1, none⟩)) :: (.int .i64 (n : Int)) :: (.int .i64 (IntKind.i64.wrap ((n : Int) + 1))) :: (.pointer (some ⟨D, 0, none⟩)) :: (undef) :: (.pointer (some ⟨D, 0, none⟩)) :: (undef) :: (.slice (some ⟨Bs, 0, none⟩) 9 9) :: (.pointer (some ⟨D, 0, none⟩)) :: (undef) :: (undef) :: (undef) :: (.pointer (some ⟨D, 0, none⟩)) :: (undef) :: (undef) :: (.pointer (some ⟨D, 0, none⟩)) :: (undef) :: (undef) :: (undef) :: (undef) :: (undef) :: (undef) :: (undef) :: (undef) :: (undef) :: (undef) :: (undef) :: (undef) :: []).toArray, []⟩ W := by
  have hcell := hR.cell
  have hlt := hR.ply.lt
  refine wpAny_ready (rs := [6]) (by kernel_rfl) (by simp) ?_
  refine AllReady.cons rfl (fun K hK => ?_) ?_
  · simp only [ops53, Tryz.f63]
    go_wp2_with (go_at_call 35; refine (roll_any D ao len cap zs base P bv n acts w W _ hR (by decide) (by decide)).mono ?_; rintro e w' ⟨v1, rfl, hv1, hr, hk⟩)
    exact st_11110 D ao len cap zs base P bv n acts w Q HQ v1 Bs Bo w' hr hv1 (hN.keep hk) (hO.keep hk)
  exact AllReady.nil

theorem st_30000 (D : Nat) (ao : Option Addr) (len cap : Nat) (zs : Nat → Int) (base P bv n : Nat) (acts : Int) (w : World) (Q : Exit → Act → World → Prop) (HQ : FinOK D ao len cap zs base P bv n acts w Q) (v1 v2 v3 : Nat) (W : World) (hR : Rolls D ao len cap zs base P bv n acts w W) (hv1 : (v1 : Int) < 4) (hv2 : (v2 : Int) < 2) (hv3 : (v3 : Int) < 9) :
    wpAny Tryz.prog .any ops53 Q 12 #[true, true, true, false, false, true, true, true, true, false, true, true, false, false, true, false, false, true, false, false, false, false, false] ⟨((.pointer (some ⟨P, 0, none⟩)) :: (.pointer (some ⟨D, 0, none⟩)) :: (undef) :: (undef) :: (.pointer (some ⟨w.heap.size, 0, none⟩)) :: (undef) :: (.pointer (some ⟨P, 0, none⟩)) :: (.pointer (some ⟨P, 0, none⟩)) :: (.pointer (some ⟨P, 1, none⟩)) :: (undef) :: (undef) :: (.pointer (some ⟨D, 0, none⟩)) :: (.int .i64 (v1 : Int)) :: (.pointer (some ⟨D, 0, none⟩)) :: (.int .i64 (v2 : Int)) :: (undef) :: (.pointer (some ⟨D, 0, none⟩)) :: (.int .i64 (v3 : Int)) :: (undef) :: (undef) :: (.pointer (some ⟨D, 0, none⟩)) :: (undef) :: (undef) :: (.pointer (some ⟨D, 0, none⟩)) :: (undef) :: (undef) :: (undef) :: (undef) :: (undef) :: (undef) :: (undef) :: (undef) :: (undef) :: (undef) :: (undef) :: (undef) :: []).toArray, []⟩ W := by
  have hcell := hR.cell
  have hlt := hR.ply.lt
  refine wpAny_ready (rs := [3, 9, 15, 21]) (by kernel_rfl) (by simp) ?_
  refine AllReady.cons rfl (fun K hK => ?_) ?_
  · simp only [ops53, Tryz.f63]
    go_simp
    refine hK _ _ ?_
    refine wpAny_take (i := 4) (v := .int .i64 (IntKind.i64.wrap ((n : Int) + 1))) rfl (by kernel_rfl) (by kernel_rfl) (by kernel_rfl) (fun _ _ _ h => HQ.2 _ _ _ _ _ h) (Or.inl ⟨by rfl, fun w => by simp only [ops53, Tryz.f63]; go_simp⟩) ?_
    exact st_31000 D ao len cap zs base P bv n acts w Q HQ v1 v2 v3 _ hR hv1 hv2 hv3
  refine AllReady.cons rfl (fun K hK => ?_) ?_
  · simp only [ops53, Tryz.f63]
    go_simp
    refine hK _ _ ?_
    have hv3n : v3 < 9 := by omega
    refine wpAny_take (i := 12) (v := .pointer (some ⟨W.heap.size, v3, none⟩)) rfl (by kernel_rfl) (by kernel_rfl) (by kernel_rfl) (fun _ _ _ h => HQ.2 _ _ _ _ _ h) (Or.inl ⟨by rfl, fun w => by simp only [ops53, Tryz.f63]; go_simp⟩) ?_
    exact st_30100 D ao len cap zs base P bv n acts w Q HQ v1 v2 v3 _ _ (hR.alloc _) hv1 hv2 hv3 (NineAt.new hR)
  refine AllReady.cons rfl (fun K hK => ?_) ?_
  · simp only [ops53, Tryz.f63]
    go_wp2_with (go_at_call 35; refine (roll_any D ao len cap zs base P bv n acts w W _ hR (by decide) (by decide)).mono ?_; rintro e w' ⟨v4, rfl, hv4, hr, hk⟩)
    refine wpAny_take (i := 16) (v := .int .i64 (IntKind.i64.wrap (95 + (v4 : Int)))) rfl (by kernel_rfl) (by kernel_rfl) (by kernel_rfl) (fun _ _ _ h => HQ.2 _ _ _ _ _ h) (Or.inl ⟨by rfl, fun w => by simp only [ops53, Tryz.f63]; go_simp⟩) ?_
    exact st_40000 D ao len cap zs base P bv n acts w Q HQ v1 v2 v3 v4 w' hr hv1 hv2 hv3 hv4
  refine AllReady.cons rfl (fun K hK => ?_) ?_
  · simp only [ops53, Tryz.f63]
    go_simp
    refine hK _ _ ?_
    exact st_30010 D ao len cap zs base P bv n acts w Q HQ v1 v2 v3 _ _ (hR.alloc _) hv1 hv2 hv3 (SlotAt.make hR)
  exact AllReady.nil

theorem st_20100 (D : Nat) (ao : Option Addr) (len cap : Nat) (zs : Nat → Int) (base P bv n : Nat) (acts : Int) (w : World) (Q : Exit → Act → World → Prop) (HQ : FinOK D ao len cap zs base P bv n acts w Q) (v1 v2 : Nat) (Bs : Nat) (W : World) (hR : Rolls D ao len cap zs base P bv n acts w W) (hv1 : (v1 : Int) < 4) (hv2 : (v2 : Int) < 2) (hN : NineAt D W Bs) :
    wpAny Tryz.prog .any ops53 Q 12 #[true, true, true, false, false, true, true, true, true, true, true, false, false, false, true, false, false, true, false, false, false, false, false] ⟨((.pointer (some ⟨P, 0, none⟩)) :: (.pointer (some ⟨D, 0, none⟩)) :: (undef) :: (undef) :: (.pointer (some ⟨w.heap.size, 0, none⟩)) :: (undef) :: (.pointer (some ⟨P, 0, none⟩)) :: (.pointer (some ⟨P, 0, none⟩)) :: (.pointer (some ⟨P, 1, none⟩)) :: (undef) :: (undef) :: (.pointer (some ⟨D, 0, none⟩)) :: (.int .i64 (v1 : Int)) :: (.pointer (some ⟨D, 0, none⟩)) :: (.int .i64 (v2 : Int)) :: (.slice (some ⟨Bs, 0, none⟩) 9 9) :: (.pointer (some ⟨D, 0, none⟩)) :: (undef) :: (undef) :: (undef) :: (.pointer (some ⟨D, 0, none⟩)) :: (undef) :: (undef) :: (.pointer (some ⟨D, 0, none⟩)) :: (undef) :: (undef) :: (undef) :: (undef) :: (undef) :: (undef) :: (undef) :: (undef) :: (undef) :: (undef) :: (undef) :: (undef) :: []).toArray, []⟩ W := by
  have hcell := hR.cell
  have hlt := hR.ply.lt
  refine wpAny_ready (rs := [3, 11, 21]) (by kernel_rfl) (by simp) ?_
  refine AllReady.cons rfl (fun K hK => ?_) ?_
  · simp only [ops53, Tryz.f63]
    go_simp
    refine hK _ _ ?_
    refine wpAny_take (i := 4) (v := .int .i64 (IntKind.i64.wrap ((n : Int) + 1))) rfl (by kernel_rfl) (by kernel_rfl) (by kernel_rfl) (fun _ _ _ h => HQ.2 _ _ _ _ _ h) (Or.inl ⟨by rfl, fun w => by simp only [ops53, Tryz.f63]; go_simp⟩) ?_
    exact st_21100 D ao len cap zs base P bv n acts w Q HQ v1 v2 Bs _ hR hv1 hv2 hN
  refine AllReady.cons rfl (fun K hK => ?_) ?_
  · simp only [ops53, Tryz.f63]
    go_wp2_with (go_at_call 35; refine (roll_any D ao len cap zs base P bv n acts w W _ hR (by decide) (by decide)).mono ?_; rintro e w' ⟨v3, rfl, hv3, hr, hk⟩)
    have hv3n : v3 < 9 := by omega
    refine wpAny_take (i := 12) (v := .pointer (some ⟨Bs, v3, none⟩)) rfl (by kernel_rfl) (by kernel_rfl) (by kernel_rfl) (fun _ _ _ h => HQ.2 _ _ _ _ _ h) (Or.inl ⟨by rfl, fun w => by simp only [ops53, Tryz.f63]; go_simp⟩) ?_
    exact st_30100 D ao len cap zs base P bv n acts w Q HQ v1 v2 v3 Bs w' hr hv1 hv2 hv3 (hN.keep hk)
  refine AllReady.cons rfl (fun K hK => ?_) ?_
  · simp only [ops53, Tryz.f63]
    go_simp
    refine hK _ _ ?_
    exact st_20110 D ao len cap zs base P bv n acts w Q HQ v1 v2 Bs _ _ (hR.alloc _) hv1 hv2 (hN.alloc _) (SlotAt.make hR)
  exact AllReady.nil

theorem st_20010 (D : Nat) (ao : Option Addr) (len cap : Nat) (zs : Nat → Int) (base P bv n : Nat) (acts : Int) (w : World) (Q : Exit → Act → World → Prop) (HQ : FinOK D ao len cap zs base P bv n acts w Q) (v1 v2 : Nat) (Bo : Nat) (W : World) (hR : Rolls D ao len cap zs base P bv n acts w W) (hv1 : (v1 : Int) < 4) (hv2 : (v2 : Int) < 2) (hO : SlotAt D w W Bo) :
    wpAny Tryz.prog .any ops53 Q 12 #[true, true, true, false, false, true, true, true, true, false, true, false, false, false, true, false, false, true, false, false, false, true, false] ⟨((.pointer (some ⟨P, 0, none⟩)) :: (.pointer (some ⟨D, 0, none⟩)) :: (undef) :: (undef) :: (.pointer (some ⟨w.heap.size, 0, none⟩)) :: (.pointer (some ⟨Bo, 0, none⟩)) :: (.pointer (some ⟨P, 0, none⟩)) :: (.pointer (some ⟨P, 0, none⟩)) :: (.pointer (some ⟨P, 1, none⟩)) :: (undef) :: (undef) :: (.pointer (some ⟨D, 0, none⟩)) :: (.int .i64 (v1 : Int)) :: (.pointer (some ⟨D, 0, none⟩)) :: (.int .i64 (v2 : Int)) :: (undef) :: (.pointer (some ⟨D, 0, none⟩)) :: (undef) :: (undef) :: (undef) :: (.pointer (some ⟨D, 0, none⟩)) :: (undef) :: (undef) :: (.pointer (some ⟨D, 0, none⟩)) :: (undef) :: (undef) :: (undef) :: (undef) :: (undef) :: (undef) :: (undef) :: (undef) :: (undef) :: (undef) :: (undef) :: (undef) :: []).toArray, []⟩ W := by
  have hcell := hR.cell
  have hlt := hR.ply.lt
  refine wpAny_ready (rs := [3, 9, 11]) (by kernel_rfl) (by simp) ?_
  refine AllReady.cons rfl (fun K hK => ?_) ?_
  · simp only [ops53, Tryz.f63]
    go_simp
    refine hK _ _ ?_
    refine wpAny_take (i := 4) (v := .int .i64 (IntKind.i64.wrap ((n : Int) + 1))) rfl (by kernel_rfl) (by kernel_rfl) (by kernel_rfl) (fun _ _ _ h => HQ.2 _ _ _ _ _ h) (Or.inl ⟨by rfl, fun w => by simp only [ops53, Tryz.f63]; go_simp⟩) ?_
    exact st_21010 D ao len cap zs base P bv n acts w Q HQ v1 v2 Bo _ hR hv1 hv2 hO
  refine AllReady.cons rfl (fun K hK => ?_) ?_
  · simp only [ops53, Tryz.f63]
    go_simp
    refine hK _ _ ?_
    exact st_20110 D ao len cap zs base P bv n acts w Q HQ v1 v2 _ Bo _ (hR.alloc _) hv1 hv2 (NineAt.new hR) (hO.alloc _)
  refine AllReady.cons rfl (fun K hK => ?_) ?_
  · simp only [ops53, Tryz.f63]
    go_wp2_with (go_at_call 35; refine (roll_any D ao len cap zs base P bv n acts w W _ hR (by decide) (by decide)).mono ?_; rintro e w' ⟨v3, rfl, hv3, hr, hk⟩)
    exact st_30010 D ao len cap zs base P bv n acts w Q HQ v1 v2 v3 Bo w' hr hv1 hv2 hv3 (hO.keep hk)
  exact AllReady.nil

theorem st_11000 (D : Nat) (ao : Option Addr) (len cap : Nat) (zs : Nat → Int) (base P bv n : Nat) (acts : Int) (w : World) (Q : Exit → Act → World → Prop) (HQ : FinOK D ao len cap zs base P bv n acts w Q) (v1 : Nat) (W : World) (hR : Rolls D ao len cap zs base P bv n acts w W) (hv1 : (v1 : Int) < 4) :
    wpAny Tryz.prog .any ops53 Q 12 #[true, true, true, true, true, true, true, true, false, false, true, false, false, false, true, false, false, true, false, false, false, false, false] ⟨((.pointer (some ⟨P, 0, none⟩)) :: (.pointer (some ⟨D, 0, none⟩)) :: (undef) :: (undef) :: (.pointer (some ⟨w.heap.size, 0, none⟩)) :: (undef) :: (.pointer (some ⟨P, 0, none⟩)) :: (.pointer (some ⟨P, 0, none⟩)) :: (.pointer (some ⟨P, 1, none⟩)) :: (.int .i64 (n : Int)) :: (.int .i64 (IntKind.i64.wrap ((n : Int) + 1))) :: (.pointer (some ⟨D, 0, none⟩)) :: (.int .i64 (v1 : Int)) :: (.pointer (some ⟨D, 0, none⟩)) :: (undef) :: (undef) :: (.pointer (some ⟨D, 0, none⟩)) :: (undef) :: (undef) :: (undef) :: (.pointer (some ⟨D, 0, none⟩)) :: (undef) :: (undef) :: (.pointer (some ⟨D, 0, none⟩)) :: (undef) :: (undef) :: (undef) :: (undef) :: (undef) :: (undef) :: (undef) :: (undef) :: (undef) :: (undef) :: (undef) :: (undef) :: []).toArray, []⟩ W := by
  have hcell := hR.cell
  have hlt := hR.ply.lt
  refine wpAny_ready (rs := [8, 9, 21]) (by kernel_rfl) (by simp) ?_
  refine AllReady.cons rfl (fun K hK => ?_) ?_
  · simp only [ops53, Tryz.f63]
    go_wp2_with (go_at_call 35; refine (roll_any D ao len cap zs base P bv n acts w W _ hR (by decide) (by decide)).mono ?_; rintro e w' ⟨v2, rfl, hv2, hr, hk⟩)
    exact st_21000 D ao len cap zs base P bv n acts w Q HQ v1 v2 w' hr hv1 hv2
  refine AllReady.cons rfl (fun K hK => ?_) ?_
  · simp only [ops53, Tryz.f63]
    go_simp
    refine hK _ _ ?_
    exact st_11100 D ao len cap zs base P bv n acts w Q HQ v1 _ _ (hR.alloc _) hv1 (NineAt.new hR)
  refine AllReady.cons rfl (fun K hK => ?_) ?_
  · simp only [ops53, Tryz.f63]
    go_simp
    refine hK _ _ ?_
    exact st_11010 D ao len cap zs base P bv n acts w Q HQ v1 _ _ (hR.alloc _) hv1 (SlotAt.make hR)
  exact AllReady.nil

theorem st_10110 (D : Nat) (ao : Option Addr) (len cap : Nat) (zs : Nat → Int) (base P bv n : Nat) (acts : Int) (w : World) (Q : Exit → Act → World → Prop) (HQ : FinOK D ao len cap zs base P bv n acts w Q) (v1 : Nat) (Bs : Nat) (Bo : Nat) (W : World) (hR : Rolls D ao len cap zs base P bv n acts w W) (hv1 : (v1 : Int) < 4) (hN : NineAt D W Bs) (hO : SlotAt D w W Bo) :
    wpAny Tryz.prog .any ops53 Q 12 #[true, true, true, false, false, true, true, true, false, true, true, false, false, false, true, false, false, true, false, false, false, true, false] ⟨((.pointer (some ⟨P, 0, none⟩)) :: (.pointer (some ⟨D, 0, none⟩)) :: (undef) :: (undef) :: (.pointer (some ⟨w.heap.size, 0, none⟩)) :: (.pointer (some ⟨Bo, 0, none⟩)) :: (.pointer (some ⟨P, 0, none⟩)) :: (.pointer (some ⟨P, 0, none⟩)) :: (.pointer (some ⟨P, 1, none⟩)) :: (undef) :: (undef) :: (.pointer (some ⟨D, 0, none⟩)) :: (.int .i64 (v1 : Int)) :: (.pointer (some ⟨D, 0, none⟩)) :: (undef) :: (.slice (some ⟨Bs, 0, none⟩) 9 9) :: (.pointer (some ⟨D, 0, none⟩)) :: (undef) :: (undef) :: (undef) :: (.pointer (some ⟨D, 0, none⟩)) :: (undef) :: (undef) :: (.pointer (some ⟨D, 0, none⟩)) :: (undef) :: (undef) :: (undef) :: (undef) :: (undef) :: (undef) :: (undef) :: (undef) :: (undef) :: (undef) :: (undef) :: (undef) :: []).toArray, []⟩ W := by
  have hcell := hR.cell
  have hlt := hR.ply.lt
  refine wpAny_ready (rs := [3, 8]) (by kernel_rfl) (by simp) ?_
  refine AllReady.cons rfl (fun K hK => ?_) ?_
  · simp only [ops53, Tryz.f63]
    go_simp
    refine hK _ _ ?_
    refine wpAny_take (i := 4) (v := .int .i64 (IntKind.i64.wrap ((n : Int) + 1))) rfl (by kernel_rfl) (by kernel_rfl) (by kernel_rfl) (fun _ _ _ h => HQ.2 _ _ _ _ _ h) (Or.inl ⟨by rfl, fun w => by simp only [ops53, Tryz.f63]; go_simp⟩) ?_
    exact st_11110 D ao len cap zs base P bv n acts w Q HQ v1 Bs Bo _ hR hv1 hN hO
  refine AllReady.cons rfl (fun K hK => ?_) ?_
  · simp only [ops53, Tryz.f63]
    go_wp2_with (go_at_call 35; refine (roll_any D ao len cap zs base P bv n acts w W _ hR (by decide) (by decide)).mono ?_; rintro e w' ⟨v2, rfl, hv2, hr, hk⟩)
    exact st_20110 D ao len cap zs base P bv n acts w Q HQ v1 v2 Bs Bo w' hr hv1 hv2 (hN.keep hk) (hO.keep hk)
  exact AllReady.nil

theorem st_01100 (D : Nat) (ao : Option Addr) (len cap : Nat) (zs : Nat → Int) (base P bv n : Nat) (acts : Int) (w : World) (Q : Exit → Act → World → Prop) (HQ : FinOK D ao len cap zs base P bv n acts w Q) (Bs : Nat) (W : World) (hR : Rolls D ao len cap zs base P bv n acts w W) (hN : NineAt D W Bs) :
    wpAny Tryz.prog .any ops53 Q 12 #[true, true, true, true, true, true, false, true, false, true, true, false, false, false, true, false, false, true, false, false, false, false, false] ⟨((.pointer (some ⟨P, 0, none⟩)) :: (.pointer (some ⟨D, 0, none⟩)) :: (undef) :: (undef) :: (.pointer (some ⟨w.heap.size, 0, none⟩)) :: (undef) :: (.pointer (some ⟨P, 0, none⟩)) :: (.pointer (some ⟨P, 0, none⟩)) :: (.pointer (some ⟨P, 1, none⟩)) :: (.int .i64 (n : Int)) :: (.int .i64 (IntKind.i64.wrap ((n : Int) + 1))) :: (.pointer (some ⟨D, 0, none⟩)) :: (undef) :: (.pointer (some ⟨D, 0, none⟩)) :: (undef) :: (.slice (some ⟨Bs, 0, none⟩) 9 9) :: (.pointer (some ⟨D, 0, none⟩)) :: (undef) :: (undef) :: (undef) :: (.pointer (some ⟨D, 0, none⟩)) :: (undef) :: (undef) :: (.pointer (some ⟨D, 0, none⟩)) :: (undef) :: (undef) :: (undef) :: (undef) :: (undef) :: (undef) :: (undef) :: (undef) :: (undef) :: (undef) :: (undef) :: (undef) :: []).toArray, []⟩ W := by
  have hcell := hR.cell
  have hlt := hR.ply.lt
  refine wpAny_ready (rs := [6, 21]) (by kernel_rfl) (by simp) ?_
  refine AllReady.cons rfl (fun K hK => ?_) ?_
  · simp only [ops53, Tryz.f63]
    go_wp2_with (go_at_call 35; refine (roll_any D ao len cap zs base P bv n acts w W _ hR (by decide) (by decide)).mono ?_; rintro e w' ⟨v1, rfl, hv1, hr, hk⟩)
    exact st_11100 D ao len cap zs base P bv n acts w Q HQ v1 Bs w' hr hv1 (hN.keep hk)
  refine AllReady.cons rfl (fun K hK => ?_) ?_
  · simp only [ops53, Tryz.f63]
    go_simp
    refine hK _ _ ?_
    exact st_01110 D ao len cap zs base P bv n acts w Q HQ Bs _ _ (hR.alloc _) (hN.alloc _) (SlotAt.make hR)
  exact AllReady.nil

theorem st_01010 (D : Nat) (ao : Option Addr) (len cap : Nat) (zs : Nat → Int) (base P bv n : Nat) (acts : Int) (w : World) (Q : Exit → Act → World → Prop) (HQ : FinOK D ao len cap zs base P bv n acts w Q) (Bo : Nat) (W : World) (hR : Rolls D ao len cap zs base P bv n acts w W) (hO : SlotAt D w W Bo) :
    wpAny Tryz.prog .any ops53 Q 12 #[true, true, true, true, true, true, false, true, false, false, true, false, false, false, true, false, false, true, false, false, false, true, false] ⟨((.pointer (some ⟨P, 0, none⟩)) :: (.pointer (some ⟨D, 0, none⟩)) :: (undef) :: (undef) :: (.pointer (some ⟨w.heap.size, 0, none⟩)) :: (.pointer (some ⟨Bo, 0, none⟩)) :: (.pointer (some ⟨P, 0, none⟩)) :: (.pointer (some ⟨P, 0, none⟩)) :: (.pointer (some ⟨P, 1, none⟩)) :: (.int .i64 (n : Int)) :: (.int .i64 (IntKind.i64.wrap ((n : Int) + 1))) :: (.pointer (some ⟨D, 0, none⟩)) :: (undef) :: (.pointer (some ⟨D, 0, none⟩)) :: (undef) :: (undef) :: (.pointer (some ⟨D, 0, none⟩)) :: (undef) :: (undef) :: (undef) :: (.pointer (some ⟨D, 0, none⟩)) :: (undef) :: (undef) :: (.pointer (some ⟨D, 0, none⟩)) :: (undef) :: (undef) :: (undef) :: (undef) :: (undef) :: (undef) :: (undef) :: (undef) :: (undef) :: (undef) :: (undef) :: (undef) :: []).toArray, []⟩ W := by
  have hcell := hR.cell
  have hlt := hR.ply.lt
  refine wpAny_ready (rs := [6, 9]) (by kernel_rfl) (by simp) ?_
  refine AllReady.cons rfl (fun K hK => ?_) ?_
  · simp only [ops53, Tryz.f63]
    go_wp2_with (go_at_call 35; refine (roll_any D ao len cap zs base P bv n acts w W _ hR (by decide) (by decide)).mono ?_; rintro e w' ⟨v1, rfl, hv1, hr, hk⟩)
    exact st_11010 D ao len cap zs base P bv n acts w Q HQ v1 Bo w' hr hv1 (hO.keep hk)
  refine AllReady.cons rfl (fun K hK => ?_) ?_
  · simp only [ops53, Tryz.f63]
    go_simp
    refine hK _ _ ?_
    exact st_01110 D ao len cap zs base P bv n acts w Q HQ _ Bo _ (hR.alloc _) (NineAt.new hR) (hO.alloc _)
  exact AllReady.nil

theorem st_20000 (D : Nat) (ao : Option Addr) (len cap : Nat) (zs : Nat → Int) (base P bv n : Nat) (acts : Int) (w : World) (Q : Exit → Act → World → Prop) (HQ : FinOK D ao len cap zs base P bv n acts w Q) (v1 v2 : Nat) (W : World) (hR : Rolls D ao len cap zs base P bv n acts w W) (hv1 : (v1 : Int) < 4) (hv2 : (v2 : Int) < 2) :
    wpAny Tryz.prog .any ops53 Q 13 #[true, true, true, false, false, true, true, true, true, false, true, false, false, false, true, false, false, true, false, false, false, false, false] ⟨((.pointer (some ⟨P, 0, none⟩)) :: (.pointer (some ⟨D, 0, none⟩)) :: (undef) :: (undef) :: (.pointer (some ⟨w.heap.size, 0, none⟩)) :: (undef) :: (.pointer (some ⟨P, 0, none⟩)) :: (.pointer (some ⟨P, 0, none⟩)) :: (.pointer (some ⟨P, 1, none⟩)) :: (undef) :: (undef) :: (.pointer (some ⟨D, 0, none⟩)) :: (.int .i64 (v1 : Int)) :: (.pointer (some ⟨D, 0, none⟩)) :: (.int .i64 (v2 : Int)) :: (undef) :: (.pointer (some ⟨D, 0, none⟩)) :: (undef) :: (undef) :: (undef) :: (.pointer (some ⟨D, 0, none⟩)) :: (undef) :: (undef) :: (.pointer (some ⟨D, 0, none⟩)) :: (undef) :: (undef) :: (undef) :: (undef) :: (undef) :: (undef) :: (undef) :: (undef) :: (undef) :: (undef) :: (undef) :: (undef) :: []).toArray, []⟩ W := by
  have hcell := hR.cell
  have hlt := hR.ply.lt
  refine wpAny_ready (rs := [3, 9, 11, 21]) (by kernel_rfl) (by simp) ?_
  refine AllReady.cons rfl (fun K hK => ?_) ?_
  · simp only [ops53, Tryz.f63]
    go_simp
    refine hK _ _ ?_
    refine wpAny_take (i := 4) (v := .int .i64 (IntKind.i64.wrap ((n : Int) + 1))) rfl (by kernel_rfl) (by kernel_rfl) (by kernel_rfl) (fun _ _ _ h => HQ.2 _ _ _ _ _ h) (Or.inl ⟨by rfl, fun w => by simp only [ops53, Tryz.f63]; go_simp⟩) ?_
    exact st_21000 D ao len cap zs base P bv n acts w Q HQ v1 v2 _ hR hv1 hv2
  refine AllReady.cons rfl (fun K hK => ?_) ?_
  · simp only [ops53, Tryz.f63]
    go_simp
    refine hK _ _ ?_
    exact st_20100 D ao len cap zs base P bv n acts w Q HQ v1 v2 _ _ (hR.alloc _) hv1 hv2 (NineAt.new hR)
  refine AllReady.cons rfl (fun K hK => ?_) ?_
  · simp only [ops53, Tryz.f63]
    go_wp2_with (go_at_call 35; refine (roll_any D ao len cap zs base P bv n acts w W _ hR (by decide) (by decide)).mono ?_; rintro e w' ⟨v3, rfl, hv3, hr, hk⟩)
    exact st_30000 D ao len cap zs base P bv n acts w Q HQ v1 v2 v3 w' hr hv1 hv2 hv3
  refine AllReady.cons rfl (fun K hK => ?_) ?_
  · simp only [ops53, Tryz.f63]
    go_simp
    refine hK _ _ ?_
    exact st_20010 D ao len cap zs base P bv n acts w Q HQ v1 v2 _ _ (hR.alloc _) hv1 hv2 (SlotAt.make hR)
  exact AllReady.nil

theorem st_10100 (D : Nat) (ao : Option Addr) (len cap : Nat) (zs : Nat → Int) (base P bv n : Nat) (acts : Int) (w : World) (Q : Exit → Act → World → Prop) (HQ : FinOK D ao len cap zs base P bv n acts w Q) (v1 : Nat) (Bs : Nat) (W : World) (hR : Rolls D ao len cap zs base P bv n acts w W) (hv1 : (v1 : Int) < 4) (hN : NineAt D W Bs) :
    wpAny Tryz.prog .any ops53 Q 13 #[true, true, true, false, false, true, true, true, false, true, true, false, false, false, true, false, false, true, false, false, false, false, false] ⟨((.pointer (some ⟨P, 0, none⟩)) :: (.pointer (some ⟨D, 0, none⟩)) :: (undef) :: (undef) :: (.pointer (some ⟨w.heap.size, 0, none⟩)) :: (undef) :: (.pointer (some ⟨P, 0, none⟩)) :: (.pointer (some ⟨P, 0, none⟩)) :: (.pointer (some ⟨P, 1, none⟩)) :: (undef) :: (undef) :: (.pointer (some ⟨D, 0, none⟩)) :: (.int .i64 (v1 : Int)) :: (.pointer (some ⟨D, 0, none⟩)) :: (undef) :: (.slice (some ⟨Bs, 0, none⟩) 9 9) :: (.pointer (some ⟨D, 0, none⟩)) :: (undef) :: (undef) :: (undef) :: (.pointer (some ⟨D, 0, none⟩)) :: (undef) :: (undef) :: (.pointer (some ⟨D, 0, none⟩)) :: (undef) :: (undef) :: (undef) :: (undef) :: (undef) :: (undef) :: (undef) :: (undef) :: (undef) :: (undef) :: (undef) :: (undef) :: []).toArray, []⟩ W := by
  have hcell := hR.cell
  have hlt := hR.ply.lt
  refine wpAny_ready (rs := [3, 8, 21]) (by kernel_rfl) (by simp) ?_
  refine AllReady.cons rfl (fun K hK => ?_) ?_
  · simp only [ops53, Tryz.f63]
    go_simp
    refine hK _ _ ?_
    refine wpAny_take (i := 4) (v := .int .i64 (IntKind.i64.wrap ((n : Int) + 1))) rfl (by kernel_rfl) (by kernel_rfl) (by kernel_rfl) (fun _ _ _ h => HQ.2 _ _ _ _ _ h) (Or.inl ⟨by rfl, fun w => by simp only [ops53, Tryz.f63]; go_simp⟩) ?_
    exact st_11100 D ao len cap zs base P bv n acts w Q HQ v1 Bs _ hR hv1 hN
  refine AllReady.cons rfl (fun K hK => ?_) ?_
  · simp only [ops53, Tryz.f63]
    go_wp2_with (go_at_call 35; refine (roll_any D ao len cap zs base P bv n acts w W _ hR (by decide) (by decide)).mono ?_; rintro e w' ⟨v2, rfl, hv2, hr, hk⟩)
    exact st_20100 D ao len cap zs base P bv n acts w Q HQ v1 v2 Bs w' hr hv1 hv2 (hN.keep hk)
  refine AllReady.cons rfl (fun K hK => ?_) ?_
  · simp only [ops53, Tryz.f63]
    go_simp
    refine hK _ _ ?_
    exact st_10110 D ao len cap zs base P bv n acts w Q HQ v1 Bs _ _ (hR.alloc _) hv1 (hN.alloc _) (SlotAt.make hR)
  exact AllReady.nil

theorem st_10010 (D : Nat) (ao : Option Addr) (len cap : Nat) (zs : Nat → Int) (base P bv n : Nat) (acts : Int) (w : World) (Q : Exit → Act → World → Prop) (HQ : FinOK D ao len cap zs base P bv n acts w Q) (v1 : Nat) (Bo : Nat) (W : World) (hR : Rolls D ao len cap zs base P bv n acts w W) (hv1 : (v1 : Int) < 4) (hO : SlotAt D w W Bo) :
    wpAny Tryz.prog .any ops53 Q 13 #[true, true, true, false, false, true, true, true, false, false, true, false, false, false, true, false, false, true, false, false, false, true, false] ⟨((.pointer (some ⟨P, 0, none⟩)) :: (.pointer (some ⟨D, 0, none⟩)) :: (undef) :: (undef) :: (.pointer (some ⟨w.heap.size, 0, none⟩)) :: (.pointer (some ⟨Bo, 0, none⟩)) :: (.pointer (some ⟨P, 0, none⟩)) :: (.pointer (some ⟨P, 0, none⟩)) :: (.pointer (some ⟨P, 1, none⟩)) :: (undef) :: (undef) :: (.pointer (some ⟨D, 0, none⟩)) :: (.int .i64 (v1 : Int)) :: (.pointer (some ⟨D, 0, none⟩)) :: (undef) :: (undef) :: (.pointer (some ⟨D, 0, none⟩)) :: (undef) :: (undef) :: (undef) :: (.pointer (some ⟨D, 0, none⟩)) :: (undef) :: (undef) :: (.pointer (some ⟨D, 0, none⟩)) :: (undef) :: (undef) :: (undef) :: (undef) :: (undef) :: (undef) :: (undef) :: (undef) :: (undef) :: (undef) :: (undef) :: (undef) :: []).toArray, []⟩ W := by
  have hcell := hR.cell
  have hlt := hR.ply.lt
  refine wpAny_ready (rs := [3, 8, 9]) (by kernel_rfl) (by simp) ?_
  refine AllReady.cons rfl (fun K hK => ?_) ?_
  · simp only [ops53, Tryz.f63]
    go_simp
    refine hK _ _ ?_
    refine wpAny_take (i := 4) (v := .int .i64 (IntKind.i64.wrap ((n : Int) + 1))) rfl (by kernel_rfl) (by kernel_rfl) (by kernel_rfl) (fun _ _ _ h => HQ.2 _ _ _ _ _ h) (Or.inl ⟨by rfl, fun w => by simp only [ops53, Tryz.f63]; go_simp⟩) ?_
    exact st_11010 D ao len cap zs base P bv n acts w Q HQ v1 Bo _ hR hv1 hO
  refine AllReady.cons rfl (fun K hK => ?_) ?_
  · simp only [ops53, Tryz.f63]
    go_wp2_with (go_at_call 35; refine (roll_any D ao len cap zs base P bv n acts w W _ hR (by decide) (by decide)).mono ?_; rintro e w' ⟨v2, rfl, hv2, hr, hk⟩)
    exact st_20010 D ao len cap zs base P bv n acts w Q HQ v1 v2 Bo w' hr hv1 hv2 (hO.keep hk)
  refine AllReady.cons rfl (fun K hK => ?_) ?_
  · simp only [ops53, Tryz.f63]
    go_simp
    refine hK _ _ ?_
    exact st_10110 D ao len cap zs base P bv n acts w Q HQ v1 _ Bo _ (hR.alloc _) hv1 (NineAt.new hR) (hO.alloc _)
  exact AllReady.nil

theorem st_01000 (D : Nat) (ao : Option Addr) (len cap : Nat) (zs : Nat → Int) (base P bv n : Nat) (acts : Int) (w : World) (Q : Exit → Act → World → Prop) (HQ : FinOK D ao len cap zs base P bv n acts w Q) (W : World) (hR : Rolls D ao len cap zs base P bv n acts w W) :
    wpAny Tryz.prog .any ops53 Q 13 #[true, true, true, true, true, true, false, true, false, false, true, false, false, false, true, false, false, true, false, false, false, false, false] ⟨((.pointer (some ⟨P, 0, none⟩)) :: (.pointer (some ⟨D, 0, none⟩)) :: (undef) :: (undef) :: (.pointer (some ⟨w.heap.size, 0, none⟩)) :: (undef) :: (.pointer (some ⟨P, 0, none⟩)) :: (.pointer (some ⟨P, 0, none⟩)) :: (.pointer (some ⟨P, 1, none⟩)) :: (.int .i64 (n : Int)) :: (.int .i64 (IntKind.i64.wrap ((n : Int) + 1))) :: (.pointer (some ⟨D, 0, none⟩)) :: (undef) :: (.pointer (some ⟨D, 0, none⟩)) :: (undef) :: (undef) :: (.pointer (some ⟨D, 0, none⟩)) :: (undef) :: (undef) :: (undef) :: (.pointer (some ⟨D, 0, none⟩)) :: (undef) :: (undef) :: (.pointer (some ⟨D, 0, none⟩)) :: (undef) :: (undef) :: (undef) :: (undef) :: (undef) :: (undef) :: (undef) :: (undef) :: (undef) :: (undef) :: (undef) :: (undef) :: []).toArray, []⟩ W := by
  have hcell := hR.cell
  have hlt := hR.ply.lt
  refine wpAny_ready (rs := [6, 9, 21]) (by kernel_rfl) (by simp) ?_
  refine AllReady.cons rfl (fun K hK => ?_) ?_
  · simp only [ops53, Tryz.f63]
    go_wp2_with (go_at_call 35; refine (roll_any D ao len cap zs base P bv n acts w W _ hR (by decide) (by decide)).mono ?_; rintro e w' ⟨v1, rfl, hv1, hr, hk⟩)
    exact st_11000 D ao len cap zs base P bv n acts w Q HQ v1 w' hr hv1
  refine AllReady.cons rfl (fun K hK => ?_) ?_
  · simp only [ops53, Tryz.f63]
    go_simp
    refine hK _ _ ?_
    exact st_01100 D ao len cap zs base P bv n acts w Q HQ _ _ (hR.alloc _) (NineAt.new hR)
  refine AllReady.cons rfl (fun K hK => ?_) ?_
  · simp only [ops53, Tryz.f63]
    go_simp
    refine hK _ _ ?_
    exact st_01010 D ao len cap zs base P bv n acts w Q HQ _ _ (hR.alloc _) (SlotAt.make hR)
  exact AllReady.nil

theorem st_00110 (D : Nat) (ao : Option Addr) (len cap : Nat) (zs : Nat → Int) (base P bv n : Nat) (acts : Int) (w : World) (Q : Exit → Act → World → Prop) (HQ : FinOK D ao len cap zs base P bv n acts w Q) (Bs : Nat) (Bo : Nat) (W : World) (hR : Rolls D ao len cap zs base P bv n acts w W) (hN : NineAt D W Bs) (hO : SlotAt D w W Bo) :
    wpAny Tryz.prog .any ops53 Q 13 #[true, true, true, false, false, true, false, true, false, true, true, false, false, false, true, false, false, true, false, false, false, true, false] ⟨((.pointer (some ⟨P, 0, none⟩)) :: (.pointer (some ⟨D, 0, none⟩)) :: (undef) :: (undef) :: (.pointer (some ⟨w.heap.size, 0, none⟩)) :: (.pointer (some ⟨Bo, 0, none⟩)) :: (.pointer (some ⟨P, 0, none⟩)) :: (.pointer (some ⟨P, 0, none⟩)) :: (.pointer (some ⟨P, 1, none⟩)) :: (undef) :: (undef) :: (.pointer (some ⟨D, 0, none⟩)) :: (undef) :: (.pointer (some ⟨D, 0, none⟩)) :: (undef) :: (.slice (some ⟨Bs, 0, none⟩) 9 9) :: (.pointer (some ⟨D, 0, none⟩)) :: (undef) :: (undef) :: (undef) :: (.pointer (some ⟨D, 0, none⟩)) :: (undef) :: (undef) :: (.pointer (some ⟨D, 0, none⟩)) :: (undef) :: (undef) :: (undef) :: (undef) :: (undef) :: (undef) :: (undef) :: (undef) :: (undef) :: (undef) :: (undef) :: (undef) :: []).toArray, []⟩ W := by
  have hcell := hR.cell
  have hlt := hR.ply.lt
  refine wpAny_ready (rs := [3, 6]) (by kernel_rfl) (by simp) ?_
  refine AllReady.cons rfl (fun K hK => ?_) ?_
  · simp only [ops53, Tryz.f63]
    go_simp
    refine hK _ _ ?_
    refine wpAny_take (i := 4) (v := .int .i64 (IntKind.i64.wrap ((n : Int) + 1))) rfl (by kernel_rfl) (by kernel_rfl) (by kernel_rfl) (fun _ _ _ h => HQ.2 _ _ _ _ _ h) (Or.inl ⟨by rfl, fun w => by simp only [ops53, Tryz.f63]; go_simp⟩) ?_
    exact st_01110 D ao len cap zs base P bv n acts w Q HQ Bs Bo _ hR hN hO
  refine AllReady.cons rfl (fun K hK => ?_) ?_
  · simp only [ops53, Tryz.f63]
    go_wp2_with (go_at_call 35; refine (roll_any D ao len cap zs base P bv n acts w W _ hR (by decide) (by decide)).mono ?_; rintro e w' ⟨v1, rfl, hv1, hr, hk⟩)
    exact st_10110 D ao len cap zs base P bv n acts w Q HQ v1 Bs Bo w' hr hv1 (hN.keep hk) (hO.keep hk)
  exact AllReady.nil

theorem st_10000 (D : Nat) (ao : Option Addr) (len cap : Nat) (zs : Nat → Int) (base P bv n : Nat) (acts : Int) (w : World) (Q : Exit → Act → World → Prop) (HQ : FinOK D ao len cap zs base P bv n acts w Q) (v1 : Nat) (W : World) (hR : Rolls D ao len cap zs base P bv n acts w W) (hv1 : (v1 : Int) < 4) :
    wpAny Tryz.prog .any ops53 Q 14 #[true, true, true, false, false, true, true, true, false, false, true, false, false, false, true, false, false, true, false, false, false, false, false] ⟨((.pointer (some ⟨P, 0, none⟩)) :: (.pointer (some ⟨D, 0, none⟩)) :: (undef) :: (undef) :: (.pointer (some ⟨w.heap.size, 0, none⟩)) :: (undef) :: (.pointer (some ⟨P, 0, none⟩)) :: (.pointer (some ⟨P, 0, none⟩)) :: (.pointer (some ⟨P, 1, none⟩)) :: (undef) :: (undef) :: (.pointer (some ⟨D, 0, none⟩)) :: (.int .i64 (v1 : Int)) :: (.pointer (some ⟨D, 0, none⟩)) :: (undef) :: (undef) :: (.pointer (some ⟨D, 0, none⟩)) :: (undef) :: (undef) :: (undef) :: (.pointer (some ⟨D, 0, none⟩)) :: (undef) :: (undef) :: (.pointer (some ⟨D, 0, none⟩)) :: (undef) :: (undef) :: (undef) :: (undef) :: (undef) :: (undef) :: (undef) :: (undef) :: (undef) :: (undef) :: (undef) :: (undef) :: []).toArray, []⟩ W := by
  have hcell := hR.cell
  have hlt := hR.ply.lt
  refine wpAny_ready (rs := [3, 8, 9, 21]) (by kernel_rfl) (by simp) ?_
  refine AllReady.cons rfl (fun K hK => ?_) ?_
  · simp only [ops53, Tryz.f63]
    go_simp
    refine hK _ _ ?_
    refine wpAny_take (i := 4) (v := .int .i64 (IntKind.i64.wrap ((n : Int) + 1))) rfl (by kernel_rfl) (by kernel_rfl) (by kernel_rfl) (fun _ _ _ h => HQ.2 _ _ _ _ _ h) (Or.inl ⟨by rfl, fun w => by simp only [ops53, Tryz.f63]; go_simp⟩) ?_
    exact st_11000 D ao len cap zs base P bv n acts w Q HQ v1 _ hR hv1
  refine AllReady.cons rfl (fun K hK => ?_) ?_
  · simp only [ops53, Tryz.f63]
    go_wp2_with (go_at_call 35; refine (roll_any D ao len cap zs base P bv n acts w W _ hR (by decide) (by decide)).mono ?_; rintro e w' ⟨v2, rfl, hv2, hr, hk⟩)
    exact st_20000 D ao len cap zs base P bv n acts w Q HQ v1 v2 w' hr hv1 hv2
  refine AllReady.cons rfl (fun K hK => ?_) ?_
  · simp only [ops53, Tryz.f63]
    go_simp
    refine hK _ _ ?_
    exact st_10100 D ao len cap zs base P bv n acts w Q HQ v1 _ _ (hR.alloc _) hv1 (NineAt.new hR)
  refine AllReady.cons rfl (fun K hK => ?_) ?_
  · simp only [ops53, Tryz.f63]
    go_simp
    refine hK _ _ ?_
    exact st_10010 D ao len cap zs base P bv n acts w Q HQ v1 _ _ (hR.alloc _) hv1 (SlotAt.make hR)
  exact AllReady.nil

theorem st_00100 (D : Nat) (ao : Option Addr) (len cap : Nat) (zs : Nat → Int) (base P bv n : Nat) (acts : Int) (w : World) (Q : Exit → Act → World → Prop) (HQ : FinOK D ao len cap zs base P bv n acts w Q) (Bs : Nat) (W : World) (hR : Rolls D ao len cap zs base P bv n acts w W) (hN : NineAt D W Bs) :
    wpAny Tryz.prog .any ops53 Q 14 #[true, true, true, false, false, true, false, true, false, true, true, false, false, false, true, false, false, true, false, false, false, false, false] ⟨((.pointer (some ⟨P, 0, none⟩)) :: (.pointer (some ⟨D, 0, none⟩)) :: (undef) :: (undef) :: (.pointer (some ⟨w.heap.size, 0, none⟩)) :: (undef) :: (.pointer (some ⟨P, 0, none⟩)) :: (.pointer (some ⟨P, 0, none⟩)) :: (.pointer (some ⟨P, 1, none⟩)) :: (undef) :: (undef) :: (.pointer (some ⟨D, 0, none⟩)) :: (undef) :: (.pointer (some ⟨D, 0, none⟩)) :: (undef) :: (.slice (some ⟨Bs, 0, none⟩) 9 9) :: (.pointer (some ⟨D, 0, none⟩)) :: (undef) :: (undef) :: (undef) :: (.pointer (some ⟨D, 0, none⟩)) :: (undef) :: (undef) :: (.pointer (some ⟨D, 0, none⟩)) :: (undef) :: (undef) :: (undef) :: (undef) :: (undef) :: (undef) :: (undef) :: (undef) :: (undef) :: (undef) :: (undef) :: (undef) :: []).toArray, []⟩ W := by
  have hcell := hR.cell
  have hlt := hR.ply.lt
  refine wpAny_ready (rs := [3, 6, 21]) (by kernel_rfl) (by simp) ?_
  refine AllReady.cons rfl (fun K hK => ?_) ?_
  · simp only [ops53, Tryz.f63]
    go_simp
    refine hK _ _ ?_
    refine wpAny_take (i := 4) (v := .int .i64 (IntKind.i64.wrap ((n : Int) + 1))) rfl (by kernel_rfl) (by kernel_rfl) (by kernel_rfl) (fun _ _ _ h => HQ.2 _ _ _ _ _ h) (Or.inl ⟨by rfl, fun w => by simp only [ops53, Tryz.f63]; go_simp⟩) ?_
    exact st_01100 D ao len cap zs base P bv n acts w Q HQ Bs _ hR hN
  refine AllReady.cons rfl (fun K hK => ?_) ?_
  · simp only [ops53, Tryz.f63]
    go_wp2_with (go_at_call 35; refine (roll_any D ao len cap zs base P bv n acts w W _ hR (by decide) (by decide)).mono ?_; rintro e w' ⟨v1, rfl, hv1, hr, hk⟩)
    exact st_10100 D ao len cap zs base P bv n acts w Q HQ v1 Bs w' hr hv1 (hN.keep hk)
  refine AllReady.cons rfl (fun K hK => ?_) ?_
  · simp only [ops53, Tryz.f63]
    go_simp
    refine hK _ _ ?_
    exact st_00110 D ao len cap zs base P bv n acts w Q HQ Bs _ _ (hR.alloc _) (hN.alloc _) (SlotAt.make hR)
  exact AllReady.nil

theorem st_00010 (D : Nat) (ao : Option Addr) (len cap : Nat) (zs : Nat → Int) (base P bv n : Nat) (acts : Int) (w : World) (Q : Exit → Act → World → Prop) (HQ : FinOK D ao len cap zs base P bv n acts w Q) (Bo : Nat) (W : World) (hR : Rolls D ao len cap zs base P bv n acts w W) (hO : SlotAt D w W Bo) :
    wpAny Tryz.prog .any ops53 Q 14 #[true, true, true, false, false, true, false, true, false, false, true, false, false, false, true, false, false, true, false, false, false, true, false] ⟨((.pointer (some ⟨P, 0, none⟩)) :: (.pointer (some ⟨D, 0, none⟩)) :: (undef) :: (undef) :: (.pointer (some ⟨w.heap.size, 0, none⟩)) :: (.pointer (some ⟨Bo, 0, none⟩)) :: (.pointer (some ⟨P, 0, none⟩)) :: (.pointer (some ⟨P, 0, none⟩)) :: (.pointer (some ⟨P, 1, none⟩)) :: (undef) :: (undef) :: (.pointer (some ⟨D, 0, none⟩)) :: (undef) :: (.pointer (some ⟨D, 0, none⟩)) :: (undef) :: (undef) :: (.pointer (some ⟨D, 0, none⟩)) :: (undef) :: (undef) :: (undef) :: (.pointer (some ⟨D, 0, none⟩)) :: (undef) :: (undef) :: (.pointer (some ⟨D, 0, none⟩)) :: (undef) :: (undef) :: (undef) :: (undef) :: (undef) :: (undef) :: (undef) :: (undef) :: (undef) :: (undef) :: (undef) :: (undef) :: []).toArray, []⟩ W := by
  have hcell := hR.cell
  have hlt := hR.ply.lt
  refine wpAny_ready (rs := [3, 6, 9]) (by kernel_rfl) (by simp) ?_
  refine AllReady.cons rfl (fun K hK => ?_) ?_
  · simp only [ops53, Tryz.f63]
    go_simp
    refine hK _ _ ?_
    refine wpAny_take (i := 4) (v := .int .i64 (IntKind.i64.wrap ((n : Int) + 1))) rfl (by kernel_rfl) (by kernel_rfl) (by kernel_rfl) (fun _ _ _ h => HQ.2 _ _ _ _ _ h) (Or.inl ⟨by rfl, fun w => by simp only [ops53, Tryz.f63]; go_simp⟩) ?_
    exact st_01010 D ao len cap zs base P bv n acts w Q HQ Bo _ hR hO
  refine AllReady.cons rfl (fun K hK => ?_) ?_
  · simp only [ops53, Tryz.f63]
    go_wp2_with (go_at_call 35; refine (roll_any D ao len cap zs base P bv n acts w W _ hR (by decide) (by decide)).mono ?_; rintro e w' ⟨v1, rfl, hv1, hr, hk⟩)
    exact st_10010 D ao len cap zs base P bv n acts w Q HQ v1 Bo w' hr hv1 (hO.keep hk)
  refine AllReady.cons rfl (fun K hK => ?_) ?_
  · simp only [ops53, Tryz.f63]
    go_simp
    refine hK _ _ ?_
    exact st_00110 D ao len cap zs base P bv n acts w Q HQ _ Bo _ (hR.alloc _) (NineAt.new hR) (hO.alloc _)
  exact AllReady.nil

theorem st_00000 (D : Nat) (ao : Option Addr) (len cap : Nat) (zs : Nat → Int) (base P bv n : Nat) (acts : Int) (w : World) (Q : Exit → Act → World → Prop) (HQ : FinOK D ao len cap zs base P bv n acts w Q) (W : World) (hR : Rolls D ao len cap zs base P bv n acts w W) :
    wpAny Tryz.prog .any ops53 Q 15 #[true, true, true, false, false, true, false, true, false, false, true, false, false, false, true, false, false, true, false, false, false, false, false] ⟨((.pointer (some ⟨P, 0, none⟩)) :: (.pointer (some ⟨D, 0, none⟩)) :: (undef) :: (undef) :: (.pointer (some ⟨w.heap.size, 0, none⟩)) :: (undef) :: (.pointer (some ⟨P, 0, none⟩)) :: (.pointer (some ⟨P, 0, none⟩)) :: (.pointer (some ⟨P, 1, none⟩)) :: (undef) :: (undef) :: (.pointer (some ⟨D, 0, none⟩)) :: (undef) :: (.pointer (some ⟨D, 0, none⟩)) :: (undef) :: (undef) :: (.pointer (some ⟨D, 0, none⟩)) :: (undef) :: (undef) :: (undef) :: (.pointer (some ⟨D, 0, none⟩)) :: (undef) :: (undef) :: (.pointer (some ⟨D, 0, none⟩)) :: (undef) :: (undef) :: (undef) :: (undef) :: (undef) :: (undef) :: (undef) :: (undef) :: (undef) :: (undef) :: (undef) :: (undef) :: []).toArray, []⟩ W := by
  have hcell := hR.cell
  have hlt := hR.ply.lt
  refine wpAny_ready (rs := [3, 6, 9, 21]) (by kernel_rfl) (by simp) ?_
  refine AllReady.cons rfl (fun K hK => ?_) ?_
  · simp only [ops53, Tryz.f63]
    go_simp
    refine hK _ _ ?_
    refine wpAny_take (i := 4) (v := .int .i64 (IntKind.i64.wrap ((n : Int) + 1))) rfl (by kernel_rfl) (by kernel_rfl) (by kernel_rfl) (fun _ _ _ h => HQ.2 _ _ _ _ _ h) (Or.inl ⟨by rfl, fun w => by simp only [ops53, Tryz.f63]; go_simp⟩) ?_
    exact st_01000 D ao len cap zs base P bv n acts w Q HQ _ hR
  refine AllReady.cons rfl (fun K hK => ?_) ?_
  · simp only [ops53, Tryz.f63]
    go_wp2_with (go_at_call 35; refine (roll_any D ao len cap zs base P bv n acts w W _ hR (by decide) (by decide)).mono ?_; rintro e w' ⟨v1, rfl, hv1, hr, hk⟩)
    exact st_10000 D ao len cap zs base P bv n acts w Q HQ v1 w' hr hv1
  refine AllReady.cons rfl (fun K hK => ?_) ?_
  · simp only [ops53, Tryz.f63]
    go_simp
    refine hK _ _ ?_
    exact st_00100 D ao len cap zs base P bv n acts w Q HQ _ _ (hR.alloc _) (NineAt.new hR)
  refine AllReady.cons rfl (fun K hK => ?_) ?_
  · simp only [ops53, Tryz.f63]
    go_simp
    refine hK _ _ ?_
    exact st_00010 D ao len cap zs base P bv n acts w Q HQ _ _ (hR.alloc _) (SlotAt.make hR)
  exact AllReady.nil

end Go.Proofs.YtigaphnafnpfnaaGreatDoor

