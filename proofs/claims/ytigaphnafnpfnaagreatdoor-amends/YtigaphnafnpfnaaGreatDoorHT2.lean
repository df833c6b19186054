import Derived.Test.YtigaphnafnpfnaaGreatDoorHP3
import Derived.Test.YtigaphnafnpfnaaGreatDoorHR1
import Derived.Test.YtigaphnafnpfnaaGreatDoorHP5
/- Trades: the trades that hold, as they lie -/
set_option linter.unusedVariables false
set_option linter.unusedSimpArgs false
namespace Go.Proofs.YtigaphnafnpfnaaGreatDoor
open Go.RowKit Go.Maps
attribute [local go_sem ↓] Go.wp_at_zero Go.wp_at_succ

def flatT (ts : List Tr) : List Value := ts.flatMap Tr.cells
theorem flatT_append (a b : List Tr) : flatT (a ++ b) = flatT a ++ flatT b := by simp [flatT, List.flatMap_append]
theorem flatT_snoc (a : List Tr) (t : Tr) : flatT (a ++ [t]) = flatT a ++ t.cells := by rw [flatT_append]; simp [flatT]
theorem flatT_len (a : List Tr) : (flatT a).length = a.length * 7 := by
  induction a with
  | nil => rfl
  | cons x a ih =>
    show (x.cells ++ flatT a).length = _
    rw [List.length_append, ih, List.length_cons]
    show 7 + _ = _
    omega
theorem held_take_succ {tr : List Tg} {i : Nat} {x : Tg} (hx : tr[i]? = some x) : held (tr.take (i + 1)) = held (tr.take i) ++ (if x.holds then [x.t] else []) := by
  rw [List.take_add_one, hx, held_append]
  show _ ++ held [x] = _
  rw [held_one]
theorem held_take_len (tr : List Tg) (i : Nat) : (held (tr.take i)).length ≤ i := by
  unfold held
  rw [List.length_map]
  refine Nat.le_trans (List.length_filter_le _ _) ?_
  rw [List.length_take]
  omega

set_option maxHeartbeats 2000000 in
set_option maxRecDepth 100000 in
theorem trades_all (bv bm bo : Nat) (G : Lg) (lm : Lm) (w : World) (hL : IsLog w bv bm bo G lm) (hsy : SyOK G) (hlen : G.tr.length ≤ 1000000) :
    Calls Tryz.prog 20 #[.pointer (some ⟨bv, 0, none⟩)] w fun e w' => ∃ a c, e = .returned (.slice a (held G.tr).length c) ∧ w'.ownsRow w.heap.size 56 7 (.slice a (held G.tr).length c) (held G.tr).length (flatT (held G.tr)) ∧ Chg Non w w' := by
  obtain ⟨n, hn⟩ : ∃ n, G.tr.length = n := ⟨_, rfl⟩
  obtain ⟨pa, pc, htv⟩ := hL.log.tvForm hn
  have v2 : w.cell? ⟨bv, 2, none⟩ = some (.slice pa n pc) := by rw [← htv]; exact hL.ven.cell 2
  have HX : Hid (∀ i, i < n → ∃ g b x, G.tr[i]? = some x ∧ pa = some ⟨g, 0, none⟩ ∧ w.cell? ⟨g, i, none⟩ = some (.pointer (some ⟨b, 0, none⟩)) ∧ Blk w b (Tg.cells x) 105 ∧ x.t.sym.size ≤ 100000) := by
    intro i hi
    have hi' : i < G.tr.length := by omega
    obtain ⟨g, cap, b, h1, h2, _, h4⟩ := hL.log.at (List.getElem?_eq_getElem hi')
    rw [htv] at h1
    simp only [Value.slice.injEq] at h1
    exact ⟨g, b, _, List.getElem?_eq_getElem hi', h1.1, h2, h4, hsy _ (List.getElem_mem hi')⟩
  rw [hn] at hlen
  obtain ⟨H, hH⟩ : ∃ H : Nat → List Tr, H = fun i => held (G.tr.take i) := ⟨_, rfl⟩
  have HS : Hid (∀ i x, G.tr[i]? = some x → H (i + 1) = H i ++ (if x.holds then [x.t] else [])) := fun i x hx => by rw [hH]; exact held_take_succ hx
  have hLn : ∀ i, (H i).length ≤ i := fun i => by rw [hH]; exact held_take_len _ _
  have HE : Hid (H n = held G.tr) := by rw [hH]; show held (G.tr.take n) = _; rw [← hn, List.take_length]
  have H0 : H 0 = [] := by rw [hH]; rfl
  have HHG := hide hH
  clear hL htv hn hsy hH
  go_enter Tryz.func20, Tryz.ntmps20
  go_wp2
  go_loopg [3, 5, 11] n (fun k al _ iv wr => ∃ i m : Nat, iv = .int .i64 (i : Int) ∧ i ≤ n ∧ m = (H i).length ∧ k = n - i ∧ wr.ownsRow w.heap.size 56 7 al m (flatT (H i)) ∧ Chg Non w wr)
  case atStart => exact ⟨0, 0, rfl, Nat.zero_le _, by rw [H0]; rfl, rfl, by rw [H0]; exact World.ownsRow_nil _ _ _ _, Chg.refl _ _⟩
  case round =>
    obtain ⟨i, m, rfl, hi, hmi, hgk, hrow, kr⟩ := hrel
    have hmle := hLn i
    obtain ⟨xs, hxs⟩ : ∃ xs, flatT (H i) = xs := ⟨_, rfl⟩
    rw [hxs] at hrow
    have HXS := hide hxs
    have HM := hide hmi
    have hm1 : m ≤ i := by omega
    clear hxs hmi hmle hLn
    by_cases hlt : i < n
    · obtain ⟨g, b, x, hx, rfl, c1, hb, hsz⟩ := unhide HX i hlt
      have HN := hide (unhide HS i x hx)
      clear hx
      have c1' := kr.cell c1 (fun x => x)
      have hb' := kr.blk hb (fun x => x)
      have c7 : wr.cell? ⟨b, 7, none⟩ = some (.bool x.holds) := hb'.cell 7
      have t0 : wr.cell? ⟨b, 0, none⟩ = some (.int .i64 x.t.num) := hb'.cell 0
      have t1 : wr.cell? ⟨b, 1, none⟩ = some (.string x.t.sym) := hb'.cell 1
      have t2 : wr.cell? ⟨b, 2, none⟩ = some (.int .i64 x.t.price) := hb'.cell 2
      have t3 : wr.cell? ⟨b, 3, none⟩ = some (.int .i64 x.t.qty) := hb'.cell 3
      have t4 : wr.cell? ⟨b, 4, none⟩ = some (.int .i64 x.t.buy) := hb'.cell 4
      have t5 : wr.cell? ⟨b, 5, none⟩ = some (.int .i64 x.t.sell) := hb'.cell 5
      have t6 : wr.cell? ⟨b, 6, none⟩ = some (.int .i64 x.t.day) := hb'.cell 6
      have HRow := hide hrow
      have HK := hide kr
      clear hrow kr hb hb' c1
      cases hh : x.holds
      · rw [hh] at c7
        go_wp2
        go_roundg (n - (i + 1))
        case measure => omega
        case rel =>
          have hN := unhide HN
          rw [hh] at hN
          simp only [Bool.false_eq_true, if_false, List.append_nil] at hN
          exact ⟨i + 1, m, by push_cast; rfl, by omega, by rw [hN]; exact unhide HM, rfl, by rw [hN, unhide HXS]; exact unhide HRow, unhide HK⟩
      · rw [hh] at c7
        obtain ⟨va, vc, rfl⟩ : ∃ va vc, u3 = .slice va m vc := by
          rcases (unhide HRow).2 with ⟨h, h0⟩ | ⟨g, cap, cs, h, _⟩
          · exact ⟨none, 0, by rw [h, h0]⟩
          · exact ⟨_, cap, h⟩
        have HH := hide (handedOut_any x.t wr hsz)
        go_wp2_with fail
        refine (unhide HH).mono ?_
        rintro e w2 ⟨rfl, k2⟩
        have hrow2 := own_kept (unhide HRow) k2 (fun _ _ x => x)
        have hmx : m + 1 ≤ maxLen := by unfold maxLen; omega
        have hm24 : (m + 1) * 64 ≤ 140737488355328 := by omega
        obtain ⟨i0, z0, hi0, hz0, hz1, hz2, hz3⟩ := info64_parts
        have hrow3 := hrow2.alloc (.cells #[.int .i64 x.t.num, .string x.t.sym, .int .i64 x.t.price, .int .i64 x.t.qty, .int .i64 x.t.buy, .int .i64 x.t.sell, .int .i64 x.t.day] 56)
        have hbs : w.heap.size ≤ w2.heap.size := by have := (unhide HK).size; have := k2.size; omega
        have HR3 := hide hrow3
        have HK2 := hide ((unhide HK).trans k2)
        have hone : ∀ u ∈ x.t.cells, u.oneCell' = true := by simp [Tr.cells, Value.oneCell']
        clear hrow2 hrow3 k2 c7 t0 t1 t2 t3 t4 t5 t6 c1'
        simp only [Tr.val]
        go_wp2_with (at_builtin; refine wpList_append_own _ rfl _ _ 39 rfl w.heap.size 56 i0 z0 7 64 Tryz.underlying39 hi0 hz0 hz1 hz2 hz3 (by decide) _ m xs rfl (unhide HR3) ⟨w2.heap.size, 0, none⟩ 1 1 x.t.cells rfl rfl (news7 _ _) hone hmx hm24 (by simp; omega) ?_; intro v' w4 hown' hgrow hnil; clear hnil)
        change (w2.alloc _).grownBy w4 (Value.slice va m vc).ownBlock at hgrow
        go_wp2
        go_roundg (n - (i + 1))
        case measure => omega
        case rel =>
          have hN := unhide HN
          rw [hh] at hN
          simp only [if_true] at hN
          refine ⟨i + 1, m + 1, by push_cast; rfl, by omega, by rw [hN, List.length_append, ← unhide HM]; rfl, rfl, by rw [hN, flatT_snoc, unhide HXS]; exact hown', ?_⟩
          refine Chg.grown ((unhide HK2).alloc _) hgrow (fun k e => .inr ?_)
          rcases (unhide HR3).2 with ⟨h, _⟩ | ⟨g2, cap2, cs2, h, hg2, _⟩
          · simp only [Value.slice.injEq] at h
            rw [h.1] at e
            exact absurd e (by simp [Value.ownBlock])
          · simp only [Value.slice.injEq] at h
            rw [h.1] at e
            have e' : g2 = k := by simpa [Value.ownBlock] using e
            omega
    · obtain rfl : i = n := by omega
      obtain ⟨va, vc, rfl⟩ : ∃ va vc, u3 = .slice va m vc := by
        rcases hrow.2 with ⟨h, h0⟩ | ⟨g, cap, cs, h, _⟩
        · exact ⟨none, 0, by rw [h, h0]⟩
        · exact ⟨_, cap, h⟩
      go_wp2
      go_ret
      rw [← unhide HE, ← unhide HM, unhide HXS]
      exact ⟨_, _, rfl, hrow, kr⟩

end Go.Proofs.YtigaphnafnpfnaaGreatDoor

/- looks: with the trades -/
set_option linter.unusedVariables false
set_option linter.unusedSimpArgs false
namespace Go.Proofs.YtigaphnafnpfnaaGreatDoor
open Go.RowKit Go.Maps
attribute [local go_sem ↓] Go.wp_at_zero Go.wp_at_succ

theorem ownR_mono {w : World} {base base' e size n : Nat} {v : Value} {xs : List Value} (h : w.ownsRow base e size v n xs) (hb : base' ≤ base) : w.ownsRow base' e size v n xs := by
  refine ⟨h.1, ?_⟩
  rcases h.2 with h | ⟨g, cap, cs, e, h1, h2⟩
  · exact .inl h
  · exact .inr ⟨g, cap, cs, e, Nat.le_trans hb h1, h2⟩

theorem lk2_tr {V : Ven} {n j m : Nat} {w wr w2 : World} {ov kv tv : Value} {vs xs : List Value} (h : Lk2 V n j w wr ov kv vs) (kk : Chg Non wr w2) (hr : w2.ownsRow wr.heap.size 56 7 tv m xs) (t a b c : Value) :
    (((((w2.setCell ⟨w.heap.size + 1, 2, none⟩ t).setCell ⟨w.heap.size, 0, none⟩ a).setCell ⟨w.heap.size, 1, none⟩ b).setCell ⟨w.heap.size, 2, none⟩ c)).ownsRow w.heap.size 56 7 tv m xs := by
  have out2 := kk.blk h.out (fun x => x)
  have res2 := kk.blk h.res (fun x => x)
  have k5 : Chg (fun x => x = w.heap.size + 1 ∨ x = w.heap.size) w2 ((((w2.setCell ⟨w.heap.size + 1, 2, none⟩ t).setCell ⟨w.heap.size, 0, none⟩ a).setCell ⟨w.heap.size, 1, none⟩ b).setCell ⟨w.heap.size, 2, none⟩ c) :=
    ((((Chg.refl _ w2).setCell (p := ⟨w.heap.size + 1, 2, none⟩) (.inl (.inl rfl)) _).setCell (p := ⟨w.heap.size, 0, none⟩) (.inl (.inr rfl)) _).setCell (p := ⟨w.heap.size, 1, none⟩) (.inl (.inr rfl)) _).setCell (p := ⟨w.heap.size, 2, none⟩) (.inl (.inr rfl)) _
  have hr' : w2.ownsRow w.heap.size 56 7 tv m xs := ownR_mono hr h.chg.size
  refine own_kept hr' k5 (fun b hb => ?_)
  obtain ⟨cs, hc⟩ := own_blk hr' hb
  rintro (e | e)
  · rw [e] at hc; exact Blk.ne hc out2 (by decide) rfl
  · rw [e] at hc; exact Blk.ne hc res2 (by decide) rfl

set_option maxHeartbeats 4000000 in
set_option maxRecDepth 100000 in
theorem looks_all (bv bm bo P n : Nat) (V : Ven) (M acts : Int) (w : World) (R : Rep w bv bm bo V) (h : GV V n M) (hn : n ≤ 100) (hK : LenOK V 500000) (hP : Blk w P #[.pointer (some ⟨bv, 0, none⟩), .int .i64 n, .int .i64 acts] 37) :
    Calls Tryz.prog 21 #[.pointer (some ⟨P, 0, none⟩)] w fun e w' => ∃ oa oc ka kc ta tc vs, e = .returned (.tuple #[.agg #[.slice oa n oc, .slice ka 4 kc, .slice ta (held V.lg.tr).length tc], .bool true]) ∧ w'.ownsRow w.heap.size 56 7 (.slice ta (held V.lg.tr).length tc) (held V.lg.tr).length (flatT (held V.lg.tr)) ∧ w'.ownsRow w.heap.size 54 12 (.slice oa n oc) n (flatS (osOf V n)) ∧ w'.ownsRow w.heap.size 63 1 (.slice ka 4 kc) 4 vs ∧ (∀ k v, vs[k]? = some v → BkOK V w.heap.size w' k v) ∧ Chg Non w w' := by
  obtain ⟨tn, htn⟩ : ∃ tn, (held V.lg.tr).length = tn := ⟨_, rfl⟩
  obtain ⟨xt, hxt⟩ : ∃ xt, flatT (held V.lg.tr) = xt := ⟨_, rfl⟩
  have HTA : Hid (∀ W, Chg Non w W → Calls Tryz.prog 20 #[.pointer (some ⟨bv, 0, none⟩)] W fun e w' => ∃ a c, e = .returned (.slice a tn c) ∧ w'.ownsRow W.heap.size 56 7 (.slice a tn c) tn xt ∧ Chg Non W w') := fun W k => by
    have := trades_all bv bm bo V.lg V.lm W (R.kept0 k).log hK.2.2.1 (by have := hK.2.1; omega)
    rw [htn, hxt] at this
    exact this
  rw [htn, hxt]
  clear htn hxt
  have HSt := hide (fun (W : World) (k : Chg Non w W) (j : Nat) (hj : j < n) => ven_status bv bm bo n V M ((j : Int) + 1) W (R.kept0 k) h (by omega) (by omega) (by omega))
  have HBk := hide (fun (W : World) (k : Chg Non w W) (j : Nat) (hj : j < 4) => ven_book bv bm bo n j w.heap.size V M W (R.kept0 k) h hj k.size)
  have HOb := hide (fun (j : Nat) (hj : j < n) => h.ob hj)
  have lP := hP.lt
  have HPb := hide hP
  have HR := hide R
  have HG := hide h
  clear R h hP
  go_enter Tryz.func21, Tryz.ntmps21
  go_wp2
  go_loopg [5, 6, 7] n (fun k idv _ _ wr => ∃ (i : Nat) (ov : Value), idv = .int .i64 ((i : Int) + 1) ∧ i ≤ n ∧ k = n - i ∧ Lk V i w wr ov)
  case atStart =>
    refine ⟨0, .slice none 0 0, rfl, Nat.zero_le _, rfl, World.ownsRow_nil _ _ _ _, ?_, ?_, ?_⟩
    · exact Blk.new1 w _ _ _
    · exact (Blk.new w _ _).alloc _
    · exact ((Chg.refl Non w).alloc _).alloc _
  case round =>
    obtain ⟨i, ov, rfl, hi, hgk, lk⟩ := hrel
    have hPr := lk.chg.blk (unhide HPb) (fun x => x)
    have p1 : wr.cell? ⟨P, 1, none⟩ = some (.int .i64 (n : Int)) := hPr.cell 1
    have p0 : wr.cell? ⟨P, 0, none⟩ = some (.pointer (some ⟨bv, 0, none⟩)) := hPr.cell 0
    by_cases hlt : i < n
    · have hS := hide (unhide HSt wr lk.chg i hlt)
      have hO := unhide HOb i hlt
      obtain ⟨va, vc, rfl⟩ := row_form lk.row
      have e1 : decide ((i : Int) + 1 ≤ (n : Int)) = true := by simp; omega
      have HL := hide lk
      have HO := hide hO
      clear lk hO hPr
      go_wp2_with fail
      refine (unhide hS).mono ?_
      rintro e w2 ⟨b, hb, rfl, k2⟩
      have hbb : b = ob V i := by rw [unhide HO] at hb; exact (Option.some.inj hb).symm
      subst hbb
      have row2 := own_kept (unhide HL).row k2 (fun _ _ x => x)
      have out2 := k2.blk (unhide HL).out (fun x => x)
      have res2 := k2.blk (unhide HL).res (fun x => x)
      have kk2 := (unhide HL).chg.trans k2
      have lt1 : w.heap.size + 1 < w2.heap.size := out2.lt
      have o2 : w2.cell? ⟨w.heap.size + 1, 0, none⟩ = some (.slice va i vc) := out2.cell 0
      have hmx : i + 1 ≤ maxLen := by unfold maxLen; omega
      have hm24 : (i + 1) * 104 ≤ 140737488355328 := by omega
      obtain ⟨i0, z0, hi0, hz0, hz1, hz2, hz3⟩ := info45_parts
      have hone : ∀ u ∈ statL (V.om (ob V i)), u.oneCell' = true := by simp [statL, Value.oneCell']
      have hnews : ∀ j u, (statL (V.om (ob V i)))[j]? = some u → ((w2.alloc (.cells (statC (V.om (ob V i))) 54)).alloc (.cells (statC (V.om (ob V i))) 54)).cell? (Addr.add ⟨w2.heap.size + 1, 0, none⟩ j) = some u := by
        intro j u hj
        have := news12 (w2.alloc (.cells (statC (V.om (ob V i))) 54)) (V.om (ob V i)) j u hj
        have e : (w2.alloc (.cells (statC (V.om (ob V i))) 54)).heap.size = w2.heap.size + 1 := by simp
        rw [e] at this
        exact this
      have row3 := (row2.alloc (.cells (statC (V.om (ob V i))) 54)).alloc (.cells (statC (V.om (ob V i))) 54)
      have HR3 := hide row3
      have HNW := hide hnews
      have HO2 := hide out2
      have HRes2 := hide res2
      have HK2 := hide kk2
      have HRow2 := hide row2
      clear row2 out2 res2 kk2 row3 hnews k2 p1 p0 hS HL HO hb
      have hne5 : ∀ (W : World) (v : Value) (c : Array Value) (xs : List Value) (m : Nat), W.ownsRow w.heap.size 54 12 v m xs → Blk W (w.heap.size + 1) c 47 → v.ownBlock ≠ some (w.heap.size + 1) := fun W v c xs m hr hb e => own_ne hr e hb (by decide) rfl
      have HNE := hide hne5
      clear hne5
      simp only [statC] at HR3 HNW ⊢
      go_wp2_with (at_builtin; refine wpList_append_own _ rfl _ _ 44 rfl w.heap.size 54 i0 z0 12 104 Tryz.underlying44 hi0 hz0 hz1 hz2 hz3 (by decide) _ i _ rfl (unhide HR3) ⟨w2.heap.size + 1, 0, none⟩ 1 1 (statL (V.om (ob V i))) rfl rfl (unhide HNW) hone hmx hm24 (by simp; omega) ?_; intro v' w4 hown' hgrow hnil; clear hnil; obtain ⟨g', cap', rfl⟩ := own_pos hown' (by omega); change ((w2.alloc _).alloc _).grownBy w4 (Value.slice va i vc).ownBlock at hgrow; have b4 : Blk w4 (w.heap.size + 1) #[.slice va i vc, .slice none 0 0, .slice none 0 0] 47 := (hgrow.block (w.heap.size + 1) (by simp; omega) (fun e => unhide HNE _ _ _ _ _ (unhide HRow2) (unhide HO2) e.symm)).trans (((unhide HO2).alloc _).alloc _); have r4 : Blk w4 w.heap.size zero3 47 := (hgrow.block w.heap.size (by simp; omega) (fun e => own_ne (unhide HRow2) e.symm (unhide HRes2) (by decide) rfl)).trans (((unhide HRes2).alloc _).alloc _); have c4 := b4.cell 0; have f4 := b4.frozen 0; simp at c4; have HB4 := hide b4; have HR4 := hide r4; have HG4 := hide hgrow; have HOw := hide hown'; clear b4 r4 hgrow hown')
      go_wp2
      go_roundg (n - (i + 1))
      case measure => omega
      case rel =>
        refine ⟨i + 1, .slice (some ⟨g', 0, none⟩) (i + 1) cap', by push_cast; rfl, by omega, rfl, ⟨?_, ?_, ?_, ?_⟩⟩
        · rw [osOf_succ, flatS_snoc]
          refine own_kept (unhide HOw) ((Chg.refl (fun b => b = w.heap.size + 1) w4).setCell (p := ⟨w.heap.size + 1, 0, none⟩) (.inl rfl) _) (fun b hb e => ?_)
          rw [e] at hb
          exact unhide HNE _ _ _ _ _ (unhide HOw) (unhide HB4) hb
        · exact (unhide HB4).set 0 _
        · exact (unhide HR4).other (by simp) _
        · exact (((((unhide HK2).alloc _).alloc _).grown (unhide HG4) (fun k e => .inr (row_ge (unhide HRow2) e))).setCell (p := ⟨w.heap.size + 1, 0, none⟩) (.inr (by simp)) _)
    · obtain rfl : i = n := by omega
      obtain ⟨va, vc, rfl⟩ := row_form lk.row
      have e1 : decide ((i : Int) + 1 ≤ (i : Int)) = false := by simp; omega
      have HL := hide lk
      clear lk
      go_wp2
      go_loopg [8, 9, 10] 4 (fun kk iv _ _ wq => ∃ (j : Nat) (kv : Value) (vs : List Value), iv = .int .i64 (j : Int) ∧ j ≤ 4 ∧ kk = 4 - j ∧ Lk2 V i j w wq (.slice va i vc) kv vs)
      case atStart => exact ⟨0, .slice none 0 0, [], rfl, Nat.zero_le _, rfl, (unhide HL).row, World.ownsRow_nil _ _ _ _, by simp, (unhide HL).out, (unhide HL).res, (unhide HL).chg⟩
      case round =>
        obtain ⟨j, kv, vs, rfl, hj, hgk2, lk2⟩ := hrel
        obtain ⟨ka, kc, rfl⟩ := row_form lk2.brow
        have hPr2 := lk2.chg.blk (unhide HPb) (fun x => x)
        have p02 : wr.cell? ⟨P, 0, none⟩ = some (.pointer (some ⟨bv, 0, none⟩)) := hPr2.cell 0
        by_cases hj4 : j < 4
        · have hj0 : j = 0 ∨ j = 1 ∨ j = 2 ∨ j = 3 := by omega
          rcases hj0 with rfl | rfl | rfl | rfl
          · have HBc : Hid (∀ W, Chg Non wr W → Calls Tryz.prog 25 #[.pointer (some ⟨bv, 0, none⟩), .string ⟨#[65]⟩, .int .i64 0] W fun e w' => ∃ xa m xc, e = .returned (.tuple #[.slice xa m xc, .int .i64 0]) ∧ BkOK V w.heap.size w' 0 (.slice xa m xc) ∧ Chg Non W w') := fun W k => unhide HBk W (lk2.chg.trans k) 0 (by omega)
            have HL2 := hide lk2
            have lPr : P < wr.heap.size := hPr2.lt
            clear lk2 hPr2
            go_wp2
            go_region_with (go_at_call 25; refine (unhide HBc _ (by repeat (first | exact Chg.refl _ _ | refine Chg.drew ?_ | refine Chg.alloc ?_ _))).mono ?_; rintro e w2 ⟨xa, xm, xc, rfl, hbk, k2⟩)
            all_goals
              have kk : Chg Non wr w2 := Chg.trans (by repeat (first | exact Chg.refl _ _ | refine Chg.drew ?_ | refine Chg.alloc ?_ _)) k2
              have HLk := hide (lk2_next (unhide HL2) kk hbk rfl)
              have lt1 : w.heap.size + 1 < w2.heap.size := (kk.blk (unhide HL2).out (fun x => x)).lt
              have o1 : w2.cell? ⟨w.heap.size + 1, 1, none⟩ = some (.slice ka 0 kc) := (kk.blk (unhide HL2).out (fun x => x)).cell 1
              have HR3 := hide ((own_kept (unhide HL2).brow kk (fun _ _ x => x)).alloc (.cells #[.slice xa xm xc] 63))
              have hbs : w.heap.size ≤ w2.heap.size + 1 := by omega
              obtain ⟨i0, hi0, hz0, hz1, hz2⟩ := info73_parts
              have HB2 := hide (kk.blk (unhide HL2).out (fun x => x))
              have HBr2 := hide (own_kept (unhide HL2).brow kk (fun _ _ x => x))
              have HNW := hide (news1 w2 (.slice xa xm xc) 63)
              clear k2 kk hbk p02 HBc HL2
              go_wp2_with (at_builtin; refine wpList_append_own _ rfl _ _ 45 rfl w.heap.size 63 i0 (.slice none 0 0) 1 24 Tryz.underlying45 hi0 hz0 hz1 hz2 rfl (by decide) _ 0 vs rfl (unhide HR3) ⟨w2.heap.size, 0, none⟩ 1 1 [.slice xa xm xc] rfl rfl (unhide HNW) (by simp [Value.oneCell']) (by decide) (by decide) (by simp; omega) ?_; intro v' w4 hown' hgrow hnil; clear hnil; obtain ⟨g', cap', rfl⟩ := own_pos hown' (by omega); change (w2.alloc _).grownBy w4 (Value.slice ka 0 kc).ownBlock at hgrow; have b4 : Blk w4 (w.heap.size + 1) #[.slice va i vc, .slice ka 0 kc, .slice none 0 0] 47 := (hgrow.block (w.heap.size + 1) (by simp; omega) (fun e => own_ne (unhide HBr2) e.symm (unhide HB2) (by decide) rfl)).trans ((unhide HB2).alloc _); have c4 := b4.cell 1; have f4 := b4.frozen 1; simp at c4; have HG4 := hide hgrow; have HOw := hide hown'; clear b4 hgrow hown')
              go_wp2
              go_roundg (4 - (0 + 1))
              case measure => omega
              case rel => exact ⟨0 + 1, .slice (some ⟨g', 0, none⟩) (0 + 1) cap', _, rfl, by omega, rfl, unhide HLk _ _ _ _ (unhide HOw) (unhide HG4)⟩
          · have HBc : Hid (∀ W, Chg Non wr W → Calls Tryz.prog 25 #[.pointer (some ⟨bv, 0, none⟩), .string ⟨#[65]⟩, .int .i64 1] W fun e w' => ∃ xa m xc, e = .returned (.tuple #[.slice xa m xc, .int .i64 0]) ∧ BkOK V w.heap.size w' 1 (.slice xa m xc) ∧ Chg Non W w') := fun W k => unhide HBk W (lk2.chg.trans k) 1 (by omega)
            have HL2 := hide lk2
            have lPr : P < wr.heap.size := hPr2.lt
            clear lk2 hPr2
            go_wp2
            go_region_with (go_at_call 25; refine (unhide HBc _ (by repeat (first | exact Chg.refl _ _ | refine Chg.drew ?_ | refine Chg.alloc ?_ _))).mono ?_; rintro e w2 ⟨xa, xm, xc, rfl, hbk, k2⟩)
            all_goals
              have kk : Chg Non wr w2 := Chg.trans (by repeat (first | exact Chg.refl _ _ | refine Chg.drew ?_ | refine Chg.alloc ?_ _)) k2
              have HLk := hide (lk2_next (unhide HL2) kk hbk rfl)
              have lt1 : w.heap.size + 1 < w2.heap.size := (kk.blk (unhide HL2).out (fun x => x)).lt
              have o1 : w2.cell? ⟨w.heap.size + 1, 1, none⟩ = some (.slice ka 1 kc) := (kk.blk (unhide HL2).out (fun x => x)).cell 1
              have HR3 := hide ((own_kept (unhide HL2).brow kk (fun _ _ x => x)).alloc (.cells #[.slice xa xm xc] 63))
              have hbs : w.heap.size ≤ w2.heap.size + 1 := by omega
              obtain ⟨i0, hi0, hz0, hz1, hz2⟩ := info73_parts
              have HB2 := hide (kk.blk (unhide HL2).out (fun x => x))
              have HBr2 := hide (own_kept (unhide HL2).brow kk (fun _ _ x => x))
              have HNW := hide (news1 w2 (.slice xa xm xc) 63)
              clear k2 kk hbk p02 HBc HL2
              go_wp2_with (at_builtin; refine wpList_append_own _ rfl _ _ 45 rfl w.heap.size 63 i0 (.slice none 0 0) 1 24 Tryz.underlying45 hi0 hz0 hz1 hz2 rfl (by decide) _ 1 vs rfl (unhide HR3) ⟨w2.heap.size, 0, none⟩ 1 1 [.slice xa xm xc] rfl rfl (unhide HNW) (by simp [Value.oneCell']) (by decide) (by decide) (by simp; omega) ?_; intro v' w4 hown' hgrow hnil; clear hnil; obtain ⟨g', cap', rfl⟩ := own_pos hown' (by omega); change (w2.alloc _).grownBy w4 (Value.slice ka 1 kc).ownBlock at hgrow; have b4 : Blk w4 (w.heap.size + 1) #[.slice va i vc, .slice ka 1 kc, .slice none 0 0] 47 := (hgrow.block (w.heap.size + 1) (by simp; omega) (fun e => own_ne (unhide HBr2) e.symm (unhide HB2) (by decide) rfl)).trans ((unhide HB2).alloc _); have c4 := b4.cell 1; have f4 := b4.frozen 1; simp at c4; have HG4 := hide hgrow; have HOw := hide hown'; clear b4 hgrow hown')
              go_wp2
              go_roundg (4 - (1 + 1))
              case measure => omega
              case rel => exact ⟨1 + 1, .slice (some ⟨g', 0, none⟩) (1 + 1) cap', _, rfl, by omega, rfl, unhide HLk _ _ _ _ (unhide HOw) (unhide HG4)⟩
          · have HBc : Hid (∀ W, Chg Non wr W → Calls Tryz.prog 25 #[.pointer (some ⟨bv, 0, none⟩), .string ⟨#[206, 145, 206, 169]⟩, .int .i64 0] W fun e w' => ∃ xa m xc, e = .returned (.tuple #[.slice xa m xc, .int .i64 0]) ∧ BkOK V w.heap.size w' 2 (.slice xa m xc) ∧ Chg Non W w') := fun W k => unhide HBk W (lk2.chg.trans k) 2 (by omega)
            have HL2 := hide lk2
            have lPr : P < wr.heap.size := hPr2.lt
            clear lk2 hPr2
            go_wp2
            go_region_with (go_at_call 25; refine (unhide HBc _ (by repeat (first | exact Chg.refl _ _ | refine Chg.drew ?_ | refine Chg.alloc ?_ _))).mono ?_; rintro e w2 ⟨xa, xm, xc, rfl, hbk, k2⟩)
            all_goals
              have kk : Chg Non wr w2 := Chg.trans (by repeat (first | exact Chg.refl _ _ | refine Chg.drew ?_ | refine Chg.alloc ?_ _)) k2
              have HLk := hide (lk2_next (unhide HL2) kk hbk rfl)
              have lt1 : w.heap.size + 1 < w2.heap.size := (kk.blk (unhide HL2).out (fun x => x)).lt
              have o1 : w2.cell? ⟨w.heap.size + 1, 1, none⟩ = some (.slice ka 2 kc) := (kk.blk (unhide HL2).out (fun x => x)).cell 1
              have HR3 := hide ((own_kept (unhide HL2).brow kk (fun _ _ x => x)).alloc (.cells #[.slice xa xm xc] 63))
              have hbs : w.heap.size ≤ w2.heap.size + 1 := by omega
              obtain ⟨i0, hi0, hz0, hz1, hz2⟩ := info73_parts
              have HB2 := hide (kk.blk (unhide HL2).out (fun x => x))
              have HBr2 := hide (own_kept (unhide HL2).brow kk (fun _ _ x => x))
              have HNW := hide (news1 w2 (.slice xa xm xc) 63)
              clear k2 kk hbk p02 HBc HL2
              go_wp2_with (at_builtin; refine wpList_append_own _ rfl _ _ 45 rfl w.heap.size 63 i0 (.slice none 0 0) 1 24 Tryz.underlying45 hi0 hz0 hz1 hz2 rfl (by decide) _ 2 vs rfl (unhide HR3) ⟨w2.heap.size, 0, none⟩ 1 1 [.slice xa xm xc] rfl rfl (unhide HNW) (by simp [Value.oneCell']) (by decide) (by decide) (by simp; omega) ?_; intro v' w4 hown' hgrow hnil; clear hnil; obtain ⟨g', cap', rfl⟩ := own_pos hown' (by omega); change (w2.alloc _).grownBy w4 (Value.slice ka 2 kc).ownBlock at hgrow; have b4 : Blk w4 (w.heap.size + 1) #[.slice va i vc, .slice ka 2 kc, .slice none 0 0] 47 := (hgrow.block (w.heap.size + 1) (by simp; omega) (fun e => own_ne (unhide HBr2) e.symm (unhide HB2) (by decide) rfl)).trans ((unhide HB2).alloc _); have c4 := b4.cell 1; have f4 := b4.frozen 1; simp at c4; have HG4 := hide hgrow; have HOw := hide hown'; clear b4 hgrow hown')
              go_wp2
              go_roundg (4 - (2 + 1))
              case measure => omega
              case rel => exact ⟨2 + 1, .slice (some ⟨g', 0, none⟩) (2 + 1) cap', _, rfl, by omega, rfl, unhide HLk _ _ _ _ (unhide HOw) (unhide HG4)⟩
          · have HBc : Hid (∀ W, Chg Non wr W → Calls Tryz.prog 25 #[.pointer (some ⟨bv, 0, none⟩), .string ⟨#[206, 145, 206, 169]⟩, .int .i64 1] W fun e w' => ∃ xa m xc, e = .returned (.tuple #[.slice xa m xc, .int .i64 0]) ∧ BkOK V w.heap.size w' 3 (.slice xa m xc) ∧ Chg Non W w') := fun W k => unhide HBk W (lk2.chg.trans k) 3 (by omega)
            have HL2 := hide lk2
            have lPr : P < wr.heap.size := hPr2.lt
            clear lk2 hPr2
            go_wp2
            go_region_with (go_at_call 25; refine (unhide HBc _ (by repeat (first | exact Chg.refl _ _ | refine Chg.drew ?_ | refine Chg.alloc ?_ _))).mono ?_; rintro e w2 ⟨xa, xm, xc, rfl, hbk, k2⟩)
            all_goals
              have kk : Chg Non wr w2 := Chg.trans (by repeat (first | exact Chg.refl _ _ | refine Chg.drew ?_ | refine Chg.alloc ?_ _)) k2
              have HLk := hide (lk2_next (unhide HL2) kk hbk rfl)
              have lt1 : w.heap.size + 1 < w2.heap.size := (kk.blk (unhide HL2).out (fun x => x)).lt
              have o1 : w2.cell? ⟨w.heap.size + 1, 1, none⟩ = some (.slice ka 3 kc) := (kk.blk (unhide HL2).out (fun x => x)).cell 1
              have HR3 := hide ((own_kept (unhide HL2).brow kk (fun _ _ x => x)).alloc (.cells #[.slice xa xm xc] 63))
              have hbs : w.heap.size ≤ w2.heap.size + 1 := by omega
              obtain ⟨i0, hi0, hz0, hz1, hz2⟩ := info73_parts
              have HB2 := hide (kk.blk (unhide HL2).out (fun x => x))
              have HBr2 := hide (own_kept (unhide HL2).brow kk (fun _ _ x => x))
              have HNW := hide (news1 w2 (.slice xa xm xc) 63)
              clear k2 kk hbk p02 HBc HL2
              go_wp2_with (at_builtin; refine wpList_append_own _ rfl _ _ 45 rfl w.heap.size 63 i0 (.slice none 0 0) 1 24 Tryz.underlying45 hi0 hz0 hz1 hz2 rfl (by decide) _ 3 vs rfl (unhide HR3) ⟨w2.heap.size, 0, none⟩ 1 1 [.slice xa xm xc] rfl rfl (unhide HNW) (by simp [Value.oneCell']) (by decide) (by decide) (by simp; omega) ?_; intro v' w4 hown' hgrow hnil; clear hnil; obtain ⟨g', cap', rfl⟩ := own_pos hown' (by omega); change (w2.alloc _).grownBy w4 (Value.slice ka 3 kc).ownBlock at hgrow; have b4 : Blk w4 (w.heap.size + 1) #[.slice va i vc, .slice ka 3 kc, .slice none 0 0] 47 := (hgrow.block (w.heap.size + 1) (by simp; omega) (fun e => own_ne (unhide HBr2) e.symm (unhide HB2) (by decide) rfl)).trans ((unhide HB2).alloc _); have c4 := b4.cell 1; have f4 := b4.frozen 1; simp at c4; have HG4 := hide hgrow; have HOw := hide hown'; clear b4 hgrow hown')
              go_wp2
              go_roundg (4 - (3 + 1))
              case measure => omega
              case rel => exact ⟨3 + 1, .slice (some ⟨g', 0, none⟩) (3 + 1) cap', _, rfl, by omega, rfl, unhide HLk _ _ _ _ (unhide HOw) (unhide HG4)⟩
        · obtain rfl : j = 4 := by omega
          have HT := hide (fun (W : World) (k : Chg Non wr W) => unhide HTA W (lk2.chg.trans k))
          have lPr : P < wr.heap.size := hPr2.lt
          have HL2 := hide lk2
          clear lk2 hPr2
          go_wp2_with fail
          refine (unhide HT wr (Chg.refl Non wr)).mono ?_
          rintro e w2 ⟨ta, tc, rfl, hrt, k2⟩
          have HRT := hide hrt
          clear hrt
          have out2 := k2.blk (unhide HL2).out (fun x => x)
          have res2 := k2.blk (unhide HL2).res (fun x => x)
          have a0 : w2.cell? ⟨w.heap.size + 1, 0, none⟩ = some (.slice va i vc) := out2.cell 0
          have a1 : w2.cell? ⟨w.heap.size + 1, 1, none⟩ = some (.slice ka 4 kc) := out2.cell 1
          have a2 : w2.cell? ⟨w.heap.size + 1, 2, none⟩ = some (.slice none 0 0) := out2.cell 2
          have g2 := out2.frozen 2
          have b0 : w2.cell? ⟨w.heap.size, 0, none⟩ = some (.slice none 0 0) := res2.cell 0
          have b1 : w2.cell? ⟨w.heap.size, 1, none⟩ = some (.slice none 0 0) := res2.cell 1
          have b2 : w2.cell? ⟨w.heap.size, 2, none⟩ = some (.slice none 0 0) := res2.cell 2
          have f0 := res2.frozen 0
          have f1 := res2.frozen 1
          have f2 := res2.frozen 2
          have HO2 := hide out2
          have HR2 := hide res2
          have HK2 := hide k2
          clear out2 res2 k2 p02
          go_wp2
          refine bodyPost_ret (res18 _ w.heap.size _ (.slice va i vc) (.slice ka 4 kc) (.slice ta tn tc) rfl rfl ?_) rfl ⟨va, vc, ka, kc, ta, tc, vs, rfl, ?_, ?_⟩
          · exact ((((unhide HR2).other (a := ⟨w.heap.size + 1, 2, none⟩) (by simp) _).set 0 _).set 1 _).set 2 _
          · exact lk2_tr (unhide HL2) (unhide HK2) (unhide HRT) _ _ _ _
          · exact lk2_end (unhide HL2) (unhide HK2) _ _ _ _ (.bool true)

end Go.Proofs.YtigaphnafnpfnaaGreatDoor

