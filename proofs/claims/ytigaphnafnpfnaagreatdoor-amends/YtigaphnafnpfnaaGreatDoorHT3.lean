import Derived.Test.YtigaphnafnpfnaaGreatDoorHT2
import Derived.Test.YtigaphnafnpfnaaGreatDoorHP5
import Derived.Test.YtigaphnafnpfnaaGreatDoorHR1
import Derived.Lib.SliceRun
import Derived.Test.YtigaphnafnpfnaaGreatDoorHP7
import Derived.BigQuiet
/- Tape -/
set_option linter.unusedVariables false
set_option linter.unusedSimpArgs false
namespace Go.Proofs.YtigaphnafnpfnaaGreatDoor
open Go.RowKit Go.Maps
attribute [local go_sem ↓] Go.wp_at_zero Go.wp_at_succ

set_option maxHeartbeats 2000000 in
set_option maxRecDepth 100000 in
theorem clone_recs (g off m c : Nat) (news : List Value) (w : World) (hm : 0 < m) (hm2 : m ≤ 1000000) (hl : news.length = m * 9) (hnews : ∀ j u, news[j]? = some u → w.cell? (Addr.add ⟨g, off, none⟩ j) = some u) (hone : ∀ u ∈ news, u.oneCell' = true) :
    Calls Tryz.prog 42 #[.slice (some ⟨g, off, none⟩) m c] w fun e w' => ∃ g' cap', e = .returned (.slice (some ⟨g', 0, none⟩) m cap') ∧ w'.ownsRow w.heap.size 62 9 (.slice (some ⟨g', 0, none⟩) m cap') m news ∧ Chg Non w w' := by
  have qT : ∀ (w : World) (a : Option Addr) (n c n' c' : Nat), (binOp .eql 34 (.slice a n c) (.slice none n' c')).run Tryz.prog w = .ok (.bool a.isNone) w := fun w a n c n' c' => Lib.run_eql_slice_nil w _ _ a n c n' c' Tryz.underlying34
  obtain ⟨i0, z0, hi0, hz0, hz1, hz2, hz3⟩ := info96_parts
  have hmx : 0 + m ≤ maxLen := by unfold maxLen; omega
  have hm24 : (0 + m) * 80 ≤ 140737488355328 := by omega
  have HR := hide (World.ownsRow_made (base := w.heap.size) (e := 62) (size := 9) w #[] 0 (Nat.le_refl _) (by decide) rfl)
  have HN : Hid (∀ j u, news[j]? = some u → (w.alloc (.cells #[] 62)).cell? (Addr.add ⟨g, off, none⟩ j) = some u) := fun j u hj => by
    exact ((Chg.refl Non w).alloc _).cell (hnews j u hj) (fun x => x)
  clear hnews
  go_enter Tryz.func42, Tryz.ntmps42
  go_wp2_with (at_builtin; refine wpList_append_own _ rfl _ _ 34 rfl w.heap.size 62 i0 z0 9 80 Tryz.underlying34 hi0 hz0 hz1 hz2 hz3 (by decide) _ 0 [] rfl (unhide HR) ⟨g, off, none⟩ m c news rfl hl (unhide HN) hone hmx hm24 (by simp) ?_; intro v' w4 hown' hgrow hnil; clear hnil)
  rw [Nat.zero_add, List.nil_append] at hown'
  change (w.alloc _).grownBy w4 (Value.slice (some ⟨w.heap.size, 0, none⟩) 0 0).ownBlock at hgrow
  obtain ⟨g', cap', rfl⟩ := own_pos hown' hm
  go_wp2
  go_ret
  refine ⟨g', cap', rfl, hown', ?_⟩
  exact ((Chg.refl Non w).alloc _).grown hgrow (fun k e => .inr (by simp only [Value.ownBlock, Option.some.injEq] at e; omega))

theorem flatR_at : ∀ (rs : List Rc) (i : Nat) (r : Rc) (j : Nat) (u : Value), rs[i]? = some r → r.cells[j]? = some u → (flatR rs)[i * 9 + j]? = some u := by
  intro rs
  induction rs with
  | nil => intro i r j u h; simp at h
  | cons x rs ih =>
    intro i r j u h hu
    have hl : x.cells.length = 9 := rfl
    have hj : j < 9 := by
      have := (List.getElem?_eq_some_iff.1 hu).1
      simpa [Rc.cells] using this
    show (x.cells ++ flatR rs)[i * 9 + j]? = some u
    cases i with
    | zero =>
      simp only [List.getElem?_cons_zero, Option.some.injEq] at h
      subst h
      rw [List.getElem?_append_left (by rw [hl]; omega)]
      simpa using hu
    | succ i =>
      simp only [List.getElem?_cons_succ] at h
      rw [List.getElem?_append_right (by rw [hl]; omega), hl]
      have e : (i + 1) * 9 + j - 9 = i * 9 + j := by omega
      rw [e]
      exact ih i r j u h hu

theorem flatR_one (rs : List Rc) : ∀ u ∈ flatR rs, u.oneCell' = true := by
  intro u hu
  obtain ⟨r, _, h⟩ := List.mem_flatMap.1 hu
  simp only [Rc.cells, List.mem_cons, List.not_mem_nil, or_false] at h
  rcases h with h | h | h | h | h | h | h | h | h <;> rw [h] <;> rfl

theorem flatR_drop : ∀ (p : Nat) (rs : List Rc), flatR (rs.drop p) = (flatR rs).drop (p * 9)
  | 0, rs => by simp
  | p + 1, [] => by simp [flatR]
  | p + 1, r :: rs => by
    rw [List.drop_succ_cons, flatR_drop p rs]
    show _ = (r.cells ++ flatR rs).drop _
    have e : (p + 1) * 9 = r.cells.length + p * 9 := by
      have : r.cells.length = 9 := rfl
      omega
    rw [e, ← List.drop_drop, List.drop_left]

/-- a cell of a row, set to what it is -/
theorem own_same {w : World} {base e size n g cap : Nat} {xs : List Value} (h : w.ownsRow base e size (.slice (some ⟨g, 0, none⟩) n cap) n xs) {j : Nat} {u : Value} (hj : xs[j]? = some u) : (w.setCell ⟨g, j, none⟩ u).ownsRow base e size (.slice (some ⟨g, 0, none⟩) n cap) n xs := by
  have := (h.stored j u).1
  have e : xs.set j u = xs := by
    obtain ⟨hl, e⟩ := List.getElem?_eq_some_iff.1 hj
    rw [← e]; exact List.set_getElem_self hl
  rw [e] at this
  exact this

set_option maxHeartbeats 2000000 in
set_option maxRecDepth 100000 in
theorem tape_any (bv bm bo p : Nat) (fr : Int) (G : Lg) (lm : Lm) (w : World) (hL : IsLog w bv bm bo G lm) (hty : TyOK G) (hlen : G.tp.length ≤ 1000000) (hp : (fr = 0 ∧ p = 0) ∨ fr = (p : Int) + 1) (hp2 : p ≤ 1000000) :
    Calls Tryz.prog 17 #[.pointer (some ⟨bv, 0, none⟩), .int .i64 fr] w fun e w' => ∃ a c, e = .returned (.slice a (G.tp.drop p).length c) ∧ w'.ownsRow w.heap.size 62 9 (.slice a (G.tp.drop p).length c) (G.tp.drop p).length (flatR (G.tp.drop p)) ∧ Chg Non w w' := by
  obtain ⟨n, hn⟩ : ∃ n, G.tp.length = n := ⟨_, rfl⟩
  obtain ⟨pa, pc, hpv⟩ := row_form hL.log.prow
  rw [hn] at hpv hlen
  have v3 : w.cell? ⟨bv, 3, none⟩ = some (.slice pa n pc) := by rw [← hpv]; exact hL.ven.cell 3
  have hmax : max fr 1 = (p : Int) + 1 := by rcases hp with ⟨rfl, rfl⟩ | rfl <;> omega
  by_cases hnp : n ≤ p
  · have e0 : G.tp.drop p = [] := List.drop_eq_nil_of_le (by omega)
    rw [e0]
    have hgt : decide ((n : Int) < (p : Int) + 1) = true := by simp; omega
    clear hL hpv
    go_enter Tryz.func17, Tryz.ntmps17
    go_wp2
    go_ret
    exact ⟨none, 0, rfl, World.ownsRow_nil _ _ _ _, Chg.refl _ _⟩
  · obtain ⟨m, hm⟩ : ∃ m, (G.tp.drop p).length = m := ⟨_, rfl⟩
    have hmn : n = p + m := by rw [List.length_drop] at hm; omega
    have hm0 : 0 < m := by omega
    obtain ⟨g, rfl⟩ : ∃ g, pa = some ⟨g, 0, none⟩ := by
      rcases hL.log.prow.2 with ⟨h, h0⟩ | ⟨g, cap, cs, h, _⟩
      · omega
      · rw [hpv] at h; injection h with h1 _ _; exact ⟨g, h1⟩
    have hcell : ∀ j u, (flatR (G.tp.drop p))[j]? = some u → w.cell? (Addr.add ⟨g, p * 9, none⟩ j) = some u := fun j u hj => by
      rw [flatR_drop, List.getElem?_drop] at hj
      have h := hL.log.prow.cells (g := g) (by rw [hpv]; rfl) _ u hj
      have e1 : Addr.add ⟨g, 0, none⟩ (p * 9 + j) = Addr.add ⟨g, p * 9, none⟩ j := by by_cases h1 : j = 0 <;> by_cases h2 : p = 0 <;> simp [Addr.add, h1, h2] <;> omega
      rw [e1] at h
      exact h
    have hpc : n ≤ pc := by
      rcases hL.log.prow.2 with ⟨h, h0⟩ | ⟨g, cap, cs, h, _, _, h2, _⟩
      · omega
      · rw [hpv] at h; injection h with _ _ h3; rw [h3]; omega
    have HC := hide (fun (c : Nat) => clone_recs g (p * 9) m c (flatR (G.tp.drop p)) w hm0 (by omega) (by rw [flatR_length, hm]) hcell (flatR_one _))
    have HX : Hid (∀ i, i < m → ∃ r : Rc, r.t.sym.size ≤ 100000 ∧ ∀ j u, r.cells[j]? = some u → (flatR (G.tp.drop p))[i * 9 + j]? = some u) := fun i hi => by
      have hi' : i < (G.tp.drop p).length := by omega
      exact ⟨(G.tp.drop p)[i], hty _ (List.mem_of_mem_drop (List.getElem_mem hi')), fun j u hu => flatR_at _ i _ j u (List.getElem?_eq_getElem hi') hu⟩
    obtain ⟨xs, hxs⟩ : ∃ xs, flatR (G.tp.drop p) = xs := ⟨_, rfl⟩
    rw [hm, hxs]
    rw [hxs] at HC HX
    have hgt : decide ((n : Int) < (p : Int) + 1) = false := by simp; omega
    clear hL hpv hcell hxs hm hty hn hp
    go_enter Tryz.func17, Tryz.ntmps17
    go_wp2_with fail
    refine (unhide HC _).mono ?_
    rintro e w2 ⟨g', cap', rfl, hrow, k2⟩
    go_wp2
    go_loopg [6, 7, 27] m (fun k _ _ iv wr => ∃ i : Nat, iv = .int .i64 (i : Int) ∧ i ≤ m ∧ k = m - i ∧ wr.ownsRow w.heap.size 62 9 (.slice (some ⟨g', 0, none⟩) m cap') m xs ∧ Chg Non w wr)
    case atStart => exact ⟨0, rfl, Nat.zero_le _, rfl, hrow, k2⟩
    case round =>
      clear hrow k2
      obtain ⟨i, rfl, hi, hgk, hrow, kr⟩ := hrel
      by_cases hlt : i < m
      · obtain ⟨r, hsz, hx⟩ := unhide HX i hlt
        have hc : ∀ j u, r.cells[j]? = some u → wr.cell? ⟨g', i * 9 + j, none⟩ = some u := fun j u hu => by
          have h9 : j < 9 := by have := (List.getElem?_eq_some_iff.1 hu).1; simpa [Rc.cells] using this
          rw [hrow.cellAt _ (by omega)]; exact hx j u hu
        have c0 : wr.cell? ⟨g', i * 9, none⟩ = some (.int .i64 r.num) := hc 0 _ rfl
        have c1 : wr.cell? ⟨g', i * 9 + 1, none⟩ = some (.int .i64 r.kind) := hc 1 _ rfl
        have c2 : wr.cell? ⟨g', i * 9 + 2, none⟩ = some (.int .i64 r.t.num) := hc 2 _ rfl
        have c3 : wr.cell? ⟨g', i * 9 + 3, none⟩ = some (.string r.t.sym) := hc 3 _ rfl
        have c4 : wr.cell? ⟨g', i * 9 + 4, none⟩ = some (.int .i64 r.t.price) := hc 4 _ rfl
        have c5 : wr.cell? ⟨g', i * 9 + 5, none⟩ = some (.int .i64 r.t.qty) := hc 5 _ rfl
        have c6 : wr.cell? ⟨g', i * 9 + 6, none⟩ = some (.int .i64 r.t.buy) := hc 6 _ rfl
        have c7 : wr.cell? ⟨g', i * 9 + 7, none⟩ = some (.int .i64 r.t.sell) := hc 7 _ rfl
        have c8 : wr.cell? ⟨g', i * 9 + 8, none⟩ = some (.int .i64 r.t.day) := hc 8 _ rfl
        have HH : Hid (∀ W, Calls Tryz.prog 43 #[.agg #[.int .i64 r.t.num, .string r.t.sym, .int .i64 r.t.price, .int .i64 r.t.qty, .int .i64 r.t.buy, .int .i64 r.t.sell, .int .i64 r.t.day]] W fun e w' => e = .returned r.t.val ∧ Chg Non W w') := fun W => handedOut_any r.t W hsz
        have HRow := hide hrow
        have HK := hide kr
        have HXI := hide hx
        clear hrow kr hc hx
        go_wp2_with fail
        refine (unhide HH _).mono ?_
        rintro e w3 ⟨rfl, k3⟩
        have kr3 : Chg Non wr w3 := Chg.trans (by repeat (first | exact Chg.refl _ _ | refine Chg.setCell ?_ _ _ | refine Chg.alloc ?_ _)) k3
        have row3 := own_kept (unhide HRow) kr3 (fun _ _ x => x)
        have hc3 : ∀ j u, r.cells[j]? = some u → w3.cell? ⟨g', i * 9 + j, none⟩ = some u := fun j u hu => by
          have h9 : j < 9 := by have := (List.getElem?_eq_some_iff.1 hu).1; simpa [Rc.cells] using this
          rw [row3.cellAt _ (by omega)]; exact unhide HXI j u hu
        have d2 : w3.cell? ⟨g', i * 9 + 2, none⟩ = some (.int .i64 r.t.num) := hc3 2 _ rfl
        have d3 : w3.cell? ⟨g', i * 9 + 3, none⟩ = some (.string r.t.sym) := hc3 3 _ rfl
        have d4 : w3.cell? ⟨g', i * 9 + 4, none⟩ = some (.int .i64 r.t.price) := hc3 4 _ rfl
        have d5 : w3.cell? ⟨g', i * 9 + 5, none⟩ = some (.int .i64 r.t.qty) := hc3 5 _ rfl
        have d6 : w3.cell? ⟨g', i * 9 + 6, none⟩ = some (.int .i64 r.t.buy) := hc3 6 _ rfl
        have d7 : w3.cell? ⟨g', i * 9 + 7, none⟩ = some (.int .i64 r.t.sell) := hc3 7 _ rfl
        have d8 : w3.cell? ⟨g', i * 9 + 8, none⟩ = some (.int .i64 r.t.day) := hc3 8 _ rfl
        have f2 := row3.frozenAt (i * 9 + 2)
        have f3 := row3.frozenAt (i * 9 + 3)
        have f4 := row3.frozenAt (i * 9 + 4)
        have f5 := row3.frozenAt (i * 9 + 5)
        have f6 := row3.frozenAt (i * 9 + 6)
        have f7 := row3.frozenAt (i * 9 + 7)
        have f8 := row3.frozenAt (i * 9 + 8)
        have hgb := row_ge row3 (k := g') rfl
        have HR3 := hide row3
        have HK3 := hide ((unhide HK).trans kr3)
        clear row3 hc3 k3 kr3 c0 c1 c2 c3 c4 c5 c6 c7 c8
        simp only [Tr.val]
        go_wp2
        go_roundg (m - (i + 1))
        case measure => omega
        case rel =>
          have hx := unhide HXI
          refine ⟨i + 1, by push_cast; rfl, by omega, rfl, ?_, ?_⟩
          · exact own_same (own_same (own_same (own_same (own_same (own_same (own_same (unhide HR3) (hx 2 _ rfl)) (hx 3 _ rfl)) (hx 4 _ rfl)) (hx 5 _ rfl)) (hx 6 _ rfl)) (hx 7 _ rfl)) (hx 8 _ rfl)
          · exact (((((((unhide HK3).setCell (p := ⟨g', i * 9 + 2, none⟩) (.inr hgb) _).setCell (p := ⟨g', i * 9 + 3, none⟩) (.inr hgb) _).setCell (p := ⟨g', i * 9 + 4, none⟩) (.inr hgb) _).setCell (p := ⟨g', i * 9 + 5, none⟩) (.inr hgb) _).setCell (p := ⟨g', i * 9 + 6, none⟩) (.inr hgb) _).setCell (p := ⟨g', i * 9 + 7, none⟩) (.inr hgb) _).setCell (p := ⟨g', i * 9 + 8, none⟩) (.inr hgb) _
      · obtain rfl : i = m := by omega
        go_wp2
        go_ret
        exact ⟨_, _, rfl, hrow, kr⟩

end Go.Proofs.YtigaphnafnpfnaaGreatDoor

/- sameTrades -/
set_option linter.unusedVariables false
set_option linter.unusedSimpArgs false
namespace Go.Proofs.YtigaphnafnpfnaaGreatDoor
open Go.RowKit Go.Maps
attribute [local go_sem ↓] Go.wp_at_zero Go.wp_at_succ

theorem flatT_at : ∀ (ts : List Tr) (i : Nat) (t : Tr) (j : Nat) (u : Value), ts[i]? = some t → t.cells[j]? = some u → (flatT ts)[i * 7 + j]? = some u := by
  intro ts
  induction ts with
  | nil => intro i t j u h; simp at h
  | cons x ts ih =>
    intro i t j u h hu
    have hl : x.cells.length = 7 := rfl
    have hj : j < 7 := by
      have := (List.getElem?_eq_some_iff.1 hu).1
      simpa [Tr.cells] using this
    show (x.cells ++ flatT ts)[i * 7 + j]? = some u
    cases i with
    | zero =>
      simp only [List.getElem?_cons_zero, Option.some.injEq] at h
      subst h
      rw [List.getElem?_append_left (by rw [hl]; omega)]
      simpa using hu
    | succ i =>
      simp only [List.getElem?_cons_succ] at h
      rw [List.getElem?_append_right (by rw [hl]; omega), hl]
      have e : (i + 1) * 7 + j - 7 = i * 7 + j := by omega
      rw [e]
      exact ih i t j u h hu

/-- trades as they lie in a row -/
def TRow (w : World) (base : Nat) (a : Option Addr) (c : Nat) (ts : List Tr) : Prop := w.ownsRow base 56 7 (.slice a ts.length c) ts.length (flatT ts)

theorem TRow.at {w : World} {base c : Nat} {a : Option Addr} {ts : List Tr} (h : TRow w base a c ts) {i : Nat} {t : Tr} (ht : ts[i]? = some t) : ∃ g, a = some ⟨g, 0, none⟩ ∧ ∀ j u, t.cells[j]? = some u → w.cell? ⟨g, i * 7 + j, none⟩ = some u := by
  have hi := (List.getElem?_eq_some_iff.1 ht).1
  obtain ⟨g, e, hc⟩ := own_cell h (by omega)
  exact ⟨g, e, fun j u hu => hc _ _ (flatT_at ts i t j u ht hu)⟩

set_option maxHeartbeats 2000000 in
set_option maxRecDepth 100000 in
theorem same_any (b1 b2 c1 c2 : Nat) (a1 a2 : Option Addr) (ts : List Tr) (w : World) (h1 : TRow w b1 a1 c1 ts) (h2 : TRow w b2 a2 c2 ts) (hlen : ts.length ≤ 1000000) :
    Calls Tryz.prog 19 #[.slice a1 ts.length c1, .slice a2 ts.length c2] w fun e w' => e = .returned (.bool true) ∧ Chg Non w w' := by
  obtain ⟨n, hn⟩ : ∃ n, ts.length = n := ⟨_, rfl⟩
  have HX : Hid (∀ i, i < n → ∃ (t : Tr) (g1 g2 : Nat), a1 = some ⟨g1, 0, none⟩ ∧ a2 = some ⟨g2, 0, none⟩ ∧ (∀ (j : Nat) (u : Value), t.cells[j]? = some u → w.cell? ⟨g1, i * 7 + j, none⟩ = some u) ∧ ∀ (j : Nat) (u : Value), t.cells[j]? = some u → w.cell? ⟨g2, i * 7 + j, none⟩ = some u) := fun i hi => by
    have hi' : i < ts.length := by omega
    obtain ⟨g1, e1, x1⟩ := h1.at (List.getElem?_eq_getElem hi')
    obtain ⟨g2, e2, x2⟩ := h2.at (List.getElem?_eq_getElem hi')
    exact ⟨_, g1, g2, e1, e2, x1, x2⟩
  rw [hn] at hlen ⊢
  clear h1 h2 hn
  go_enter Tryz.func19, Tryz.ntmps19
  go_wp2
  go_loopg [5] n (fun k iv wr => ∃ i : Nat, iv = .int .i64 (i : Int) ∧ i ≤ n ∧ k = n - i ∧ Chg Non w wr)
  case atStart => exact ⟨0, rfl, Nat.zero_le _, rfl, Chg.refl _ _⟩
  case round =>
    obtain ⟨i, rfl, hi, hgk, kr⟩ := hrel
    by_cases hlt : i < n
    · obtain ⟨t, g1, g2, rfl, rfl, x1, x2⟩ := unhide HX i hlt
      have p0 : wr.cell? ⟨g1, i * 7, none⟩ = some (.int .i64 t.num) := kr.cell (x1 0 _ rfl) (fun x => x)
      have p1 : wr.cell? ⟨g1, i * 7 + 1, none⟩ = some (.string t.sym) := kr.cell (x1 1 _ rfl) (fun x => x)
      have p2 : wr.cell? ⟨g1, i * 7 + 2, none⟩ = some (.int .i64 t.price) := kr.cell (x1 2 _ rfl) (fun x => x)
      have p3 : wr.cell? ⟨g1, i * 7 + 3, none⟩ = some (.int .i64 t.qty) := kr.cell (x1 3 _ rfl) (fun x => x)
      have p4 : wr.cell? ⟨g1, i * 7 + 4, none⟩ = some (.int .i64 t.buy) := kr.cell (x1 4 _ rfl) (fun x => x)
      have p5 : wr.cell? ⟨g1, i * 7 + 5, none⟩ = some (.int .i64 t.sell) := kr.cell (x1 5 _ rfl) (fun x => x)
      have p6 : wr.cell? ⟨g1, i * 7 + 6, none⟩ = some (.int .i64 t.day) := kr.cell (x1 6 _ rfl) (fun x => x)
      have q0 : wr.cell? ⟨g2, i * 7, none⟩ = some (.int .i64 t.num) := kr.cell (x2 0 _ rfl) (fun x => x)
      have q1 : wr.cell? ⟨g2, i * 7 + 1, none⟩ = some (.string t.sym) := kr.cell (x2 1 _ rfl) (fun x => x)
      have q2 : wr.cell? ⟨g2, i * 7 + 2, none⟩ = some (.int .i64 t.price) := kr.cell (x2 2 _ rfl) (fun x => x)
      have q3 : wr.cell? ⟨g2, i * 7 + 3, none⟩ = some (.int .i64 t.qty) := kr.cell (x2 3 _ rfl) (fun x => x)
      have q4 : wr.cell? ⟨g2, i * 7 + 4, none⟩ = some (.int .i64 t.buy) := kr.cell (x2 4 _ rfl) (fun x => x)
      have q5 : wr.cell? ⟨g2, i * 7 + 5, none⟩ = some (.int .i64 t.sell) := kr.cell (x2 5 _ rfl) (fun x => x)
      have q6 : wr.cell? ⟨g2, i * 7 + 6, none⟩ = some (.int .i64 t.day) := kr.cell (x2 6 _ rfl) (fun x => x)
      have HK := hide kr
      clear kr x1 x2
      go_wp2
      go_quiet (fail)
      go_wp2
      go_roundg (n - (i + 1))
      case measure => omega
      case rel => exact ⟨i + 1, by push_cast; rfl, by omega, rfl, (unhide HK).drewN _⟩
    · obtain rfl : i = n := by omega
      go_wp2
      go_ret
      exact ⟨rfl, kr⟩

end Go.Proofs.YtigaphnafnpfnaaGreatDoor

/- folded: without walks -/
set_option linter.unusedVariables false
set_option linter.unusedSimpArgs false
namespace Go.Proofs.YtigaphnafnpfnaaGreatDoor
open Go.RowKit Go.Maps

/-- the steps of a fold -/
theorem FoldsTo.steps {rs : List Rc} {ts : List Tr} (h : FoldsTo rs ts) : ∃ F : Nat → List Tr, F 0 = [] ∧ F rs.length = ts ∧ ∀ (i : Nat) (r : Rc), rs[i]? = some r → Folds (F i) r (F (i + 1)) ∧ r.num = (i : Int) + 1 := by
  induction h with
  | nil => exact ⟨fun _ => [], rfl, rfl, fun i r h => by simp at h⟩
  | @snoc rs r a b h hr hn ih =>
    obtain ⟨F, F0, Fn, FS⟩ := ih
    refine ⟨fun i => if i ≤ rs.length then F i else b, ?_, ?_, fun i x hx => ?_⟩
    · show (if 0 ≤ rs.length then F 0 else b) = []
      rw [if_pos (Nat.zero_le _)]; exact F0
    · show (if (rs ++ [r]).length ≤ rs.length then _ else b) = b
      rw [if_neg (by rw [List.length_append]; simp)]
    · show Folds (if i ≤ rs.length then F i else b) x (if i + 1 ≤ rs.length then F (i + 1) else b) ∧ _
      by_cases hi : i < rs.length
      · rw [List.getElem?_append_left hi] at hx
        rw [if_pos (by omega), if_pos (by omega)]
        exact FS i x hx
      · have hi2 := (List.getElem?_eq_some_iff.1 hx).1
        rw [List.length_append, List.length_singleton] at hi2
        obtain rfl : i = rs.length := by omega
        rw [List.getElem?_append_right (Nat.le_refl _), Nat.sub_self] at hx
        simp only [List.getElem?_cons_zero, Option.some.injEq] at hx
        subst hx
        rw [if_pos (Nat.le_refl _), if_neg (by omega), Fn]
        exact ⟨hr, hn⟩

theorem Folds.len {a b : List Tr} {r : Rc} (h : Folds a r b) : b.length ≤ a.length + 1 := by
  cases h with
  | close hk => omega
  | print hk h1 h2 => simp only [List.length_append, List.length_singleton]; omega
  | bust hk h1 h2 => simp only [List.length_append, List.length_singleton]; omega
  | correct hk ht h1 h2 => simp only [List.length_append, List.length_singleton]; omega

theorem steps_len {rs : List Rc} {F : Nat → List Tr} (F0 : F 0 = []) (FS : ∀ (i : Nat) (r : Rc), rs[i]? = some r → Folds (F i) r (F (i + 1)) ∧ r.num = (i : Int) + 1) : ∀ i, i ≤ rs.length → (F i).length ≤ i := by
  intro i
  induction i with
  | zero => intro _; rw [F0]; exact Nat.le_refl _
  | succ i ih =>
    intro hi
    have h1 := ih (by omega)
    have h2 := (FS i _ (List.getElem?_eq_getElem (by omega))).1.len
    omega

/-- where a number stands, or would stand, among trades by rising numbers -/
structure Stands (L : List Tr) (N : Int) (na : Nat) : Prop where
  le : na ≤ L.length
  low : ∀ (j : Nat) (t : Tr), j < na → L[j]? = some t → t.num < N
  top : ∀ t : Tr, L[na]? = some t → N ≤ t.num

/-- what a record of another kind than Close does -/
inductive Does (L : List Tr) (r : Rc) (na : Nat) : List Tr → Prop
  | print (hk : r.kind = 1) (ht : ∀ t : Tr, L[na]? = some t → r.t.num < t.num) : Does L r na (L.take na ++ [r.t] ++ L.drop na)
  | bust (hk : r.kind = 2) (ht : L[na]? = some r.t) : Does L r na (L.take na ++ L.drop (na + 1))
  | correct (hk : r.kind = 3) (t : Tr) (ht : L[na]? = some t) (hn : t.num = r.t.num) : Does L r na (L.take na ++ [r.t] ++ L.drop (na + 1))

theorem Folds.does {a b : List Tr} {r : Rc} (h : Folds a r b) : (r.kind = 4 ∧ a = b) ∨ ∃ na, Stands a r.t.num na ∧ Does a r na b := by
  cases h with
  | @print a b r hk h1 h2 =>
    right
    have top : ∀ t : Tr, (a ++ b)[a.length]? = some t → r.t.num < t.num := fun t ht => by
      rw [List.getElem?_append_right (Nat.le_refl _), Nat.sub_self] at ht
      exact h2 t (List.mem_of_getElem? ht)
    refine ⟨a.length, ⟨by simp, fun j t hj ht => ?_, fun t ht => Int.le_of_lt (top t ht)⟩, ?_⟩
    · rw [List.getElem?_append_left hj] at ht
      exact h1 t (List.mem_of_getElem? ht)
    · have := Does.print (L := a ++ b) (na := a.length) hk top
      rw [List.take_left, List.drop_left] at this
      exact this
  | @bust a b r hk h1 h2 =>
    right
    have e : (a ++ [r.t] ++ b)[a.length]? = some r.t := by
      rw [List.append_assoc, List.getElem?_append_right (Nat.le_refl _), Nat.sub_self]; rfl
    refine ⟨a.length, ⟨by simp, fun j t hj ht => ?_, fun t ht => ?_⟩, ?_⟩
    · rw [List.append_assoc, List.getElem?_append_left hj] at ht
      exact h1 t (List.mem_of_getElem? ht)
    · rw [e] at ht; obtain rfl := Option.some.inj ht; exact Int.le_refl _
    · have h := Does.bust (L := a ++ [r.t] ++ b) (na := a.length) hk e
      have e1 : (a ++ [r.t] ++ b).take a.length = a := by rw [List.append_assoc, List.take_left]
      have e2 : (a ++ [r.t] ++ b).drop (a.length + 1) = b := by
        have : a.length + 1 = (a ++ [r.t]).length := by simp
        rw [this, List.drop_left]
      rw [e1, e2] at h
      exact h
  | @correct a b r t hk ht h1 h2 =>
    right
    have e : (a ++ [t] ++ b)[a.length]? = some t := by
      rw [List.append_assoc, List.getElem?_append_right (Nat.le_refl _), Nat.sub_self]; rfl
    refine ⟨a.length, ⟨by simp, fun j x hj hx => ?_, fun x hx => ?_⟩, ?_⟩
    · rw [List.append_assoc, List.getElem?_append_left hj] at hx
      exact h1 x (List.mem_of_getElem? hx)
    · rw [e] at hx; obtain rfl := Option.some.inj hx; rw [ht]; exact Int.le_refl _
    · have h := Does.correct (L := a ++ [t] ++ b) (na := a.length) hk t e ht
      have e1 : (a ++ [t] ++ b).take a.length = a := by rw [List.append_assoc, List.take_left]
      have e2 : (a ++ [t] ++ b).drop (a.length + 1) = b := by
        have : a.length + 1 = (a ++ [t]).length := by simp
        rw [this, List.drop_left]
      rw [e1, e2] at h
      exact h
  | close hk => exact .inl ⟨hk, rfl⟩

theorem flatT_drop : ∀ (p : Nat) (ts : List Tr), flatT (ts.drop p) = (flatT ts).drop (p * 7)
  | 0, ts => by simp
  | p + 1, [] => by simp [flatT]
  | p + 1, t :: ts => by
    rw [List.drop_succ_cons, flatT_drop p ts]
    show _ = (t.cells ++ flatT ts).drop _
    have e : (p + 1) * 7 = t.cells.length + p * 7 := by
      have : t.cells.length = 7 := rfl
      omega
    rw [e, ← List.drop_drop, List.drop_left]

theorem flatT_one (ts : List Tr) : ∀ u ∈ flatT ts, u.oneCell' = true := by
  intro u hu
  obtain ⟨r, _, h⟩ := List.mem_flatMap.1 hu
  simp only [Tr.cells, List.mem_cons, List.not_mem_nil, or_false] at h
  rcases h with h | h | h | h | h | h | h <;> rw [h] <;> rfl

/-- a part of a row as what is appended -/
theorem TRow.tail {w : World} {base c g : Nat} {ts : List Tr} (h : TRow w base (some ⟨g, 0, none⟩) c ts) (p : Nat) : ∀ j u, (flatT (ts.drop p))[j]? = some u → w.cell? (Addr.add ⟨g, p * 7, none⟩ j) = some u := by
  intro j u hj
  rw [flatT_drop, List.getElem?_drop] at hj
  have h := World.ownsRow.cells h (g := g) rfl _ u hj
  have e1 : Addr.add ⟨g, 0, none⟩ (p * 7 + j) = Addr.add ⟨g, p * 7, none⟩ j := by by_cases h1 : j = 0 <;> by_cases h2 : p = 0 <;> simp [Addr.add, h1, h2] <;> omega
  rw [e1] at h
  exact h

theorem TRow.head {w : World} {base c g : Nat} {ts : List Tr} (h : TRow w base (some ⟨g, 0, none⟩) c ts) (p : Nat) : ∀ j u, (flatT (ts.take p))[j]? = some u → w.cell? (Addr.add ⟨g, 0, none⟩ j) = some u := by
  intro j u hj
  have e := flatT_append (ts.take p) (ts.drop p)
  rw [List.take_append_drop] at e
  refine World.ownsRow.cells h (g := g) rfl _ u ?_
  rw [e, List.getElem?_append_left ((List.getElem?_eq_some_iff.1 hj).1)]
  exact hj

theorem TRow.kept {w w' : World} {base c : Nat} {a : Option Addr} {ts : List Tr} (h : TRow w base a c ts) {S : Nat → Prop} (k : Chg S w w') (hS : ∀ b, (∃ o s, a = some ⟨b, o, s⟩) → ¬ S b) : TRow w' base a c ts := by
  refine own_kept h k (fun b hb => hS b ?_)
  cases a with
  | none => simp [Value.ownBlock] at hb
  | some x => simp only [Value.ownBlock, Option.some.injEq] at hb; subst hb; exact ⟨_, _, rfl⟩

theorem TRow.form {w : World} {base c : Nat} {a : Option Addr} {ts : List Tr} (h : TRow w base a c ts) : (a = none ∧ ts = [] ∧ c = 0) ∨ ∃ g, a = some ⟨g, 0, none⟩ ∧ base ≤ g ∧ ts.length ≤ c := by
  rcases h.2 with ⟨h1, h2⟩ | ⟨g, cap, cur, h1, hb, _, hc, _⟩
  · injection h1 with e1 e2 e3
    exact .inl ⟨e1, List.length_eq_zero_iff.1 h2, e3⟩
  · injection h1 with e1 e2 e3
    exact .inr ⟨g, e1, hb, by omega⟩

end Go.Proofs.YtigaphnafnpfnaaGreatDoor

