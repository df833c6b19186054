import Derived.Test.YtigaphnafnpfnaaGreatDoorPVB2
import Derived.Laws.OwnMore
import Derived.Deep.QuietTactic
import Derived.BigQuiet
import Derived.BigRegion
import Derived.Deep.RegionWith
import Derived.Deep.LoopGhost
import Derived.Deep.RegionHeld3
import Derived.Deep.DrawnRows
import Derived.Test.YtigaphnafnpfnaaGreatDoorPVW
import Derived.Lib.AppendStr
import Derived.Deep.RegionLaw
import Derived.Deep.AppendLies
set_option linter.unusedVariables false
set_option linter.unusedSimpArgs false
/- The document's answer: its state as it lies in memory; what only reads it. -/
namespace Go.Proofs.YtigaphnafnpfnaaGreatDoor
open Go.RowKit
attribute [local go_sem ↓] Go.wp_at_zero Go.wp_at_succ

section
variable {α : Type} (f : α → List Value) (k : Nat)
theorem flat_len (hk : ∀ x, (f x).length = k) : ∀ l : List α, (l.flatMap f).length = l.length * k
  | [] => by simp
  | x :: l => by rw [List.flatMap_cons, List.length_append, hk, flat_len hk l, List.length_cons, Nat.add_mul]; omega
theorem flat_at (hk : ∀ x, (f x).length = k) : ∀ (l : List α) (i j : Nat) (x : α), l[i]? = some x → j < k → (l.flatMap f)[i * k + j]? = (f x)[j]?
  | [], i, j, x, h, _ => by simp at h
  | y :: l, 0, j, x, h, hj => by
    simp only [List.getElem?_cons_zero, Option.some.injEq] at h
    subst h
    rw [List.flatMap_cons, Nat.zero_mul, Nat.zero_add, List.getElem?_append_left (by rw [hk]; exact hj)]
  | y :: l, i + 1, j, x, h, hj => by
    simp only [List.getElem?_cons_succ] at h
    have e : (i + 1) * k + j - k = i * k + j := by rw [Nat.add_mul]; omega
    rw [List.flatMap_cons, List.getElem?_append_right (by rw [hk, Nat.add_mul]; omega), hk, e]
    exact flat_at hk l i j x h hj
theorem flat_set (hk : ∀ x, (f x).length = k) : ∀ (l : List α) (i j : Nat) (x y : α) (u : Value), l[i]? = some x → j < k → f y = (f x).set j u → (l.flatMap f).set (i * k + j) u = (l.set i y).flatMap f
  | [], i, j, x, y, u, h, _, _ => by simp at h
  | z :: l, 0, j, x, y, u, h, hj, e => by
    simp only [List.getElem?_cons_zero, Option.some.injEq] at h
    subst h
    rw [List.flatMap_cons, Nat.zero_mul, Nat.zero_add, List.set_append_left _ _ (by rw [hk]; exact hj), List.set_cons_zero, List.flatMap_cons, e]
  | z :: l, i + 1, j, x, y, u, h, hj, e => by
    simp only [List.getElem?_cons_succ] at h
    have e2 : (i + 1) * k + j - (f z).length = i * k + j := by rw [Nat.add_mul, hk]; omega
    rw [List.flatMap_cons, List.set_append_right _ _ (by rw [hk, Nat.add_mul]; omega), e2, List.set_cons_succ, List.flatMap_cons, flat_set hk l i j x y u h hj e]
theorem flat_snoc (l : List α) (x : α) : (l ++ [x]).flatMap f = l.flatMap f ++ f x := by simp [List.flatMap_append]
end

def ordL (o : Ord) : List Value := [.int .i64 o.id, .int .i64 o.owner, .string o.sym, .int .i64 o.side, .int .i64 o.kind, .int .i64 o.price, .int .i64 o.qty, .int .i64 o.entered, .int .i64 o.opn, .int .i64 o.filled, .int .i64 o.canc, .int .i64 o.exp, .int .i64 o.place]
theorem ordL_len (o : Ord) : (ordL o).length = 13 := rfl
def tgL (g : Tg) : List Value := [.int .i64 g.t.num, .string g.t.sym, .int .i64 g.t.price, .int .i64 g.t.qty, .int .i64 g.t.buy, .int .i64 g.t.sell, .int .i64 g.t.day, .bool g.holds]
theorem tgL_len (g : Tg) : (tgL g).length = 8 := rfl
def flatO (l : List Ord) : List Value := l.flatMap ordL
def flatG (l : List Tg) : List Value := l.flatMap tgL

/-- the document's state -/
structure RS where
  sy : List ByteArray
  l : List Ord
  t : List Tg
  day : Int
  places : Int
  told : List Rc

/-- where its lists lie -/
structure SM where
  yv : Value
  lv : Value
  tv : Value
  ov : Value

structure StV (w : World) (base sb : Nat) (S : RS) (m : SM) : Prop where
  ge : base ≤ sb
  blk : Blk w sb #[m.yv, m.lv, m.tv, .int .i64 S.day, .int .i64 S.places, m.ov] 207
  yrow : w.ownsRow base 9 1 m.yv S.sy.length (S.sy.map Value.string)
  lrow : w.ownsRow base 212 13 m.lv S.l.length (flatO S.l)
  trow : w.ownsRow base 210 8 m.tv S.t.length (flatG S.t)
  orow : w.ownsRow base 62 9 m.ov S.told.length (flatR S.told)

theorem StV.kept {w w' : World} {base sb : Nat} {S : RS} {m : SM} (h : StV w base sb S m) {K : Nat → Prop} (k : Chg K w w') (hK : ∀ b, base ≤ b → b < w.heap.size → ¬ K b) : StV w' base sb S m := by
  have hr : ∀ {e size n : Nat} {v : Value} {xs : List Value}, w.ownsRow base e size v n xs → w'.ownsRow base e size v n xs := fun {e size n v xs} r => own_kept r k (fun b hb => hK b (r.lt b hb).1 (r.lt b hb).2)
  exact ⟨h.ge, k.blk h.blk (hK _ h.ge h.blk.lt), hr h.yrow, hr h.lrow, hr h.trow, hr h.orow⟩
theorem StV.kept0 {w w' : World} {base sb : Nat} {S : RS} {m : SM} (h : StV w base sb S m) (k : Chg Non w w') : StV w' base sb S m := h.kept k (fun _ _ _ x => x)

/-- a row's value -/
theorem row_slice {w : World} {base e size n : Nat} {v : Value} {xs : List Value} (h : w.ownsRow base e size v n xs) : ∃ a c, v = .slice a n c := by
  rcases h.2 with ⟨rfl, h0⟩ | ⟨g, cap, cs, rfl, _⟩
  · exact ⟨none, 0, by rw [h0]⟩
  · exact ⟨_, cap, rfl⟩
theorem row_some {w : World} {base e size n c : Nat} {a : Option Addr} {xs : List Value} (h : w.ownsRow base e size (.slice a n c) n xs) (hn : 0 < n) : ∃ g, a = some ⟨g, 0, none⟩ ∧ base ≤ g := by
  rcases h.2 with ⟨_, h0⟩ | ⟨g, cap, cs, h1, hb, _⟩
  · omega
  · injection h1 with h1 _ _
    exact ⟨g, h1, hb⟩

def nthO (l : List Ord) (i : Nat) : Ord := l.getD i ⟨0, 0, ⟨#[]⟩, 0, 0, 0, 0, 0, 0, 0, 0, 0, 0⟩
theorem nthO_some {l : List Ord} {i : Nat} (h : i < l.length) : l[i]? = some (nthO l i) := by
  unfold nthO; rw [List.getD_eq_getElem?_getD, List.getElem?_eq_getElem h]; rfl
theorem nthO_eq {l : List Ord} {i : Nat} {o : Ord} (h : l[i]? = some o) : nthO l i = o := by
  unfold nthO; rw [List.getD_eq_getElem?_getD, h]; rfl

/-- the cells of an order of the list -/
theorem StV.ordc {w : World} {base sb c : Nat} {a : Option Addr} {S : RS} {m : SM} (h : StV w base sb S m) (hv : m.lv = .slice a S.l.length c) {i : Nat} (hi : i < S.l.length) : ∃ g, a = some ⟨g, 0, none⟩ ∧ base ≤ g ∧ (∀ j u, (ordL (nthO S.l i))[j]? = some u → w.cell? ⟨g, i * 13 + j, none⟩ = some u) ∧ ∀ j, w.frozen? ⟨g, j, none⟩ = false := by
  have r := h.lrow
  rw [hv] at r
  obtain ⟨g, rfl, hg⟩ := row_some r (by omega)
  refine ⟨g, rfl, hg, fun j u hu => ?_, fun j => r.frozenAt j⟩
  have hj : j < 13 := by have := (List.getElem?_eq_some_iff.1 hu).1; rw [ordL_len] at this; exact this
  rw [r.cellAt _ (by omega)]
  exact (flat_at ordL 13 ordL_len S.l i j _ (nthO_some hi) hj).trans hu

/-- an index, or -1 -/
def oi : Option Nat → Int
  | some k => k
  | none => -1

theorem rrests_any (n : Int) (w : World) : Calls Tryz.prog 202 #[.int .i64 n] w fun e w' => e = .returned (.bool (restsB n)) ∧ w' = w := by
  by_cases h1 : n = 0
  · subst h1
    go_enter Tryz.func202, Tryz.ntmps202
    go_wp2
    go_ret
    exact ⟨rfl, rfl⟩
  · have e1 : (n == 0) = false := by simp [h1]
    by_cases h2 : n = 1
    · subst h2
      go_enter Tryz.func202, Tryz.ntmps202
      go_wp2
      go_ret
      exact ⟨rfl, rfl⟩
    · have e2 : (n == 1) = false := by simp [h2]
      have HR : Hid (restsB n = (n == 4)) := by show _ = _; simp [restsB, e1, e2]
      go_enter Tryz.func202, Tryz.ntmps202
      go_wp2
      go_ret
      exact ⟨by rw [HR.out]; rfl, rfl⟩

theorem strEq (x y : ByteArray) : (x.toList == y.toList) = decide (x = y) := by
  by_cases h : x = y
  · subst h; simp
  · rw [decide_eq_false h]
    simp only [beq_eq_false_iff_ne, ne_eq, ByteArray.toList_eq]
    intro e
    exact h (by cases x; cases y; simp at e; rw [e])
def symB (l : List ByteArray) (s : ByteArray) : Bool := l.any (fun x => decide (x = s))
theorem symB_true {l : List ByteArray} {s : ByteArray} {i : Nat} (h : l[i]? = some s) : symB l s = true := List.any_eq_true.2 ⟨s, List.mem_of_getElem? h, by simp⟩
theorem symB_false {l : List ByteArray} {s : ByteArray} (h : ∀ i : Nat, i < l.length → l[i]? ≠ some s) : symB l s = false := by
  rw [symB, List.any_eq_false]
  intro x hx
  obtain ⟨j, hj⟩ := List.getElem?_of_mem hx
  have := h j (List.getElem?_eq_some_iff.1 hj).1
  simp only [decide_eq_true_eq]
  rintro rfl
  exact this hj
theorem rsymbol_any (base sb : Nat) (S : RS) (m : SM) (s : ByteArray) (w : World) (h : StV w base sb S m) (hlen : S.sy.length ≤ 1000) :
    Calls Tryz.prog 142 #[.pointer (some ⟨sb, 0, none⟩), .string s] w fun e w' => e = .returned (.bool (symB S.sy s)) ∧ w' = w := by
  obtain ⟨n, hn⟩ : ∃ n, S.sy.length = n := ⟨_, rfl⟩
  obtain ⟨a, c, hv⟩ := row_slice h.yrow
  rw [hn] at hv hlen
  have v0 : w.cell? ⟨sb, 0, none⟩ = some (.slice a n c) := by rw [← hv]; exact h.blk.cell 0
  have HX : Hid (∀ i, i < n → ∃ (g : Nat) (x : ByteArray), a = some ⟨g, 0, none⟩ ∧ w.cell? ⟨g, i, none⟩ = some (.string x) ∧ S.sy[i]? = some x) := fun i hi => by
    have r := h.yrow
    rw [hv, hn] at r
    obtain ⟨g, rfl, _⟩ := row_some r (by omega)
    have hi' : i < S.sy.length := by omega
    refine ⟨g, S.sy[i], rfl, ?_, List.getElem?_eq_getElem hi'⟩
    rw [r.cellAt i (by omega), List.getElem?_map, List.getElem?_eq_getElem hi']; rfl
  obtain ⟨L, hL⟩ : ∃ L, S.sy = L := ⟨_, rfl⟩
  rw [hL] at hn HX ⊢
  have HN := hide hn
  clear h hv hL hn
  go_enter Tryz.func142, Tryz.ntmps142
  go_wp2
  go_loopg [5] n (fun k iv wr => ∃ i : Nat, iv = .int .i64 (i : Int) ∧ i ≤ n ∧ k = n - i ∧ (∀ j, j < i → L[j]? ≠ some s) ∧ wr = w)
  case atStart => exact ⟨0, rfl, Nat.zero_le _, rfl, fun j hj => by omega, rfl⟩
  case round =>
    obtain ⟨i, rfl, hi, hgk, hno, rfl⟩ := hrel
    have HO := hide hno
    clear hno
    by_cases hlt : i < n
    · obtain ⟨g, x, rfl, hx, hxl⟩ := unhide HX i hlt
      have HXL := hide hxl
      clear hxl
      by_cases he : x = s
      · subst he
        go_wp2
        go_ret
        exact ⟨by rw [symB_true (unhide HXL)]; rfl, rfl⟩
      · have e1 : (x.toList == s.toList) = false := by rw [strEq]; simpa using he
        go_wp2
        go_roundg (n - (i + 1))
        case measure => omega
        case rel => exact ⟨i + 1, by push_cast; rfl, by omega, rfl, fun j hj => by
            by_cases hji : j = i
            · subst hji; rw [unhide HXL]; intro e; exact he (Option.some.inj e)
            · exact unhide HO j (by omega), rfl⟩
    · obtain rfl : i = n := by omega
      go_wp2
      go_ret
      refine ⟨?_, rfl⟩
      rw [symB_false (fun j hj => unhide HO j (by rw [unhide HN] at hj; exact hj))]
      rfl

def ordX (l : List Ord) (id : Int) : Option Nat := l.findIdx? (fun o => o.id == id)

theorem rorder_any (base sb : Nat) (S : RS) (m : SM) (id : Int) (w : World) (h : StV w base sb S m) (hlen : S.l.length ≤ 1000) :
    Calls Tryz.prog 141 #[.pointer (some ⟨sb, 0, none⟩), .int .i64 id] w fun e w' => e = .returned (.int .i64 (oi (ordX S.l id))) ∧ w' = w := by
  obtain ⟨n, hn⟩ : ∃ n, S.l.length = n := ⟨_, rfl⟩
  obtain ⟨a, c, hv⟩ := row_slice h.lrow
  have HX : Hid (∀ i, i < n → ∃ (g : Nat), a = some ⟨g, 0, none⟩ ∧ w.cell? ⟨g, i * 13, none⟩ = some (.int .i64 (nthO S.l i).id)) := fun i hi => by
    obtain ⟨g, e, _, hc, _⟩ := h.ordc hv (i := i) (by omega)
    exact ⟨g, e, hc 0 _ rfl⟩
  rw [hn] at hv hlen
  have v1 : w.cell? ⟨sb, 1, none⟩ = some (.slice a n c) := by rw [← hv]; exact h.blk.cell 1
  obtain ⟨L, hL⟩ : ∃ L, S.l = L := ⟨_, rfl⟩
  rw [hL] at hn HX ⊢
  have HN := hide hn
  clear h hv hL hn
  go_enter Tryz.func141, Tryz.ntmps141
  go_wp2
  go_loopg [5] n (fun k iv wr => ∃ i : Nat, iv = .int .i64 (i : Int) ∧ i ≤ n ∧ k = n - i ∧ (∀ j, j < i → (nthO L j).id ≠ id) ∧ wr = w)
  case atStart => exact ⟨0, rfl, Nat.zero_le _, rfl, fun j hj => by omega, rfl⟩
  case round =>
    obtain ⟨i, rfl, hi, hgk, hno, rfl⟩ := hrel
    have HO := hide hno
    clear hno
    by_cases hlt : i < n
    · obtain ⟨g, rfl, hx⟩ := unhide HX i hlt
      by_cases he : (nthO L i).id = id
      · have e1 : ((nthO L i).id == id) = true := by simpa using he
        go_wp2
        go_ret
        refine ⟨?_, rfl⟩
        have : ordX L id = some i := by
          unfold ordX
          rw [List.findIdx?_eq_some_iff_getElem]
          have hi' : i < L.length := by rw [unhide HN]; exact hlt
          have g2 : ∀ j (hj : j < L.length), L[j] = nthO L j := fun j hj => by have := nthO_some hj; rw [List.getElem?_eq_getElem hj] at this; exact Option.some.inj this
          refine ⟨hi', by rw [g2 i hi']; exact e1, fun j hj => ?_⟩
          rw [g2 j (by omega)]
          simpa using unhide HO j hj
        rw [this]; rfl
      · have e1 : ((nthO L i).id == id) = false := by simpa using he
        go_wp2
        go_roundg (n - (i + 1))
        case measure => omega
        case rel => exact ⟨i + 1, by push_cast; rfl, by omega, rfl, fun j hj => by
            by_cases hji : j = i
            · subst hji; exact he
            · exact unhide HO j (by omega), rfl⟩
    · obtain rfl : i = n := by omega
      go_wp2
      go_ret
      refine ⟨?_, rfl⟩
      have : ordX L id = none := by
        unfold ordX
        rw [List.findIdx?_eq_none_iff]
        intro x hx
        obtain ⟨j, hj⟩ := List.getElem?_of_mem hx
        have hlt' := (List.getElem?_eq_some_iff.1 hj).1
        have := unhide HO j (by rw [unhide HN] at hlt'; exact hlt')
        rw [nthO_eq hj] at this
        simpa using this
      rw [this]; rfl

end Go.Proofs.YtigaphnafnpfnaaGreatDoor

set_option linter.unusedVariables false
set_option linter.unusedSimpArgs false
/- The journal grows by a line. -/
namespace Go.Proofs.YtigaphnafnpfnaaGreatDoor
open Go.RowKit
attribute [local go_sem ↓] Go.wp_at_zero Go.wp_at_succ

theorem infoU8 : ∃ i, Tryz.prog.info? 5 = some i ∧ i.zero = some (.int .u8 0) ∧ i.size = 1 ∧ i.bytes = 1 := by
  have h : (Tryz.prog.info? 5).map (fun i => (i.zero, i.size, i.bytes)) = some (some (.int .u8 0), 1, 1) := by kernel_rfl
  cases hi : Tryz.prog.info? 5 with
  | none => rw [hi] at h; simp at h
  | some i =>
    rw [hi] at h
    simp at h
    exact ⟨i, rfl, h.1, h.2.1, h.2.2⟩

/-- a string's bytes behind a row: which block holds them then -/
theorem append_str {P : Program} (w : World) (t u ty e : TypeId) (i : TypeInfo) (ht : P.underlying t = some (.slice e)) (hu : P.underlying u = some .string) (hi : P.info? e = some i) (hz : i.zero = some (.int .u8 0)) (hsize : i.size = 1) (hby : i.bytes = 1)
    (v : Value) (n : Nat) (xs : List Value) (hown : w.ownsRow 0 e 1 v n xs) (s : ByteArray) (hs0 : 0 < s.size) (hb : n + s.size ≤ 1000000000) :
    ∃ g cap w', (Builtin.append_ #[t, u] ty #[v, .string s]).run P w = .ok (.slice (some ⟨g, 0, none⟩) (n + s.size) cap) w' ∧ w'.ownsRow 0 e 1 (.slice (some ⟨g, 0, none⟩) (n + s.size) cap) (n + s.size) (xs ++ Lib.strCells s) ∧ w.grownBy w' v.ownBlock ∧ (v.ownBlock = some g ∨ g = w.heap.size) := by
  obtain ⟨v', w', hr, h2, h3, h4⟩ := Lib.run_append_own_string (P := P) w 0 t u ty e i ht hu hi hz hsize hby v n xs hown s (by unfold maxLen; omega) (by omega) (by omega)
  have hx : ∃ g cap, v' = .slice (some ⟨g, 0, none⟩) (n + s.size) cap ∧ (v.ownBlock = some g ∨ g = w.heap.size) := by
    have hxl : xs.length = n := by simpa using hown.1
    rcases hown.2 with ⟨rfl, rfl⟩ | ⟨g, cap, cur, rfl, hbg, hg, hnc, hcm, hcs, htake⟩
    · have hr2 := run_append_nil_string (P := P) w t u ty e i (.int .u8 0) ht hu hi hz s hs0 (by omega) (by rw [hby]; omega)
      rw [hr] at hr2
      injection hr2 with e1 _
      exact ⟨_, _, by rw [e1, Nat.zero_add], .inr rfl⟩
    · by_cases hroom : n + s.size ≤ cap
      · have hr2 := Lib.run_append_room_string (P := P) w t u ty e i ht hu hi hsize g n cap cur hg s hroom (by omega)
        rw [hr] at hr2
        injection hr2 with e1 _
        exact ⟨_, _, e1, .inl rfl⟩
      · have holds : ∀ j u, xs[j]? = some u → w.cell? ((⟨g, 0, none⟩ : Addr).add j) = some u := World.ownsRow.cells (g := g) ⟨hown.1, .inr ⟨g, cap, cur, rfl, hbg, hg, hnc, hcm, hcs, htake⟩⟩ rfl
        have hr2 := Lib.run_append_grow_string (P := P) w t u ty e i (.int .u8 0) ht hu hi hz ⟨g, 0, none⟩ n cap xs (by rw [hsize]; simpa using hxl) holds s (by omega) (by omega) (by rw [hby]; exact growslice_fits (by omega) (by omega))
        rw [hr] at hr2
        injection hr2 with e1 _
        exact ⟨_, _, e1, .inr rfl⟩
  obtain ⟨g, cap, rfl, hg⟩ := hx
  exact ⟨g, cap, w', hr, h2, h3, hg⟩

theorem wpList_append_str {P : Program} {w : World} {ops : Array Oper} {rest : List Oper} {o : Oper} {a : Act} {Q : Exit → Act → World → Prop} (hgd : o.guard = none) (sl x : Operand) (t u : TypeId)
    (ho : o.op = .call { callee := .builtin .append, args := #[sl, x], argTypes := #[t, u] })
    (e : TypeId) (i : TypeInfo) (ht : P.underlying t = some (.slice e)) (hu : P.underlying u = some .string) (hi : P.info? e = some i) (hz : i.zero = some (.int .u8 0)) (hsize : i.size = 1) (hby : i.bytes = 1)
    (v : Value) (n : Nat) (xs : List Value) (hs : a.eval sl = v) (hown : w.ownsRow 0 e 1 v n xs) (s : ByteArray) (hx : a.eval x = .string s) (hs0 : 0 < s.size) (hb : n + s.size ≤ 1000000000)
    (h : ∀ g cap w', w'.ownsRow 0 e 1 (.slice (some ⟨g, 0, none⟩) (n + s.size) cap) (n + s.size) (xs ++ Lib.strCells s) → w.grownBy w' v.ownBlock → (v.ownBlock = some g ∨ g = w.heap.size) → wpList P ops Q rest (a.put o.dst (.slice (some ⟨g, 0, none⟩) (n + s.size) cap)) w') : wpList P ops Q (o :: rest) a w := by
  refine wpList_plain hgd fun K hK => ?_
  obtain ⟨g, cap, w', hr, h2, h3, h4⟩ := append_str (P := P) w t u o.type e i ht hu hi hz hsize hby v n xs hown s hs0 hb
  unfold Oper.wp execOp
  simp only [ho, resolve, invoke, builtin, Sem.run_bind, Sem.run_pure, Result.andThen_ok, List.map_toArray, List.map_cons, List.map_nil, hs, hx, hr]
  exact hK _ _ (h g cap w' h2 h3 h4)

/-- the form of a slice that owns its row -/
theorem own_form0 {w : World} {base e size n : Nat} {v : Value} {xs : List Value} (h : w.ownsRow base e size v n xs) : ∃ a c, v = .slice a n c := by
  rcases h.2 with ⟨h, h0⟩ | ⟨g, cap, cs, h, _⟩
  · exact ⟨none, 0, by rw [h, h0]⟩
  · exact ⟨_, cap, h⟩

/-- the journal is another one -/
theorem IsLogp.setJ {w w4 : World} {bv bm bo : Nat} {G : Lg} {m : Lm} {q q' n : Nat} (h : IsLogp w bv bm bo G m q) (k : Chg (fun b => m.jv.ownBlock = some b) w w4) {jv : Value} {jn : List Value} (hn : jn.length = n) (hown : w4.ownsRow 0 5 1 jv n jn) (hq : n ≤ 300 * q') :
    IsLogp (w4.setCell ⟨bv, 6, none⟩ jv) bv bm bo G { m with jv := jv, jn := jn } q' ∧ Chg (fun b => b = bv ∨ m.jv.ownBlock = some b) w (w4.setCell ⟨bv, 6, none⟩ jv) := by
  subst hn
  have no : ∀ {b c t}, Blk w b c t → t ≠ 5 → ¬ (m.jv.ownBlock = some b) := fun hb ht e => own_ne h.log.jrow e hb (fun e => ht e.symm) rfl
  have b4 : Blk w4 bv (venC bm bo m G.day) 100 := k.blk h.ven (no h.ven (by decide))
  have k5 : Chg (fun b => b = bv) w4 (w4.setCell ⟨bv, 6, none⟩ jv) := (Chg.refl (fun b => b = bv) w4).setCell (p := ⟨bv, 6, none⟩) (.inl rfl) _
  have kk : Chg (fun b => b = bv ∨ m.jv.ownBlock = some b) w (w4.setCell ⟨bv, 6, none⟩ jv) := (k.mono (fun b e => .inr e)).trans (k5.mono (fun b e => .inl e))
  have no2 : ∀ {b c t}, Blk w b c t → t ≠ 5 → t ≠ 100 → ¬ (b = bv ∨ m.jv.ownBlock = some b) := by
    rintro b c t hb h5 h0 (e | e)
    · exact Blk.ne hb h.ven h0 e
    · exact no hb h5 e
  refine ⟨⟨b4.set 6 _, ?_⟩, kk⟩
  refine ⟨own_kept h.log.trow kk ?_, own_kept h.log.prow kk ?_, h.log.len, fun i b g hi hg => kk.blk (h.log.blk i b g hi hg) (no2 (h.log.blk i b g hi hg) (by decide) (by decide)), h.log.nodup, h.log.act.kept kk ?_, own_kept hown k5 (fun b hb e => own_ne hown hb b4 (by decide) e), hq⟩
  · intro b hb
    obtain ⟨cs, hc⟩ := own_blk h.log.trow hb
    exact no2 hc (by decide) (by decide)
  · intro b hb
    obtain ⟨cs, hc⟩ := own_blk h.log.prow hb
    exact no2 hc (by decide) (by decide)
  · intro b hb
    obtain ⟨cs, t, hc, ht⟩ := h.log.act.typ hb
    exact no2 hc (by rcases ht with rfl | rfl <;> decide) (by rcases ht with rfl | rfl <;> decide)

set_option maxRecDepth 100000 in
set_option maxHeartbeats 1000000 in
theorem write_any (bv bm bo : Nat) (G : Lg) (m : Lm) (q : Nat) (line : ByteArray) (w : World) (hL : IsLogp w bv bm bo G m q) (hq : q < 3000000) (h0 : 0 < line.size) (hl : line.size ≤ 290) :
    Calls Tryz.prog 44 #[.pointer (some ⟨bv, 0, none⟩), .string line] w fun e w' => e = .returned (.tuple #[]) ∧
      ∃ jv jn, IsLogp w' bv bm bo G { m with jv := jv, jn := jn } (q + 1) ∧ (∀ b, jv.ownBlock = some b → m.jv.ownBlock = some b ∨ w.heap.size ≤ b) ∧ Chg (fun b => b = bv ∨ m.jv.ownBlock = some b) w w' := by
  obtain ⟨n, hn⟩ : ∃ n, m.jn.length = n := ⟨_, rfl⟩
  have hrow := hL.log.jrow
  have hjb := hL.log.jb
  rw [hn] at hrow hjb
  obtain ⟨pa, pcap, hjv⟩ := own_form0 hrow
  rw [hjv] at hrow
  have v6 : w.cell? ⟨bv, 6, none⟩ = some (.slice pa n pcap) := (hL.ven.cell 6).trans (by rw [← hjv]; rfl)
  have f6 := hL.ven.frozen 6
  have lv := hL.ven.lt
  obtain ⟨i0, hi0, hz0, hz1, hz2⟩ := infoU8
  have hbd : n + line.size ≤ 1000000000 := by omega
  have hmx : n + line.size + 1 ≤ maxLen := by unfold maxLen; omega
  have hm24 : (n + line.size + 1) * 1 ≤ 140737488355328 := by omega
  have HR := hide hrow
  have HL := hide hL
  have HJV := hide hjv
  have HN := hide hn
  have hnb : (Value.slice pa n pcap).ownBlock ≠ some bv := fun e => own_ne hrow e hL.ven (by decide) rfl
  have HNB := hide hnb
  have HB := hide hL.ven
  clear hrow hL hjv hn hnb
  go_enter Tryz.func44, Tryz.ntmps44
  go_wp2_with (at_builtin; first
    | (refine wpList_append_str rfl _ _ 98 9 rfl 5 i0 Tryz.underlying98 Tryz.underlying9 hi0 hz0 hz1 hz2 (.slice pa n pcap) n _ rfl (unhide HR) line rfl h0 hbd ?_; intro g cap w2 hown2 hgrow hat; have HO2 := hide hown2; have HG2 := hide hgrow; have HA2 := hide hat; have b2 : Blk w2 bv (venC bm bo m G.day) 100 := (hgrow.block bv lv (fun e => unhide HNB e.symm)).trans (unhide HB); have HB2 := hide b2; clear hown2 hgrow hat b2)
    | (refine wpList_append_lies _ rfl _ _ 98 rfl 0 5 i0 (.int .u8 0) 1 1 Tryz.underlying98 hi0 hz0 hz1 hz2 rfl (by decide) (.slice (some ⟨g, 0, none⟩) (n + line.size) cap) (n + line.size) _ rfl (own_kept (unhide HO2) ((Chg.refl Non w2).alloc _) (fun _ _ x => x)) ⟨w2.heap.size, 0, none⟩ 1 1 [.int .u8 10] rfl rfl (World.news_of_block (Blk.new w2 #[.int .u8 10] 5)) (by simp [Value.oneCell']) (by omega) hmx hm24 (by omega) (w2.heap.size + 1) (by simp) ?_; intro g4 cap4 w4 hown4 hgrow4 hat4 hlt4; have HO4 := hide hown4; have HG4 := hide hgrow4; have HA4 := hide hat4; have b4 : Blk w4 bv (venC bm bo m G.day) 100 := (hgrow4.block bv (((unhide HB2).alloc _).lt) (fun e => Blk.ne (unhide HB2) (own_blk (unhide HO2) (show (Value.slice (some ⟨g, 0, none⟩) (n + line.size) cap).ownBlock = some bv from e.symm)).choose_spec (by decide) rfl)).trans ((unhide HB2).alloc _); have v64 := b4.cell 6; have f64 := b4.frozen 6; simp only [venC] at v64; simp at v64; clear hown4 hgrow4 hat4 b4))
  go_end0
  have hj := unhide HJV
  have k2 : Chg (fun b => m.jv.ownBlock = some b) w w2 := (Chg.refl _ w).grown (unhide HG2) (fun k e => .inl (by rw [hj]; exact e))
  have k4 : Chg (fun b => m.jv.ownBlock = some b) w w4 := (k2.alloc _).grown (unhide HG4) (fun k e => by
    simp only [Value.ownBlock, Option.some.injEq] at e
    subst e
    rcases unhide HA2 with e | e
    · exact .inl (by rw [hj]; exact e)
    · exact .inr (by omega))
  have o4 := unhide HO4
  have hlen : ((m.jn ++ Lib.strCells line) ++ [Value.int .u8 10]).length = n + line.size + 1 := by have := o4.1; omega
  have hs := (unhide HL).setJ k4 (q' := q + 1) hlen o4 (by omega)
  refine ⟨rfl, _, _, hs.1, ?_, hs.2⟩
  intro b hb
  simp only [Value.ownBlock, Option.some.injEq] at hb
  subst hb
  rcases unhide HA4 with e | e
  · simp only [Value.ownBlock, Option.some.injEq] at e
    subst e
    rcases unhide HA2 with e | e
    · exact .inl (by rw [hj]; exact e)
    · exact .inr (by omega)
  · have := k2.size
    exact .inr (by omega)

end Go.Proofs.YtigaphnafnpfnaaGreatDoor

set_option linter.unusedVariables false
set_option linter.unusedSimpArgs false
/- The acts: begin, note. -/
namespace Go.Proofs.YtigaphnafnpfnaaGreatDoor
open Go.RowKit
attribute [local go_sem ↓] Go.wp_at_zero Go.wp_at_succ

theorem append_types (w : World) (ty : TypeId) (a b : Option Addr) (n c m k : Nat) : (Builtin.append_ #[109, 108] ty #[.slice a n c, .slice b m k]).run Tryz.prog w = (Builtin.append_ #[109, 109] ty #[.slice a n c, .slice b m k]).run Tryz.prog w := by kernel_rfl

theorem info1 : ∃ i, Tryz.prog.info? 1 = some i ∧ i.zero = some .nilFunc ∧ i.size = 1 ∧ i.bytes = 8 := by
  have h : (Tryz.prog.info? 1).map (fun i => (i.zero, i.size, i.bytes)) = some (some .nilFunc, 1, 8) := by kernel_rfl
  cases hi : Tryz.prog.info? 1 with
  | none => rw [hi] at h; simp at h
  | some i => rw [hi] at h; simp at h; exact ⟨i, rfl, h.1, h.2.1, h.2.2⟩

theorem info91 : ∃ i, Tryz.prog.info? 109 = some i ∧ i.zero = some (.slice none 0 0) ∧ i.size = 1 ∧ i.bytes = 24 := by
  have h : (Tryz.prog.info? 109).map (fun i => (i.zero, i.size, i.bytes)) = some (some (.slice none 0 0), 1, 24) := by kernel_rfl
  cases hi : Tryz.prog.info? 109 with
  | none => rw [hi] at h; simp at h
  | some i => rw [hi] at h; simp at h; exact ⟨i, rfl, h.1, h.2.1, h.2.2⟩

/-- append of functions to an act, at a step of a region that draws its order -/
theorem step_append_act {ops : Array Oper} {o : Oper} {a : Act} {K : Act → World → Prop} {Q : Exit → Act → World → Prop} {E : Prop} {w : World} (hgd : o.guard = none) (s x : Operand)
    (ho : o.op = .call { callee := .builtin .append, args := #[s, x], argTypes := #[109, 108] })
    (sa : Option Addr) (n sc : Nat) (xs : List Value) (hs : a.eval s = .slice sa n sc) (hown : w.ownsRow 0 1 1 (.slice sa n sc) n xs)
    (ad : Addr) (m c : Nat) (news : List Value) (hx : a.eval x = .slice (some ad) m c) (hl : news.length = m * 1) (hnews : ∀ j u, news[j]? = some u → w.cell? (ad.add j) = some u) (h1 : ∀ u ∈ news, u.oneCell' = true)
    (hm : 0 < m) (hb : n + m ≤ 2000000000) (H : Nat) (hH : w.heap.size = H)
    (h : ∀ g cap w', w'.ownsRow 0 1 1 (.slice (some ⟨g, 0, none⟩) (n + m) cap) (n + m) (xs ++ news) → w.grownBy w' (Value.slice sa n sc).ownBlock → ((Value.slice sa n sc).ownBlock = some g ∨ g = H) → g < w'.heap.size → K (a.put o.dst (.slice (some ⟨g, 0, none⟩) (n + m) cap)) w') :
    if Region.wanted o (yielded ops a.tmps) = true then Oper.wp Tryz.prog o a w K Q else E := by
  have hw : Region.wanted o (yielded ops a.tmps) = true := by simp [Region.wanted, hgd]
  rw [if_pos hw]
  obtain ⟨i, hi, hz, hsz, hby⟩ := info1
  obtain ⟨g, cap, w', hr, h2, h3, h4, h5⟩ := run_append_lies (P := Tryz.prog) w 109 o.type 0 1 i .nilFunc 1 8 Tryz.underlying109 hi hz hsz hby rfl (by decide) (.slice sa n sc) n xs hown ad m c news hl hnews h1 hm (by unfold maxLen; omega) (by omega) (by omega) H hH
  rw [← append_types] at hr
  unfold Oper.wp execOp
  simp only [ho, resolve, invoke, builtin, Sem.run_bind, Sem.run_pure, Result.andThen_ok, List.map_toArray, List.map_cons, List.map_nil, hs, hx, hr]
  exact h g cap w' h2 h3 h4 h5

def Lg.begun (G : Lg) : Lg := { G with na := G.na + 1, nt := [] }
def Lg.noted (G : Lg) (ds : List Back) : Lg := { G with nt := G.nt ++ ds }

theorem own_form {w : World} {base e size n : Nat} {v : Value} {xs : List Value} (h : w.ownsRow base e size v n xs) : ∃ a c, v = .slice a n c := own_form0 h

/-- a new act -/
theorem IsLogp.grewAct {w1 w2 : World} {bv bm bo : Nat} {G : Lg} {m : Lm} {q : Nat} (h : IsLogp w1 bv bm bo G m q) (hq : q ≤ G.na + 1) {n H g cap : Nat} (hn : G.na = n) (hown : w2.ownsRow 0 109 1 (.slice (some ⟨g, 0, none⟩) (n + 1) cap) (n + 1) (m.ac.map Prod.fst ++ [.slice none 0 0])) (hgrow : w1.grownBy w2 m.av.ownBlock) (hat : m.av.ownBlock = some g ∨ g = H) (hH : w1.heap.size = H) :
    IsLog (w2.setCell ⟨bv, 5, none⟩ (.slice (some ⟨g, 0, none⟩) (n + 1) cap)) bv bm bo G.begun { m with av := .slice (some ⟨g, 0, none⟩) (n + 1) cap, ac := m.ac ++ [(.slice none 0 0, [])] } ∧
      (∀ b, Lm.F { m with av := .slice (some ⟨g, 0, none⟩) (n + 1) cap, ac := m.ac ++ [(.slice none 0 0, [])] } b → m.F b ∨ H ≤ b) ∧ Chg (fun b => b = bv ∨ m.av.ownBlock = some b) w1 (w2.setCell ⟨bv, 5, none⟩ (.slice (some ⟨g, 0, none⟩) (n + 1) cap)) := by
  have hb2 : Blk w2 bv (venC bm bo m G.day) 100 := (hgrow.block bv h.ven.lt (fun e => h.bvne (.inr (.inr (.inr (.inl e.symm)))))).trans h.ven
  have k2 : Chg (fun b => b = bv ∨ m.av.ownBlock = some b) w1 (w2.setCell ⟨bv, 5, none⟩ (.slice (some ⟨g, 0, none⟩) (n + 1) cap)) :=
    ((Chg.refl _ w1).grown hgrow (fun k e => .inl (.inr e))).setCell (p := ⟨bv, 5, none⟩) (.inl (.inl rfl)) _
  have k3 : Chg (fun b => b = bv) w2 (w2.setCell ⟨bv, 5, none⟩ (.slice (some ⟨g, 0, none⟩) (n + 1) cap)) := (Chg.refl (fun b => b = bv) w2).setCell (p := ⟨bv, 5, none⟩) (.inl rfl) _
  have no : ∀ {b c t}, Blk w1 b c t → t ≠ 100 → t ≠ 109 → ¬ (b = bv ∨ m.av.ownBlock = some b) := by
    rintro b c t hb h0 h1 (e | e)
    · exact Blk.ne hb h.ven h0 e
    · exact own_ne h.log.act.row e hb (fun e => h1 e.symm) rfl
  refine ⟨⟨hb2.set 5 _, ?_⟩, ?_, k2⟩
  · refine ⟨own_kept h.log.trow k2 ?_, own_kept h.log.prow k2 ?_, h.log.len, fun i b g hi hg => k2.blk (h.log.blk i b g hi hg) (no (h.log.blk i b g hi hg) (by decide) (by decide)), h.log.nodup, ⟨?_, ?_, ?_, ?_, ?_⟩, own_kept h.log.jrow k2 ?_, Nat.le_trans h.log.jb (Nat.mul_le_mul_left 300 hq)⟩
    · intro b hb
      obtain ⟨cs, hc⟩ := own_blk h.log.trow hb
      exact no hc (by decide) (by decide)
    · intro b hb
      obtain ⟨cs, hc⟩ := own_blk h.log.prow hb
      exact no hc (by decide) (by decide)
    · have hl : (m.ac ++ [((.slice none 0 0 : Value), ([] : List Value))]).length = n + 1 := by rw [List.length_append, h.log.act.len, hn]; rfl
      simp only [hl, List.map_append, List.map_cons, List.map_nil]
      exact own_kept hown k3 (fun b hb e => own_ne hown hb hb2 (by decide) e)
    · intro a ha
      rcases List.mem_append.1 ha with ha | ha
      · refine own_kept (h.log.act.own a ha) k2 (fun b hb => ?_)
        obtain ⟨cs, hc⟩ := own_blk (h.log.act.own a ha) hb
        exact no hc (by decide) (by decide)
      · simp only [List.mem_singleton] at ha
        subst ha
        exact World.ownsRow_nil _ _ _ _
    · rw [List.filterMap_append]
      simpa [Value.ownBlock] using h.log.act.dis
    · show _ = G.na + 1
      rw [List.length_append, h.log.act.len]; rfl
    · intro a ha
      rw [List.getLast?_append] at ha
      simp at ha
      rw [← ha]
      rfl
    · intro b hb
      obtain ⟨cs, hc⟩ := own_blk h.log.jrow hb
      exact no hc (by decide) (by decide)
  · rintro b (hb | hb | hb | hb | ⟨a, ha, hb⟩)
    · exact .inl (.inl hb)
    · exact .inl (.inr (.inl hb))
    · exact .inl (.inr (.inr (.inl hb)))
    · simp only [Value.ownBlock, Option.some.injEq] at hb
      rcases hat with e | e
      · exact .inl (.inr (.inr (.inr (.inl (by rw [e, hb])))))
      · right; omega
    · rcases List.mem_append.1 ha with ha | ha
      · exact .inl (.inr (.inr (.inr (.inr ⟨a, ha, hb⟩))))
      · simp only [List.mem_singleton] at ha
        subst ha
        simp [Value.ownBlock] at hb

set_option maxRecDepth 100000 in
set_option maxHeartbeats 1000000 in
theorem begin_act (bv bm bo : Nat) (G : Lg) (m : Lm) (line : ByteArray) (w : World) (hL : IsLog w bv bm bo G m) (hna : G.na < 3000000) (h0 : 0 < line.size) (hl : line.size ≤ 290) :
    Calls Tryz.prog 51 #[.pointer (some ⟨bv, 0, none⟩), .string line] w fun e w' => e = .returned (.tuple #[]) ∧
      ∃ m', IsLog w' bv bm bo G.begun m' ∧ (∀ b, m'.F b → m.F b ∨ w.heap.size ≤ b) ∧ Chg (fun b => b = bv ∨ m.av.ownBlock = some b ∨ m.jv.ownBlock = some b) w w' ∧ m'.tb = m.tb := by
  obtain ⟨n, hn⟩ : ∃ n, G.na = n := ⟨_, rfl⟩
  have hav : ∃ pa pcap, m.av = .slice pa n pcap := by
    have hrow := hL.log.act.row
    rw [hL.log.act.len, hn] at hrow
    exact own_form hrow
  obtain ⟨pa, pcap, hav⟩ := hav
  obtain ⟨i0, hi0, hz0, hz1, hz2⟩ := info91
  have hmx : n + 1 ≤ maxLen := by unfold maxLen; omega
  have hm24 : (n + 1) * 24 ≤ 140737488355328 := by omega
  have HWr := hide (write_any bv bm bo G m G.na line w hL hna h0 hl)
  have HL := hide hL
  have HAV := hide hav
  have HN := hide hn
  clear hL hav hn
  go_enter Tryz.func51, Tryz.ntmps51
  go_wp2_with (first
    | (go_at_call 44; refine (unhide HWr).mono ?_; rintro e wq ⟨rfl, jv, jn, hLq, hFq, hkq⟩; have HLq := hide hLq; have HFq := hide hFq; have HKq := hide hkq; have v5 : wq.cell? ⟨bv, 5, none⟩ = some (.slice pa n pcap) := (hLq.ven.cell 5).trans (by rw [← unhide HAV]; rfl); have f5 := hLq.ven.frozen 5; have lv := hLq.ven.lt; have hrow : wq.ownsRow 0 109 1 (.slice pa n pcap) n (m.ac.map Prod.fst) := (by have hr := hLq.log.act.row; simp only at hr; rw [hLq.log.act.len, unhide HN, unhide HAV] at hr; exact hr); have HR := hide hrow; clear hLq hFq hkq hrow)
    | (at_builtin; refine wpList_append_lies _ rfl _ _ 97 rfl 0 109 i0 (.slice none 0 0) 1 24 Tryz.underlying97 hi0 hz0 hz1 hz2 rfl (by decide) (.slice pa n pcap) n _ rfl (own_kept (unhide HR) ((Chg.refl Non wq).alloc _) (fun _ _ x => x)) ⟨wq.heap.size, 0, none⟩ 1 1 [.slice none 0 0] rfl rfl (World.news_of_block (Blk.new wq #[.slice none 0 0] 109)) (by simp [Value.oneCell']) (by omega) hmx hm24 (by omega) (wq.heap.size + 1) (by simp) ?_; intro g cap w2 hown2 hgrow hat hlt; have HO2 := hide hown2; have HG2 := hide hgrow; have HA2 := hide hat; have b2 : Blk w2 bv (venC bm bo { m with jv := jv, jn := jn } G.day) 100 := (hgrow.block bv ((unhide HLq).ven.alloc _).lt (fun e => (unhide HLq).bvne (.inr (.inr (.inr (.inl (by show m.av.ownBlock = _; rw [unhide HAV]; exact e.symm))))))).trans ((unhide HLq).ven.alloc _); have v52 := b2.cell 5; have f52 := b2.frozen 5; simp only [venC] at v52; simp at v52; clear hown2 hgrow hat b2))
  go_end0
  have k1 : Chg Non wq (wq.alloc (.cells #[.slice none 0 0] 109)) := (Chg.refl Non wq).alloc _
  have hg := ((unhide HLq).kept0 k1).grewAct (Nat.le_refl _) (unhide HN) (unhide HO2) (by show World.grownBy _ w2 m.av.ownBlock; rw [unhide HAV]; exact unhide HG2) (by show m.av.ownBlock = _ ∨ _; rw [unhide HAV]; exact unhide HA2) (by simp)
  have kq := unhide HKq
  refine ⟨rfl, _, hg.1, fun b hb => ?_, ?_, rfl⟩
  · rcases hg.2.1 b hb with h | h
    · rcases h with h | (h | h) | h | h
      · exact .inl (.inl h)
      · exact .inl (.inr (.inl (.inl h)))
      · exact (unhide HFq b h).imp_left (fun h => .inr (.inl (.inr h)))
      · exact .inl (.inr (.inr (.inl h)))
      · exact .inl (.inr (.inr (.inr h)))
    · have := kq.size
      exact .inr (by omega)
  · exact (kq.mono (fun b h => h.imp_right .inr)).trans ((k1.of_non.trans hg.2.2).mono (fun b h => h.imp_right .inl))

theorem begin_any (bv bm bo : Nat) (G : Lg) (m : Lm) (line : ByteArray) (w : World) (hL : IsLog w bv bm bo G m) (hna : G.na < 3000000) (h0 : 0 < line.size) (hl : line.size ≤ 290) :
    Calls Tryz.prog 51 #[.pointer (some ⟨bv, 0, none⟩), .string line] w fun e w' => e = .returned (.tuple #[]) ∧
      ∃ m', IsLog w' bv bm bo G.begun m' ∧ (∀ b, m'.F b → m.F b ∨ w.heap.size ≤ b) ∧ Chg (fun b => b = bv ∨ m.F b) w w' := by
  refine (begin_act bv bm bo G m line w hL hna h0 hl).mono ?_
  rintro e w' ⟨rfl, m', h1, h2, h3, _⟩
  exact ⟨rfl, m', h1, h2, h3.mono (fun b h => h.imp_right (fun h => h.elim (fun h => .inr (.inr (.inr (.inl h)))) (fun h => .inr (.inl (.inr h)))))⟩

theorem set_last {α : Type} (l : List α) (x y : α) : (l ++ [x]).set l.length y = l ++ [y] := by
  induction l with
  | nil => rfl
  | cons a l ih => simp only [List.cons_append, List.length_cons, List.set_cons_succ, ih]

/-- the last act has noted more -/
theorem IsLogp.grewNote {w1 w2 : World} {bv bm bo : Nat} {G : Lg} {m : Lm} (h : IsLog w1 bv bm bo G m) {init : List (Value × List Value)} {hd : Value} {fs news : List Value} {ds : List Back} {n k ga acap g cap c H : Nat} (hac : m.ac = init ++ [(hd, fs)]) (hav : m.av = .slice (some ⟨ga, 0, none⟩) n acap) (hn : G.na = n) (hk : k + 1 = n)
    (hown : w2.ownsRow 0 1 1 (.slice (some ⟨g, 0, none⟩) (fs.length + c) cap) (fs.length + c) (fs ++ news)) (hgrow : w1.grownBy w2 hd.ownBlock) (hat : hd.ownBlock = some g ∨ g = H) (hH : w1.heap.size = H) (hds : ds.length = c) :
    IsLog (w2.setCell ⟨ga, k, none⟩ (.slice (some ⟨g, 0, none⟩) (fs.length + c) cap)) bv bm bo (G.noted ds) { m with ac := init ++ [(.slice (some ⟨g, 0, none⟩) (fs.length + c) cap, fs ++ news)] } ∧
      (∀ b, Lm.F { m with ac := init ++ [(.slice (some ⟨g, 0, none⟩) (fs.length + c) cap, fs ++ news)] } b → m.F b ∨ H ≤ b) ∧ Chg (fun b => ActF m.av m.ac b) w1 (w2.setCell ⟨ga, k, none⟩ (.slice (some ⟨g, 0, none⟩) (fs.length + c) cap)) ∧
      (∀ b, ActF m.av (init ++ [(.slice (some ⟨g, 0, none⟩) (fs.length + c) cap, fs ++ news)]) b → ActF m.av m.ac b ∨ H ≤ b) := by
  have hA := h.log.act
  have hlast : (hd, fs) ∈ m.ac := by rw [hac]; simp
  have hga : m.av.ownBlock = some ga := by rw [hav]; rfl
  have hlen : init.length = k := by
    have := hA.len
    rw [hac, hn, List.length_append] at this
    simp at this
    omega
  have hne : hd.ownBlock ≠ some ga := fun e => by
    obtain ⟨cs, hc⟩ := own_blk (hA.own _ hlast) e
    exact own_ne hA.row hga hc (by decide) rfl
  have k2 : Chg (fun b => b = ga ∨ hd.ownBlock = some b) w1 (w2.setCell ⟨ga, k, none⟩ (.slice (some ⟨g, 0, none⟩) (fs.length + c) cap)) :=
    ((Chg.refl _ w1).grown hgrow (fun k e => .inl (.inr e))).setCell (p := ⟨ga, k, none⟩) (.inl (.inl rfl)) _
  have k3 : Chg (fun b => b = ga) w2 (w2.setCell ⟨ga, k, none⟩ (.slice (some ⟨g, 0, none⟩) (fs.length + c) cap)) := (Chg.refl (fun b => b = ga) w2).setCell (p := ⟨ga, k, none⟩) (.inl rfl) _
  have no : ∀ {b c t}, Blk w1 b c t → t ≠ 109 → t ≠ 1 → ¬ (b = ga ∨ hd.ownBlock = some b) := by
    rintro b c t hb h0 h1 (e | e)
    · exact own_ne hA.row hga hb (fun e => h0 e.symm) e.symm
    · exact own_ne (hA.own _ hlast) e hb (fun e => h1 e.symm) rfl
  have hdis := hA.dis
  rw [hac, List.filterMap_append] at hdis
  have farI : ∀ a, a ∈ init → ∀ b, a.1.ownBlock = some b → hd.ownBlock ≠ some b := by
    intro a ha b hb e
    have h2 := (List.nodup_append.1 hdis).2.2
    exact h2 b (List.mem_filterMap.2 ⟨a, ha, hb⟩) b (by simp [e]) rfl
  have ltI : ∀ a, a ∈ init → ∀ b, a.1.ownBlock = some b → b < w1.heap.size := by
    intro a ha b hb
    obtain ⟨cs, hc⟩ := own_blk (hA.own a (by rw [hac]; exact List.mem_append.2 (.inl ha))) hb
    exact hc.lt
  have actS : ∀ b, ActF m.av (init ++ [(.slice (some ⟨g, 0, none⟩) (fs.length + c) cap, fs ++ news)]) b → ActF m.av m.ac b ∨ H ≤ b := by
    rintro b (hb | ⟨a, ha, hb⟩)
    · exact .inl (.inl hb)
    · rcases List.mem_append.1 ha with ha | ha
      · exact .inl (.inr ⟨a, by rw [hac]; exact List.mem_append.2 (.inl ha), hb⟩)
      · simp only [List.mem_singleton] at ha
        subst ha
        simp only [Value.ownBlock, Option.some.injEq] at hb
        subst hb
        rcases hat with e | e
        · exact .inl (.inr ⟨_, hlast, e⟩)
        · right; omega
  refine ⟨⟨k2.blk h.ven (no h.ven (by decide) (by decide)), ?_⟩, ?_, k2.mono (fun b hb => by
    rcases hb with e | e
    · subst e; exact .inl hga
    · exact .inr ⟨_, hlast, e⟩), ?_⟩
  · refine ⟨own_kept h.log.trow k2 ?_, own_kept h.log.prow k2 ?_, h.log.len, fun i b g hi hg => k2.blk (h.log.blk i b g hi hg) (no (h.log.blk i b g hi hg) (by decide) (by decide)), h.log.nodup, ⟨?_, ?_, ?_, ?_, ?_⟩, own_kept h.log.jrow k2 ?_, h.log.jb⟩
    · intro b hb
      obtain ⟨cs, hc⟩ := own_blk h.log.trow hb
      exact no hc (by decide) (by decide)
    · intro b hb
      obtain ⟨cs, hc⟩ := own_blk h.log.prow hb
      exact no hc (by decide) (by decide)
    · have hr := hA.row
      rw [hA.len, hn] at hr
      have hl : (init ++ [((.slice (some ⟨g, 0, none⟩) (fs.length + c) cap : Value), fs ++ news)]).length = n := by rw [List.length_append, hlen]; exact hk
      rcases hr.2 with ⟨e, _⟩ | ⟨g', cap', cur, e, h0, hg, h1, h2, h3, h4⟩
      · rw [hav] at e; simp at e
      · rw [hav] at e
        simp only [Value.slice.injEq, Option.some.injEq, Addr.mk.injEq] at e
        obtain ⟨⟨e1, _⟩, _, e2⟩ := e
        subst e1 e2
        have hb2 : Blk w2 ga cur 109 := (hgrow.block ga (Blk.lt hg) (fun e => hne e.symm)).trans hg
        have hb3 := hb2.set k (.slice (some ⟨g, 0, none⟩) (fs.length + c) cap)
        rw [hl]
        refine ⟨by simp only [List.length_map, hl]; omega, .inr ⟨ga, acap, _, hav, h0, hb3, h1, h2, by rw [Array.size_setIfInBounds]; exact h3, ?_⟩⟩
        rw [Array.toList_setIfInBounds, List.take_set, h4, hac]
        simp only [List.map_append, List.map_cons, List.map_nil]
        have : k = (init.map Prod.fst).length := by rw [List.length_map, hlen]
        rw [this]
        exact set_last _ _ _
    · intro a ha
      rcases List.mem_append.1 ha with ha | ha
      · have hm : a ∈ m.ac := by rw [hac]; exact List.mem_append.2 (.inl ha)
        refine own_kept (hA.own a hm) k2 ?_
        rintro b hb (e | e)
        · obtain ⟨cs, hc⟩ := own_blk (hA.own a hm) hb
          subst e
          exact own_ne hA.row hga hc (by decide) rfl
        · exact farI a ha b hb e
      · simp only [List.mem_singleton] at ha
        subst ha
        have e : (fs ++ news).length = fs.length + c := by have := hown.1; omega
        simp only [e]
        refine own_kept hown k3 (fun b hb e => ?_)
        simp only [Value.ownBlock, Option.some.injEq] at hb
        subst hb
        subst e
        obtain ⟨cs, hc⟩ := own_blk hA.row hga
        have hb2 : Blk w2 g cs 109 := (hgrow.block g hc.lt (fun e => hne e.symm)).trans hc
        exact own_ne hown rfl hb2 (by decide) rfl
    · rw [List.filterMap_append, List.nodup_append]
      refine ⟨(List.nodup_append.1 hdis).1, by simp [Value.ownBlock], ?_⟩
      intro x hx y hy e
      simp [Value.ownBlock] at hy
      subst hy
      subst e
      obtain ⟨a, ha, hb⟩ := List.mem_filterMap.1 hx
      rcases hat with e | e
      · exact farI a ha _ hb e
      · have := ltI a ha _ hb; omega
    · have : init.length + 1 = n := by omega
      simpa [hn, Lg.noted] using this
    · intro a ha
      simp at ha
      subst ha
      have h1 := hA.last (hd, fs) (by rw [hac]; simp)
      simp only at h1
      have := hown.1
      simp only [Lg.noted, List.length_append] at this ⊢
      omega
    · intro b hb
      obtain ⟨cs, hc⟩ := own_blk h.log.jrow hb
      exact no hc (by decide) (by decide)
  · rintro b (hb | hb | hb | hb)
    · exact .inl (.inl hb)
    · exact .inl (.inr (.inl hb))
    · exact .inl (.inr (.inr (.inl hb)))
    · exact (actS b hb).imp_left (fun h => .inr (.inr (.inr h)))
  · exact actS

theorem snoc_of_pos {α : Type} : ∀ l : List α, 0 < l.length → ∃ i x, l = i ++ [x]
  | [], h => absurd h (by simp)
  | [x], _ => ⟨[], x, rfl⟩
  | a :: b :: l, _ => by
    obtain ⟨i, x, e⟩ := snoc_of_pos (b :: l) (by simp)
    exact ⟨a :: i, x, by rw [e]; rfl⟩

set_option maxRecDepth 100000 in
set_option maxHeartbeats 2000000 in
theorem note_act (bv bm bo : Nat) (G : Lg) (m : Lm) (ds : List Back) (news : List Value) (sb c kc : Nat) (w : World) (hL : IsLog w bv bm bo G m) (hna : 0 < G.na) (hna2 : G.na ≤ 3000000) (hnf : G.nt.length + c < 1000000000) (hc : 0 < c) (hds : ds.length = c) (hl : news.length = c) (hnews : ∀ j u, news[j]? = some u → w.cell? ((⟨sb, 0, none⟩ : Addr).add j) = some u) (hone : ∀ u ∈ news, u.oneCell' = true) :
    Calls Tryz.prog 53 #[.pointer (some ⟨bv, 0, none⟩), .slice (some ⟨sb, 0, none⟩) c kc] w fun e w' => e = .returned (.tuple #[]) ∧
      ∃ m', IsLog w' bv bm bo (G.noted ds) m' ∧ (∀ b, m'.F b → m.F b ∨ w.heap.size ≤ b) ∧ Chg (fun b => ActF m.av m.ac b) w w' ∧ (∀ b, ActF m'.av m'.ac b → ActF m.av m.ac b ∨ w.heap.size ≤ b) := by
  obtain ⟨n, hn⟩ : ∃ n, G.na = n := ⟨_, rfl⟩
  have hA := hL.log.act
  obtain ⟨init, ⟨hd, fs⟩, hac⟩ := snoc_of_pos m.ac (by rw [hA.len]; exact hna)
  have hlen := hA.len
  rw [hac, List.length_append, hn] at hlen
  simp at hlen
  obtain ⟨k, hk⟩ : ∃ k, k + 1 = n := ⟨init.length, hlen⟩
  have hrow := hA.row
  rw [hA.len, hn] at hrow
  obtain ⟨ga, acap, hav, _, hga⟩ := hrow.form (by omega)
  rcases hrow.2 with ⟨e, _⟩ | ⟨g', cap', cur, e, h0, hg, h1, h2, h3, h4⟩
  · rw [hav] at e; simp at e
  have ee := hav.symm.trans e
  simp only [Value.slice.injEq, Option.some.injEq, Addr.mk.injEq] at ee
  obtain ⟨⟨e1, _⟩, _, e2⟩ := ee
  subst e1 e2
  have hfs := hA.last (hd, fs) (by rw [hac]; simp)
  simp only at hfs
  have hown := hA.own (hd, fs) (by rw [hac]; simp)
  simp only at hown
  obtain ⟨ha, hcap, hhd⟩ := own_form hown
  rw [hfs] at hhd
  obtain ⟨q, hq⟩ : ∃ q, fs.length = q := ⟨_, rfl⟩
  rw [hq] at hown hfs
  rw [← hfs] at hhd
  rw [hhd] at hown
  have hB : Blk w ga cur 109 := hg
  have hcell : cur[k]? = some hd := by
    have : cur.toList.take (n * 1) = init.map Prod.fst ++ [hd] := by rw [h4, hac]; simp
    have h5 : (cur.toList.take (n * 1))[k]? = some hd := by
      rw [this]
      have e : k = (init.map Prod.fst).length := by rw [List.length_map]; omega
      rw [e]; simp
    rw [List.getElem?_take_of_lt (by omega)] at h5
    simpa using h5
  have cK : w.cell? ⟨ga, k, none⟩ = some (.slice ha q hcap) := by rw [hB.cell k, hcell, hhd]
  have v5 : w.cell? ⟨bv, 5, none⟩ = some (.slice (some ⟨ga, 0, none⟩) n acap) := (hL.ven.cell 5).trans (by rw [← hav]; rfl)
  have hkn : k < n := by omega
  have hki : (n : Int) - 1 = (k : Int) := by omega
  have hkw : wrap64 (k : Int) = (k : Int) := by unfold wrap64; omega
  have hnd : (Value.slice ha q hcap).ownBlock ≠ some ga := fun e => by
    obtain ⟨cs, hc⟩ := own_blk hown e
    exact Blk.ne hc hB (by decide) rfl
  have hnv : (Value.slice ha q hcap).ownBlock ≠ some bv := fun e => by
    obtain ⟨cs, hc⟩ := own_blk hown e
    exact Blk.ne hc hL.ven (by decide) rfl
  have HNv := hide hnv
  clear hnv
  have HOn := hide hown
  have HNw := hide hnews
  have HL := hide hL
  have HB := hide hB
  have HCell := hide (show cur[k]? = some (.slice ha q hcap) by rw [hcell, hhd])
  have HAC := hide hac
  have HAV := hide hav
  have HN := hide hn
  have HK := hide hk
  have HHd := hide hhd
  have HQ := hide hq
  have HOne := hide hone
  have HNd := hide hnd
  have HLn := hide hl
  have hv := hide hL.ven
  have lv := hL.ven.lt
  have hnb : q + c ≤ 2000000000 := by omega
  clear hown hnews hL hB hcell hac hav hn hk hhd hq hone hnd hg hA hlen hrow h0 h1 h2 h3 h4 e hfs hl hnf
  go_enter Tryz.func53, Tryz.ntmps53
  go_wp2
  go_region_law (first | (refine step_append_act rfl (.tmp 22) (.tmp 23) rfl ha q hcap fs rfl (unhide HOn) ⟨sb, 0, none⟩ c kc news rfl (by rw [unhide HLn]; omega) (unhide HNw) (unhide HOne) hc hnb w.heap.size rfl ?_; intro g cap w2 hown2 hgrow hat hlt; have HO2 := hide hown2; have HG2 := hide hgrow; have HA2 := hide hat; have b2 : Blk w2 ga cur 109 := (hgrow.block ga hga (fun e => unhide HNd e.symm)).trans (unhide HB); have c2 : w2.cell? ⟨ga, k, none⟩ = some (.slice ha q hcap) := (b2.cell k).trans (unhide HCell); have f2 := b2.frozen k; have v52 : w2.cell? ⟨bv, 5, none⟩ = some (.slice (some ⟨ga, 0, none⟩) n acap) := (World.cell?_of_block (a := ⟨bv, 5, none⟩) (hgrow.block bv lv (fun e => unhide HNv e.symm))).trans v5; clear hown2 hgrow hat b2))
  all_goals
    go_end0
    have hh := unhide HHd
    have hg := ((unhide HL).kept0 (Chg.refl Non w).drew).grewNote (ds := ds) (c := c) (fs := fs) (news := news) (unhide HAC) (unhide HAV) (unhide HN) (unhide HK) (by rw [unhide HQ]; exact unhide HO2) (by rw [hh]; exact unhide HG2) (by rw [hh]; exact unhide HA2) rfl hds
    rw [unhide HQ] at hg
    exact ⟨rfl, _, hg.1, hg.2.1, (Chg.refl _ w).drew.trans hg.2.2.1, hg.2.2.2⟩

theorem note_any (bv bm bo : Nat) (G : Lg) (m : Lm) (ds : List Back) (news : List Value) (sb c kc : Nat) (w : World) (hL : IsLog w bv bm bo G m) (hna : 0 < G.na) (hna2 : G.na ≤ 3000000) (hnf : G.nt.length + c < 1000000000) (hc : 0 < c) (hds : ds.length = c) (hl : news.length = c) (hnews : ∀ j u, news[j]? = some u → w.cell? ((⟨sb, 0, none⟩ : Addr).add j) = some u) (hone : ∀ u ∈ news, u.oneCell' = true) :
    Calls Tryz.prog 53 #[.pointer (some ⟨bv, 0, none⟩), .slice (some ⟨sb, 0, none⟩) c kc] w fun e w' => e = .returned (.tuple #[]) ∧
      ∃ m', IsLog w' bv bm bo (G.noted ds) m' ∧ (∀ b, m'.F b → m.F b ∨ w.heap.size ≤ b) ∧ Chg (fun b => m.F b) w w' := by
  refine (note_act bv bm bo G m ds news sb c kc w hL hna hna2 hnf hc hds hl hnews hone).mono ?_
  rintro e w' ⟨rfl, m', h1, h2, h3, -⟩
  exact ⟨rfl, m', h1, h2, h3.mono (fun b h => .inr (.inr (.inr h)))⟩

end Go.Proofs.YtigaphnafnpfnaaGreatDoor

