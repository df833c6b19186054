import Derived.Test.YtigaphnafnpfnaaGreatDoorPVX14
import Derived.Test.YtigaphnafnpfnaaGreatDoorPVX6
import Derived.Test.YtigaphnafnpfnaaGreatDoorPVM1
import Derived.Test.YtigaphnafnpfnaaGreatDoorPVC1
set_option linter.unusedVariables false
set_option linter.unusedSimpArgs false
namespace Go.Proofs.YtigaphnafnpfnaaGreatDoor
open Go.RowKit
attribute [local go_sem ↓] Go.wp_at_zero Go.wp_at_succ

theorem info212 : (Tryz.prog.info? 212).map (fun i => (i.zero.map (fun z => z.cells.size), i.size, i.bytes)) = some (some 13, 13, 112) := by kernel_rfl
theorem info212_parts : ∃ i z, Tryz.prog.info? 212 = some i ∧ i.zero = some z ∧ i.size = 13 ∧ i.bytes = 112 ∧ z.cells.size = 13 := by
  have h := info212
  cases hi : Tryz.prog.info? 212 with
  | none => rw [hi] at h; simp at h
  | some i =>
    rw [hi] at h
    simp at h
    obtain ⟨⟨z, hz, hs⟩, h2, h3⟩ := h
    exact ⟨i, z, rfl, hz, h2, h3, hs⟩

/-- an order as it is entered: nothing is open yet -/
def newR (o : Ask) : Ord := ⟨o.id, o.owner, o.sym, o.side, o.kind, o.price, o.qty, o.qty, 0, 0, 0, 0, 0⟩
def RS.add (S : RS) (o : Ask) : RS := { S with l := S.l ++ [newR o] }

theorem news13 (w : World) (o : Ord) : ∀ j u, (ordL o)[j]? = some u → (w.alloc (.cells #[.int .i64 o.id, .int .i64 o.owner, .string o.sym, .int .i64 o.side, .int .i64 o.kind, .int .i64 o.price, .int .i64 o.qty, .int .i64 o.entered, .int .i64 o.opn, .int .i64 o.filled, .int .i64 o.canc, .int .i64 o.exp, .int .i64 o.place] 212)).cell? (Addr.add ⟨w.heap.size, 0, none⟩ j) = some u := by
  intro j u hj
  have hb := Blk.new w #[.int .i64 o.id, .int .i64 o.owner, .string o.sym, .int .i64 o.side, .int .i64 o.kind, .int .i64 o.price, .int .i64 o.qty, .int .i64 o.entered, .int .i64 o.opn, .int .i64 o.filled, .int .i64 o.canc, .int .i64 o.exp, .int .i64 o.place] 212
  have e : Addr.add ⟨w.heap.size, 0, none⟩ j = ⟨w.heap.size, j, none⟩ := by simp [Addr.add]; omega
  rw [e, hb.cell, ← hj]
  simp [ordL]

theorem StV.lGrown {w1 w2 : World} {base sb n H g cap : Nat} {S : RS} {m : SM} {r : Ord} (h : StV w1 base sb S m) (hn : S.l.length = n) (hown : w2.ownsRow base 212 13 (.slice (some ⟨g, 0, none⟩) (n + 1) cap) (n + 1) (flatO S.l ++ ordL r)) (hgrow : w1.grownBy w2 m.lv.ownBlock) (hat : m.lv.ownBlock = some g ∨ g = H) (hH : w1.heap.size = H) :
    StN base sb { S with l := S.l ++ [r] } m w1 (w2.setCell ⟨sb, 1, none⟩ (.slice (some ⟨g, 0, none⟩) (n + 1) cap)) := by
  have hne : m.lv.ownBlock ≠ some sb := fun e => by obtain ⟨cs, hc⟩ := own_blk h.lrow e; exact Blk.ne hc h.blk (by decide) rfl
  have hb2 : Blk w2 sb _ 207 := (hgrow.block sb h.blk.lt (fun e => hne e.symm)).trans h.blk
  have k1 : Chg (fun b => m.lv.ownBlock = some b) w1 w2 := (Chg.refl _ w1).grown hgrow (fun k e => .inl e)
  have k2 : Chg (fun b => b = sb) w2 (w2.setCell ⟨sb, 1, none⟩ (.slice (some ⟨g, 0, none⟩) (n + 1) cap)) := (Chg.refl (fun b => b = sb) w2).setCell (p := ⟨sb, 1, none⟩) (.inl rfl) _
  have keep2 : ∀ {e size n' : Nat} {v : Value} {xs : List Value}, w1.ownsRow base e size v n' xs → e ≠ 212 → e ≠ 207 → (w2.setCell ⟨sb, 1, none⟩ (.slice (some ⟨g, 0, none⟩) (n + 1) cap)).ownsRow base e size v n' xs := fun {e size n' v xs} r h1 h2 => by
    have r1 := own_typ (t := 0) r k1 (fun b hb => by obtain ⟨cs, hc⟩ := own_blk h.lrow hb; exact ⟨cs, _, hc, fun x => h1 x.symm⟩)
    exact own_typ (t := 0) r1 k2 (fun b hb => by subst hb; exact ⟨_, _, hb2, fun x => h2 x.symm⟩)
  refine ⟨{ m with lv := .slice (some ⟨g, 0, none⟩) (n + 1) cap }, ⟨h.ge, hb2.set 1 _, keep2 h.yrow (by decide) (by decide), ?_, keep2 h.trow (by decide) (by decide), keep2 h.orow (by decide) (by decide)⟩, ?_, ?_⟩
  · simp only [List.length_append, List.length_cons, List.length_nil, hn, flatO, flat_snoc]
    exact own_typ (t := 0) hown k2 (fun b hb => by subst hb; exact ⟨_, _, hb2, by decide⟩)
  · rintro b (rfl | hb | hb | hb | hb)
    · exact .inl (.inl rfl)
    · exact .inl (.inr (.inl hb))
    · simp only [Value.ownBlock, Option.some.injEq] at hb
      rcases hat with e | e
      · exact .inl (.inr (.inr (.inl (by rw [e, hb]))))
      · right; omega
    · exact .inl (.inr (.inr (.inr (.inl hb))))
    · exact .inl (.inr (.inr (.inr (.inr hb))))
  · exact (k1.mono (fun b hb => .inr (.inr (.inl hb)))).trans (k2.mono (fun b hb => .inl hb))

set_option maxRecDepth 100000 in
set_option maxHeartbeats 4000000 in
theorem rdoes_enter_err (base sb : Nat) (S : RS) (m : SM) (x : RAct) (w : World) (h : StV w base sb S m) (hx : x.kind = 101) (hlen : S.l.length ≤ 1000) (hsy : S.sy.length ≤ 1000) (hop : ∀ k, k < S.l.length → 0 ≤ (nthO S.l k).opn ∧ (nthO S.l k).opn ≤ 1000000000000000) (he : rentE S x.o ≠ 0) :
    Calls Tryz.prog 138 #[.pointer (some ⟨sb, 0, none⟩), x.val] w fun e w' => e = .returned (.tuple #[repV 0 0 0 0 0, .int .i64 (rentE S x.o)]) ∧ StN base sb S.fresh m w w' := by
  have lsb := h.blk.lt
  have v5 : w.cell? ⟨sb, 5, none⟩ = some m.ov := h.blk.cell 5
  have f5 := h.blk.frozen 5
  have sz : sb ≠ w.heap.size := by omega
  have sr : sb ≠ w.heap.size + 1 := by omega
  have sz' := sz.symm
  have sr' := sr.symm
  have lsb1 : sb < w.heap.size + 1 := by omega
  have HO : Hid (∀ W m', StV W base sb S.fresh m' → Calls Tryz.prog 167 #[.pointer (some ⟨sb, 0, none⟩), x.o.val] W fun e w' => e = .returned (.int .i64 (rentE S x.o)) ∧ Chg Non W w') := fun W m' hW => rentering_any base sb S.fresh m' x.o W hW hlen hsy hop
  obtain ⟨E, hE⟩ : ∃ E, rentE S x.o = E := ⟨_, rfl⟩
  rw [hE] at HO he ⊢
  have e0 : (E == 0) = false := by simpa using he
  obtain ⟨kind, s, ⟨id, owner, sym, side, okind, price, qty⟩, a, b, c, again⟩ := x
  simp only at hx
  subst hx
  simp only [RAct.val, RAct.cells, Ask.val] at HO ⊢
  have HS := hide h
  clear h hE he hop
  obtain ⟨p1, q1, b1, _⟩ := (unhide HS).starts #[.int .u8 101, .string s, .int .i64 id, .int .i64 owner, .string sym, .int .i64 side, .int .i64 okind, .int .i64 price, .int .i64 qty, .int .i64 a, .int .i64 b, .int .i64 c, .bool again]
  obtain ⟨W1, hW1⟩ : ∃ W1, W1 = (((w.setCell ⟨sb, 5, none⟩ (.slice none 0 0)).alloc (.cells #[.int .u8 101, .string s, .int .i64 id, .int .i64 owner, .string sym, .int .i64 side, .int .i64 okind, .int .i64 price, .int .i64 qty, .int .i64 a, .int .i64 b, .int .i64 c, .bool again] 169)).alloc (.cells zero5 87)) := ⟨_, rfl⟩
  rw [← hW1] at p1 q1 b1
  have HC := hide (unhide HO _ _ p1)
  have HN : Hid (StN base sb S.fresh m w W1) := StN.ofFresh (unhide HS) q1 (StN.refl p1)
  have HB := hide b1
  have HW1 := hide hW1
  simp only [zero5] at HW1
  clear p1 q1 b1 HO hW1
  go_enter Tryz.func138, Tryz.ntmps138
  go_wp2_with fail
  rw [← unhide HW1]
  refine (unhide HC).mono ?_
  rintro e w3 ⟨rfl, k3⟩
  have b3 := k3.blk (unhide HB) (fun x => x)
  have HN3 := hide ((unhide HN).ext k3)
  have z0 : w3.cell? ⟨w.heap.size + 1, 0, none⟩ = some (.int .i64 0) := b3.cell 0
  have z1 : w3.cell? ⟨w.heap.size + 1, 1, none⟩ = some (.int .i64 0) := b3.cell 1
  have z2 : w3.cell? ⟨w.heap.size + 1, 2, none⟩ = some (.int .i64 0) := b3.cell 2
  have z3 : w3.cell? ⟨w.heap.size + 1, 3, none⟩ = some (.int .i64 0) := b3.cell 3
  have z4 : w3.cell? ⟨w.heap.size + 1, 4, none⟩ = some (.int .i64 0) := b3.cell 4
  have fz0 := b3.frozen 0
  have fz1 := b3.frozen 1
  have fz2 := b3.frozen 2
  have fz3 := b3.frozen 3
  have fz4 := b3.frozen 4
  have HB3 := hide b3
  clear k3 b3
  go_wp2
  refine bodyPost_ret (res138 _ (w.heap.size + 1) _ 0 0 0 0 0 E rfl rfl ?_) rfl ⟨rfl, ?_⟩
  · exact set5 (unhide HB3) _ _ _ _ _
  · exact (unhide HN3).off (unhide HB3) (by omega) (chg5 _ _ _ _ _)

end Go.Proofs.YtigaphnafnpfnaaGreatDoor

set_option linter.unusedVariables false
set_option linter.unusedSimpArgs false
namespace Go.Proofs.YtigaphnafnpfnaaGreatDoor
open Go.RowKit
attribute [local go_sem ↓] Go.wp_at_zero Go.wp_at_succ

def Lvl.arr (b : Lvl) : Array Value := #[.int .i64 b.price, .int .i64 b.qty, .int .i64 b.num]

/-- in the inner loop -/
structure Bi (w : World) (H n bb : Nat) (S : RS) (m : SM) (ov : Value) (out : List Lvl) (b : Lvl) (wi : World) : Prop where
  best : Blk wi bb b.arr 93
  st : StV wi H H S m
  row : wi.ownsRow H 93 3 ov n (flat out)
  ne : ov.ownBlock ≠ some bb
  ge : H ≤ bb
  chg : Chg Non w wi

theorem Bi.ext {w wi wi' : World} {H n bb : Nat} {S : RS} {m : SM} {ov : Value} {out : List Lvl} {b : Lvl} (h : Bi w H n bb S m ov out b wi) (k : Chg Non wi wi') : Bi w H n bb S m ov out b wi' :=
  ⟨k.blk h.best (fun x => x), h.st.kept0 k, own_kept h.row k (fun _ _ x => x), h.ne, h.ge, h.chg.trans k⟩
theorem Bi.put {w wi wi' : World} {H n bb : Nat} {S : RS} {m : SM} {ov : Value} {out : List Lvl} {b b' : Lvl} (hH : w.heap.size ≤ H) (h : Bi w H n bb S m ov out b wi) (k : Chg (fun x => x = bb) wi wi') (hb : Blk wi' bb b'.arr 93) : Bi w H n bb S m ov out b' wi' := by
  have nb : ∀ x, SF H m x → ¬ x = bb := fun x hx e => by subst e; exact h.st.ne h.best (by decide) hx
  have hr' : ∀ {e size n : Nat} {v : Value} {xs : List Value}, wi.ownsRow H e size v n xs → (∀ b, v.ownBlock = some b → SF H m b) → wi'.ownsRow H e size v n xs := fun r hs => own_kept r k (fun b hb => nb b (hs b hb))
  refine ⟨hb, ⟨h.st.ge, k.blk h.st.blk (nb _ (.inl rfl)), hr' h.st.yrow (fun b hb => .inr (.inl hb)), hr' h.st.lrow (fun b hb => .inr (.inr (.inl hb))), hr' h.st.trow (fun b hb => .inr (.inr (.inr (.inl hb)))), hr' h.st.orow (fun b hb => .inr (.inr (.inr (.inr hb))))⟩, own_kept h.row k (fun x hx e => by subst e; exact h.ne hx), h.ne, h.ge, h.chg.from (k.mono (fun x hx => .inr (by have := h.ge; omega)))⟩

/-- the last level, where there is one -/
theorem last_ways {W : World} {base cap : Nat} {a : Option Addr} {v : Value} {out : List Lvl} (h : W.ownsRow base 93 3 v out.length (flat out)) (hv : v = .slice a out.length cap) : (out.length = 0 ∧ lastP out = none) ∨ ∃ k go q, k < out.length ∧ (out.length : Int) - 1 = (k : Int) ∧ a = some ⟨go, 0, none⟩ ∧ lastP out = some q ∧ ∀ W' : World, W'.ownsRow base 93 3 v out.length (flat out) → W'.cell? ⟨go, k * 3, none⟩ = some (.int .i64 q) ∧ go < W'.heap.size := by
  rcases List.eq_nil_or_concat out with rfl | ⟨ini, l, e⟩
  · left; exact ⟨rfl, rfl⟩
  · right
    rw [List.concat_eq_append] at e
    subst e
    subst hv
    have hl : (ini ++ [l]).length = ini.length + 1 := by simp
    obtain ⟨go, rfl, _⟩ := row_some h (by omega)
    refine ⟨ini.length, go, l.price, by omega, by omega, rfl, by simp [lastP], fun W' h' => ⟨?_, (h'.lt go rfl).2⟩⟩
    rw [h'.cellAt _ (by omega)]
    have := lvf_at (ini ++ [l]) ini.length 0 (by omega) (by omega)
    rw [show ini.length * 3 = 3 * ini.length + 0 by omega, this]
    simp [Lvl.cells]

theorem btr_ways (s : Int) (b : Lvl) (p : Int) : (btrB s b p = true ∧ b.num = 0) ∨ ((b.num == 0) = false ∧ (if s = 0 then decide (b.price < p) else decide (p < b.price)) = btrB s b p) := by
  unfold btrB
  by_cases h : b.num = 0
  · left; simp [h]
  · right; simp [h]

theorem lvAdd0 {o : Ord} {p on : Int} (h1 : o.price = p) (h2 : o.opn = on) : lvAdd ⟨o.price, 0, 0⟩ o = ⟨p, wrap64 on, 1⟩ := by
  unfold lvAdd
  rw [h1, h2, Int.zero_add]
  have e : wrap64 (0 + 1) = 1 := wrap64_id (by decide) (by decide)
  simp only
  rw [e]
theorem lvAddP {o : Ord} {p on : Int} (h2 : o.opn = on) : lvAdd ⟨p, 0, 0⟩ o = ⟨p, wrap64 on, 1⟩ := by
  unfold lvAdd
  rw [h2, Int.zero_add]
  have e : wrap64 (0 + 1) = 1 := wrap64_id (by decide) (by decide)
  simp only
  rw [e]
theorem lvAddE {b : Lvl} {o : Ord} {on : Int} (h2 : o.opn = on) : lvAdd b o = ⟨b.price, wrap64 (b.qty + on), wrap64 (b.num + 1)⟩ := by
  unfold lvAdd
  rw [h2]
theorem chgB5 {W : World} {r : Nat} (a b c d e : Value) : Chg (fun x => x = r) W (((((W.setCell ⟨r, 0, none⟩ a).setCell ⟨r, 1, none⟩ b).setCell ⟨r, 2, none⟩ c).setCell ⟨r, 1, none⟩ d).setCell ⟨r, 2, none⟩ e) :=
  (((((Chg.refl (fun x => x = r) W).setCell (p := ⟨r, 0, none⟩) (.inl rfl) _).setCell (p := ⟨r, 1, none⟩) (.inl rfl) _).setCell (p := ⟨r, 2, none⟩) (.inl rfl) _).setCell (p := ⟨r, 1, none⟩) (.inl rfl) _).setCell (p := ⟨r, 2, none⟩) (.inl rfl) _
theorem chgB2 {W : World} {r : Nat} (a b : Value) : Chg (fun x => x = r) W ((W.setCell ⟨r, 1, none⟩ a).setCell ⟨r, 2, none⟩ b) :=
  ((Chg.refl (fun x => x = r) W).setCell (p := ⟨r, 1, none⟩) (.inl rfl) _).setCell (p := ⟨r, 2, none⟩) (.inl rfl) _
theorem newsL (w : World) (b : Lvl) : ∀ j u, ([Value.int .i64 b.price, .int .i64 b.qty, .int .i64 b.num] : List Value)[j]? = some u → (w.alloc (.cells #[.int .i64 b.price, .int .i64 b.qty, .int .i64 b.num] 93)).cell? (Addr.add ⟨w.heap.size, 0, none⟩ j) = some u := by
  intro j u hj
  have hb := Blk.new w #[.int .i64 b.price, .int .i64 b.qty, .int .i64 b.num] 93
  match j, hj with
  | 0, hj => rw [← hj]; exact hb.cell 0
  | 1, hj => rw [← hj]; exact hb.cell 1
  | 2, hj => rw [← hj]; exact hb.cell 2
  | j + 3, hj => simp at hj

theorem Bi.chgG {w wi w4 : World} {n bb : Nat} {S : RS} {m : SM} {ov : Value} {out : List Lvl} {b : Lvl} {o : Obj} (h : Bi w w.heap.size n bb S m ov out b wi) (hg : (wi.alloc o).grownBy w4 ov.ownBlock) : Chg (fun x => ov.ownBlock = some x) wi w4 :=
  ((Chg.refl (fun x => ov.ownBlock = some x) wi).alloc o).grown hg (fun k e => .inl e)
theorem Bi.grown {w wi w4 : World} {n bb : Nat} {S : RS} {m : SM} {ov : Value} {out : List Lvl} {b : Lvl} {o : Obj} (h : Bi w w.heap.size n bb S m ov out b wi) (hg : (wi.alloc o).grownBy w4 ov.ownBlock) : StV w4 w.heap.size w.heap.size S m := by
  have k := h.chgG hg
  have nb : ∀ x, SF w.heap.size m x → ¬ ov.ownBlock = some x := fun x hx e => by
    obtain ⟨cs, hc⟩ := own_blk h.row e
    exact h.st.ne hc (by decide) hx
  have hr' : ∀ {e size n : Nat} {v : Value} {xs : List Value}, wi.ownsRow w.heap.size e size v n xs → (∀ b, v.ownBlock = some b → SF w.heap.size m b) → w4.ownsRow w.heap.size e size v n xs := fun r hs => own_kept r k (fun b hb => nb b (hs b hb))
  exact ⟨h.st.ge, k.blk h.st.blk (nb _ (.inl rfl)), hr' h.st.yrow (fun b hb => .inr (.inl hb)), hr' h.st.lrow (fun b hb => .inr (.inr (.inl hb))), hr' h.st.trow (fun b hb => .inr (.inr (.inr (.inl hb)))), hr' h.st.orow (fun b hb => .inr (.inr (.inr (.inr hb))))⟩
theorem Bi.grownK {w wi w4 : World} {n bb : Nat} {S : RS} {m : SM} {ov : Value} {out : List Lvl} {b : Lvl} {o : Obj} (h : Bi w w.heap.size n bb S m ov out b wi) (hg : (wi.alloc o).grownBy w4 ov.ownBlock) : Chg Non w w4 :=
  h.chg.from ((h.chgG hg).mono (fun x hx => .inr (h.row.lt x hx).1))

end Go.Proofs.YtigaphnafnpfnaaGreatDoor

set_option linter.unusedVariables false
set_option linter.unusedSimpArgs false
/- The document's Book: its refusals. -/
namespace Go.Proofs.YtigaphnafnpfnaaGreatDoor
open Go.RowKit
attribute [local go_sem ↓] Go.wp_at_zero Go.wp_at_succ

set_option maxRecDepth 100000 in
set_option maxHeartbeats 4000000 in
theorem rbook_unknown (base rb : Nat) (A : List RAct) (R : List Rc) (L : ByteArray) (av rv : Value) (S : RS) (sym : ByteArray) (s : Int) (w : World) (h : RV w base rb A R L av rv) (hh : Hist A S) (hn : A.length ≤ 1000000000) (hsy : S.sy.length ≤ 1000) (hth : symB S.sy sym = false) :
    Calls Tryz.prog 102 #[.pointer (some ⟨rb, 0, none⟩), .string sym, .int .i64 s] w fun e w' => e = .returned (.tuple #[.slice none 0 0, .int .i64 6]) ∧ Chg Non w w' := by
  have HST := hide (rstate_any base rb A R L av rv S w h hh hn)
  have HSY : Hid (∀ W m, StV W w.heap.size w.heap.size S m → Calls Tryz.prog 142 #[.pointer (some ⟨w.heap.size, 0, none⟩), .string sym] W fun e w' => e = .returned (.bool false) ∧ w' = W) := fun W m hW => by
    have := rsymbol_any _ _ S m sym W hW hsy
    rw [hth] at this
    exact this
  clear h hh hn hsy hth
  go_enter Tryz.func102, Tryz.ntmps102
  go_wp2_with fail
  refine (unhide HST).mono ?_
  rintro e w2 ⟨rfl, ⟨m, st⟩, k2⟩
  have HC := hide (unhide HSY w2 m st)
  have HK2 := hide k2
  clear st k2 HST HSY
  go_wp2_with fail
  refine (unhide HC).mono ?_
  rintro e w3 ⟨rfl, hw3⟩
  rw [hw3]
  clear hw3 w3 HC
  go_wp2
  go_ret2
  exact ⟨rfl, unhide HK2⟩

set_option maxRecDepth 100000 in
set_option maxHeartbeats 4000000 in
theorem rbook_range (base rb : Nat) (A : List RAct) (R : List Rc) (L : ByteArray) (av rv : Value) (S : RS) (sym : ByteArray) (s : Int) (w : World) (h : RV w base rb A R L av rv) (hh : Hist A S) (hn : A.length ≤ 1000000000) (hsy : S.sy.length ≤ 1000) (hth : symB S.sy sym = true) (hs : sideB s = false) :
    Calls Tryz.prog 102 #[.pointer (some ⟨rb, 0, none⟩), .string sym, .int .i64 s] w fun e w' => e = .returned (.tuple #[.slice none 0 0, .int .i64 4]) ∧ Chg Non w w' := by
  have HST := hide (rstate_any base rb A R L av rv S w h hh hn)
  have HSY : Hid (∀ W m, StV W w.heap.size w.heap.size S m → Calls Tryz.prog 142 #[.pointer (some ⟨w.heap.size, 0, none⟩), .string sym] W fun e w' => e = .returned (.bool true) ∧ w' = W) := fun W m hW => by
    have := rsymbol_any _ _ S m sym W hW hsy
    rw [hth] at this
    exact this
  unfold sideB at hs
  simp only [Bool.or_eq_false_iff] at hs
  obtain ⟨e0, e1⟩ := hs
  have n0 : (s != 0) = true := by simp [bne, e0]
  have n1 : (s != 1) = true := by simp [bne, e1]
  clear e0 e1
  clear h hh hn hsy hth
  go_enter Tryz.func102, Tryz.ntmps102
  go_wp2_with fail
  refine (unhide HST).mono ?_
  rintro e w2 ⟨rfl, ⟨m, st⟩, k2⟩
  have HC := hide (unhide HSY w2 m st)
  have HK2 := hide k2
  clear st k2 HST HSY
  go_wp2_with fail
  refine (unhide HC).mono ?_
  rintro e w3 ⟨rfl, hw3⟩
  rw [hw3]
  clear hw3 w3 HC
  go_wp2
  go_ret2
  exact ⟨rfl, unhide HK2⟩

end Go.Proofs.YtigaphnafnpfnaaGreatDoor

