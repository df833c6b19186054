import Derived.Test.YtigaphnafnpfnaaGreatDoorHP3
/- looks: the orders -/
set_option linter.unusedVariables false
set_option linter.unusedSimpArgs false
namespace Go.Proofs.YtigaphnafnpfnaaGreatDoor
open Go.RowKit Go.Maps
attribute [local go_sem ↓] Go.wp_at_zero Go.wp_at_succ

/-- the order of a number -/
def ob (V : Ven) (j : Nat) : Nat := (V.oid ((j : Int) + 1)).getD 0
def statL (o : Ord) : List Value := [.int .i64 o.id, .int .i64 o.owner, .string o.sym, .int .i64 o.side, .int .i64 o.kind, .int .i64 o.price, .int .i64 o.qty,
    .int .i64 o.entered, .int .i64 o.opn, .int .i64 o.filled, .int .i64 o.canc, .int .i64 o.exp]
def flatS (os : List Ord) : List Value := os.flatMap statL
def osOf (V : Ven) (n : Nat) : List Ord := (List.range n).map (fun j => V.om (ob V j))

theorem osOf_succ (V : Ven) (n : Nat) : osOf V (n + 1) = osOf V n ++ [V.om (ob V n)] := by simp [osOf, List.range_succ]
theorem flatS_snoc (os : List Ord) (o : Ord) : flatS (os ++ [o]) = flatS os ++ statL o := by simp [flatS, List.flatMap_append]

theorem GV.ob {V : Ven} {n : Nat} {M : Int} (h : GV V n M) {j : Nat} (hj : j < n) : V.oid ((j : Int) + 1) = some (ob V j) := by
  obtain ⟨b, hb⟩ := h.has (id := (j : Int) + 1) (by omega) (by omega)
  unfold YtigaphnafnpfnaaGreatDoor.ob
  rw [hb]; rfl

theorem info45 : (Tryz.prog.info? 54).map (fun i => (i.zero.map (fun z => z.cells.size), i.size, i.bytes)) = some (some 12, 12, 104) := by kernel_rfl
theorem info45_parts : ∃ i z, Tryz.prog.info? 54 = some i ∧ i.zero = some z ∧ i.size = 12 ∧ i.bytes = 104 ∧ z.cells.size = 12 := by
  have h := info45
  cases hi : Tryz.prog.info? 54 with
  | none => rw [hi] at h; simp at h
  | some i =>
    rw [hi] at h
    simp at h
    obtain ⟨⟨z, hz, hs⟩, h2, h3⟩ := h
    exact ⟨i, z, rfl, hz, h2, h3, hs⟩
theorem info73 : (Tryz.prog.info? 63).map (fun i => (i.zero, i.size, i.bytes)) = some (some (.slice none 0 0), 1, 24) := by kernel_rfl
theorem info73_parts : ∃ i, Tryz.prog.info? 63 = some i ∧ i.zero = some (.slice none 0 0) ∧ i.size = 1 ∧ i.bytes = 24 := by
  have h := info73
  cases hi : Tryz.prog.info? 63 with
  | none => rw [hi] at h; simp at h
  | some i => rw [hi] at h; simp at h; exact ⟨i, rfl, h.1, h.2.1, h.2.2⟩

theorem news12 (w : World) (o : Ord) : ∀ j u, (statL o)[j]? = some u → (w.alloc (.cells (statC o) 54)).cell? (Addr.add ⟨w.heap.size, 0, none⟩ j) = some u := by
  intro j u hj
  exact World.news_of_block (Blk.new w (statC o) 54) j u hj

theorem row_form {w : World} {base e size m : Nat} {v : Value} {xs : List Value} (h : w.ownsRow base e size v m xs) : ∃ va vc, v = .slice va m vc := by
  rcases h.2 with ⟨h, h0⟩ | ⟨g, cap, cs, h, _⟩
  · exact ⟨none, 0, by rw [h, h0]⟩
  · exact ⟨_, cap, h⟩

theorem row_ge {w : World} {base e size m : Nat} {v : Value} {xs : List Value} (h : w.ownsRow base e size v m xs) {k : Nat} (hk : v.ownBlock = some k) : base ≤ k := by
  rcases h.2 with ⟨h, _⟩ | ⟨g, cap, cs, h, hg, _⟩
  · rw [h] at hk; simp [Value.ownBlock] at hk
  · rw [h] at hk; simp only [Value.ownBlock, Option.some.injEq] at hk; omega

def zero3 : Array Value := #[.slice none 0 0, .slice none 0 0, .slice none 0 0]

/-- what has been looked at -/
structure Lk (V : Ven) (i : Nat) (w : World) (wr : World) (ov : Value) : Prop where
  row : wr.ownsRow w.heap.size 54 12 ov i (flatS (osOf V i))
  out : Blk wr (w.heap.size + 1) #[ov, .slice none 0 0, .slice none 0 0] 47
  res : Blk wr w.heap.size zero3 47
  chg : Chg Non w wr

/-- the levels of one of the four sides -/
def BkOK (V : Ven) (n₀ : Nat) (wr : World) (k : Nat) (v : Value) : Prop :=
  ∃ ys, SortYs V.om ((V.B (k / 2)).n (k % 2)) ((V.B (k / 2)).h (k % 2)) ys ∧ LevV n₀ wr v (levelsOf (ordsOf V.om ys))

theorem LevV.kept {n₀ : Nat} {w w' : World} {v : Value} {ls : List Lvl} (h : LevV n₀ w v ls) {S : Nat → Prop} (k : Chg S w w') (hS : ∀ b c, Blk w b c 93 → ¬ S b) : LevV n₀ w' v ls := by
  rcases h with h | ⟨g, cap, cs, e, h1, h2, h3⟩
  · exact .inl h
  · exact .inr ⟨g, cap, cs, e, h1, k.blk h2 (hS g cs h2), h3⟩

theorem LevV.form {n₀ : Nat} {w : World} {v : Value} {ls : List Lvl} (h : LevV n₀ w v ls) : ∃ va vc, v = .slice va ls.length vc := by
  rcases h with ⟨h, h0⟩ | ⟨g, cap, cs, e, _⟩
  · exact ⟨none, 0, by rw [h, h0]; rfl⟩
  · exact ⟨_, cap, e⟩

theorem ven_book (bv bm bo n k n₀ : Nat) (V : Ven) (M : Int) (W : World) (R : Rep W bv bm bo V) (h : GV V n M) (hk : k < 4) (hn₀ : n₀ ≤ W.heap.size) :
    Calls Tryz.prog 25 #[.pointer (some ⟨bv, 0, none⟩), .string (symN (k / 2)), .int .i64 ((k % 2 : Nat) : Int)] W fun e w' => ∃ va m vc, e = .returned (.tuple #[.slice va m vc, .int .i64 0]) ∧ BkOK V n₀ w' k (.slice va m vc) ∧ Chg Non W w' := by
  have hi : k / 2 < 2 := by omega
  have hs : k % 2 < 2 := by omega
  have hi' : k / 2 < V.nb := by rw [h.nb]; exact hi
  have hb := book_ok bv bm bo (k / 2) (k % 2) V W R hi' hs (by rw [(h.gb _ hi).bsym]; exact symN_size _) (fun j hj => (h.gb _ hi).side hs hj)
  rw [(h.gb _ hi).bsym] at hb
  refine hb.mono ?_
  rintro e w' ⟨v, rfl, ys, hy, hl, hbel⟩
  obtain ⟨va, vc, rfl⟩ := hl.form
  exact ⟨va, _, vc, rfl, ⟨ys, hy, hl.base hn₀⟩, Chg.of_below hbel⟩

/-- orders and some books have been looked at -/
structure Lk2 (V : Ven) (n j : Nat) (w : World) (wr : World) (ov kv : Value) (vs : List Value) : Prop where
  row : wr.ownsRow w.heap.size 54 12 ov n (flatS (osOf V n))
  brow : wr.ownsRow w.heap.size 63 1 kv j vs
  bks : ∀ k v, vs[k]? = some v → BkOK V w.heap.size wr k v
  out : Blk wr (w.heap.size + 1) #[ov, kv, .slice none 0 0] 47
  res : Blk wr w.heap.size zero3 47
  chg : Chg Non w wr

theorem news1 (w : World) (v : Value) (t : TypeId) : ∀ j u, ([v] : List Value)[j]? = some u → (w.alloc (.cells #[v] t)).cell? (Addr.add ⟨w.heap.size, 0, none⟩ j) = some u := by
  intro j u hj
  exact World.news_of_block (Blk.new w #[v] t) j u hj

theorem lk2_next {V : Ven} {n j : Nat} {w wr w2 : World} {ov kv : Value} {vs : List Value} {v : Value} (h : Lk2 V n j w wr ov kv vs) (kk : Chg Non wr w2) (hb : BkOK V w.heap.size w2 j v) {j' : Nat} (hj' : j' = j + 1) :
    ∀ (o : Obj) (w4 : World) (g' cap' : Nat), w4.ownsRow w.heap.size 63 1 (.slice (some ⟨g', 0, none⟩) j' cap') j' (vs ++ [v]) → (w2.alloc o).grownBy w4 kv.ownBlock → Lk2 V n j' w (w4.setCell ⟨w.heap.size + 1, 1, none⟩ (.slice (some ⟨g', 0, none⟩) j' cap')) ov (.slice (some ⟨g', 0, none⟩) j' cap') (vs ++ [v]) := by
  intro o w4 g' cap' hown hgrow
  have out2 := kk.blk h.out (fun x => x)
  have res2 := kk.blk h.res (fun x => x)
  have row2 := own_kept h.row kk (fun _ _ x => x)
  have brow2 := own_kept h.brow kk (fun _ _ x => x)
  have k4 : Chg (fun b => kv.ownBlock = some b) w2 w4 := ((Chg.refl (fun b => kv.ownBlock = some b) w2).alloc o).grown hgrow (fun k e => .inl e)
  have b4 := k4.blk out2 (fun e => own_ne brow2 e out2 (by decide) rfl)
  have r4 := k4.blk res2 (fun e => own_ne brow2 e res2 (by decide) rfl)
  have k5 : Chg (fun b => b = w.heap.size + 1) w4 (w4.setCell ⟨w.heap.size + 1, 1, none⟩ (.slice (some ⟨g', 0, none⟩) j' cap')) := (Chg.refl (fun b => b = w.heap.size + 1) w4).setCell (p := ⟨w.heap.size + 1, 1, none⟩) (.inl rfl) _
  have hlen : vs.length = j := by have := h.brow.1; omega
  have lev : ∀ {x ls}, LevV w.heap.size w2 x ls → LevV w.heap.size (w4.setCell ⟨w.heap.size + 1, 1, none⟩ (.slice (some ⟨g', 0, none⟩) j' cap')) x ls := fun hl =>
    (hl.kept k4 (fun b c hb e => own_ne brow2 e hb (by decide) rfl)).kept k5 (fun b c hb e => by rw [e] at hb; exact Blk.ne hb b4 (by decide) rfl)
  refine ⟨?_, own_kept hown k5 (fun b hb e => own_ne hown hb b4 (by decide) e), fun k x hx => ?_, b4.set 1 _, k5.blk r4 (by omega), ?_⟩
  · refine own_kept (own_kept row2 k4 (fun b hb e => ?_)) k5 (fun b hb e => ?_)
    · obtain ⟨cs, hc⟩ := own_blk row2 hb
      exact own_ne brow2 e hc (by decide) rfl
    · obtain ⟨cs, hc⟩ := own_blk row2 hb
      rw [e] at hc
      exact Blk.ne hc out2 (by decide) rfl
  · by_cases e : k < vs.length
    · rw [List.getElem?_append_left e] at hx
      obtain ⟨ys, hy, hl⟩ := h.bks k x hx
      exact ⟨ys, hy, lev (hl.kept kk (fun _ _ _ x => x))⟩
    · rw [List.getElem?_append_right (by omega)] at hx
      have e0 : k - vs.length = 0 := by
        rcases Nat.eq_zero_or_pos (k - vs.length) with e0 | e0
        · exact e0
        · rw [List.getElem?_eq_none (by simp; omega)] at hx; simp at hx
      rw [e0] at hx
      simp at hx
      subst hx
      obtain rfl : k = j := by omega
      obtain ⟨ys, hy, hl⟩ := hb
      exact ⟨ys, hy, lev hl⟩
  · refine ((h.chg.trans kk).from (k4.mono (fun b e => .inr (row_ge brow2 e)))).from (k5.mono (fun b e => .inr (by omega)))

theorem res18 (tmps : Array Value) (H : Nat) (w : World) (a b c : Value) (ht : tmps.getD 2 undef = .pointer (some ⟨H, 0, none⟩)) (hu : tmps.getD 3 undef = .bool true) (hb : Blk w H #[a, b, c] 47) :
    (results Tryz.f21 tmps).run Tryz.prog w = .ok (.tuple #[.agg #[a, b, c], .bool true]) w := by
  have c0 : w.cell? ⟨H, 0, none⟩ = some a := hb.cell 0
  have c1 : w.cell? ⟨H, 1, none⟩ = some b := hb.cell 1
  have c2 : w.cell? ⟨H, 2, none⟩ = some c := hb.cell 2
  simp only [Array.getD_eq_getD_getElem?] at ht hu
  simp [results, Tryz.results21, go_sem, ht, hu, c0, c1, c2]

theorem lk2_end {V : Ven} {n j : Nat} {w wr w2 : World} {ov kv : Value} {vs : List Value} (h : Lk2 V n j w wr ov kv vs) (kk : Chg Non wr w2) (t a b c d : Value) :
    (((((w2.setCell ⟨w.heap.size + 1, 2, none⟩ t).setCell ⟨w.heap.size, 0, none⟩ a).setCell ⟨w.heap.size, 1, none⟩ b).setCell ⟨w.heap.size, 2, none⟩ c)).ownsRow w.heap.size 54 12 ov n (flatS (osOf V n)) ∧ (((((w2.setCell ⟨w.heap.size + 1, 2, none⟩ t).setCell ⟨w.heap.size, 0, none⟩ a).setCell ⟨w.heap.size, 1, none⟩ b).setCell ⟨w.heap.size, 2, none⟩ c)).ownsRow w.heap.size 63 1 kv j vs ∧
      (∀ k v, vs[k]? = some v → BkOK V w.heap.size (((((w2.setCell ⟨w.heap.size + 1, 2, none⟩ t).setCell ⟨w.heap.size, 0, none⟩ a).setCell ⟨w.heap.size, 1, none⟩ b).setCell ⟨w.heap.size, 2, none⟩ c)) k v) ∧ Chg Non w (((((w2.setCell ⟨w.heap.size + 1, 2, none⟩ t).setCell ⟨w.heap.size, 0, none⟩ a).setCell ⟨w.heap.size, 1, none⟩ b).setCell ⟨w.heap.size, 2, none⟩ c)) := by
  have out2 := kk.blk h.out (fun x => x)
  have res2 := kk.blk h.res (fun x => x)
  have k5 : Chg (fun x => x = w.heap.size + 1 ∨ x = w.heap.size) w2 ((((w2.setCell ⟨w.heap.size + 1, 2, none⟩ t).setCell ⟨w.heap.size, 0, none⟩ a).setCell ⟨w.heap.size, 1, none⟩ b).setCell ⟨w.heap.size, 2, none⟩ c) :=
    ((((Chg.refl _ w2).setCell (p := ⟨w.heap.size + 1, 2, none⟩) (.inl (.inl rfl)) _).setCell (p := ⟨w.heap.size, 0, none⟩) (.inl (.inr rfl)) _).setCell (p := ⟨w.heap.size, 1, none⟩) (.inl (.inr rfl)) _).setCell (p := ⟨w.heap.size, 2, none⟩) (.inl (.inr rfl)) _
  have no : ∀ {x c t}, Blk w2 x c t → t ≠ 47 → ¬ (x = w.heap.size + 1 ∨ x = w.heap.size) := by
    rintro x c t hb ht (e | e)
    · rw [e] at hb; exact Blk.ne hb out2 ht rfl
    · rw [e] at hb; exact Blk.ne hb res2 ht rfl
  refine ⟨own_kept (own_kept h.row kk (fun _ _ x => x)) k5 (fun b hb => ?_), own_kept (own_kept h.brow kk (fun _ _ x => x)) k5 (fun b hb => ?_), fun k v hv => ?_, ?_⟩
  · obtain ⟨cs, hc⟩ := own_blk (own_kept h.row kk (fun _ _ x => x)) hb
    exact no hc (by decide)
  · obtain ⟨cs, hc⟩ := own_blk (own_kept h.brow kk (fun _ _ x => x)) hb
    exact no hc (by decide)
  · obtain ⟨ys, hy, hl⟩ := h.bks k v hv
    exact ⟨ys, hy, (hl.kept kk (fun _ _ _ x => x)).kept k5 (fun b c hb => no hb (by decide))⟩
  · exact (h.chg.trans kk).from (k5.mono (fun x e => .inr (by rcases e with e | e <;> omega)))

set_option maxHeartbeats 4000000 in
set_option maxRecDepth 100000 in
theorem looks_any (bv bm bo P n : Nat) (V : Ven) (M acts : Int) (w : World) (R : Rep w bv bm bo V) (h : GV V n M) (hn : n ≤ 100) (hK : LenOK V 500000) (hP : Blk w P #[.pointer (some ⟨bv, 0, none⟩), .int .i64 n, .int .i64 acts] 37) :
    Calls Tryz.prog 21 #[.pointer (some ⟨P, 0, none⟩)] w fun e w' => ∃ oa oc ka kc ta tn tc vs, e = .returned (.tuple #[.agg #[.slice oa n oc, .slice ka 4 kc, .slice ta tn tc], .bool true]) ∧ w'.ownsRow w.heap.size 54 12 (.slice oa n oc) n (flatS (osOf V n)) ∧ w'.ownsRow w.heap.size 63 1 (.slice ka 4 kc) 4 vs ∧ (∀ k v, vs[k]? = some v → BkOK V w.heap.size w' k v) ∧ Chg Non w w' := by
  have HSt := hide (fun (W : World) (k : Chg Non w W) (j : Nat) (hj : j < n) => ven_status bv bm bo n V M ((j : Int) + 1) W (R.kept0 k) h (by omega) (by omega) (by omega))
  have HBk := hide (fun (W : World) (k : Chg Non w W) (j : Nat) (hj : j < 4) => ven_book bv bm bo n j w.heap.size V M W (R.kept0 k) h hj k.size)
  have HOb := hide (fun (j : Nat) (hj : j < n) => h.ob hj)
  have lP := hP.lt
  have HPb := hide hP
  have HR := hide R
  have HG := hide h
  clear R h hP
  go_enter Tryz.func21, Tryz.ntmps21
  go_wp2
  go_loopg [5, 6, 7] n (fun k idv _ _ wr => ∃ (i : Nat) (ov : Value), idv = .int .i64 ((i : Int) + 1) ∧ i ≤ n ∧ k = n - i ∧ Lk V i w wr ov)
  case atStart =>
    refine ⟨0, .slice none 0 0, rfl, Nat.zero_le _, rfl, World.ownsRow_nil _ _ _ _, ?_, ?_, ?_⟩
    · exact Blk.new1 w _ _ _
    · exact (Blk.new w _ _).alloc _
    · exact ((Chg.refl Non w).alloc _).alloc _
  case round =>
    obtain ⟨i, ov, rfl, hi, hgk, lk⟩ := hrel
    have hPr := lk.chg.blk (unhide HPb) (fun x => x)
    have p1 : wr.cell? ⟨P, 1, none⟩ = some (.int .i64 (n : Int)) := hPr.cell 1
    have p0 : wr.cell? ⟨P, 0, none⟩ = some (.pointer (some ⟨bv, 0, none⟩)) := hPr.cell 0
    by_cases hlt : i < n
    · have hS := hide (unhide HSt wr lk.chg i hlt)
      have hO := unhide HOb i hlt
      obtain ⟨va, vc, rfl⟩ := row_form lk.row
      have e1 : decide ((i : Int) + 1 ≤ (n : Int)) = true := by simp; omega
      have HL := hide lk
      have HO := hide hO
      clear lk hO hPr
      go_wp2_with fail
      refine (unhide hS).mono ?_
      rintro e w2 ⟨b, hb, rfl, k2⟩
      have hbb : b = ob V i := by rw [unhide HO] at hb; exact (Option.some.inj hb).symm
      subst hbb
      have row2 := own_kept (unhide HL).row k2 (fun _ _ x => x)
      have out2 := k2.blk (unhide HL).out (fun x => x)
      have res2 := k2.blk (unhide HL).res (fun x => x)
      have kk2 := (unhide HL).chg.trans k2
      have lt1 : w.heap.size + 1 < w2.heap.size := out2.lt
      have o2 : w2.cell? ⟨w.heap.size + 1, 0, none⟩ = some (.slice va i vc) := out2.cell 0
      have hmx : i + 1 ≤ maxLen := by unfold maxLen; omega
      have hm24 : (i + 1) * 104 ≤ 140737488355328 := by omega
      obtain ⟨i0, z0, hi0, hz0, hz1, hz2, hz3⟩ := info45_parts
      have hone : ∀ u ∈ statL (V.om (ob V i)), u.oneCell' = true := by simp [statL, Value.oneCell']
      have hnews : ∀ j u, (statL (V.om (ob V i)))[j]? = some u → ((w2.alloc (.cells (statC (V.om (ob V i))) 54)).alloc (.cells (statC (V.om (ob V i))) 54)).cell? (Addr.add ⟨w2.heap.size + 1, 0, none⟩ j) = some u := by
        intro j u hj
        have := news12 (w2.alloc (.cells (statC (V.om (ob V i))) 54)) (V.om (ob V i)) j u hj
        have e : (w2.alloc (.cells (statC (V.om (ob V i))) 54)).heap.size = w2.heap.size + 1 := by simp
        rw [e] at this
        exact this
      have row3 := (row2.alloc (.cells (statC (V.om (ob V i))) 54)).alloc (.cells (statC (V.om (ob V i))) 54)
      have HR3 := hide row3
      have HNW := hide hnews
      have HO2 := hide out2
      have HRes2 := hide res2
      have HK2 := hide kk2
      have HRow2 := hide row2
      clear row2 out2 res2 kk2 row3 hnews k2 p1 p0 hS HL HO hb
      have hne5 : ∀ (W : World) (v : Value) (c : Array Value) (xs : List Value) (m : Nat), W.ownsRow w.heap.size 54 12 v m xs → Blk W (w.heap.size + 1) c 47 → v.ownBlock ≠ some (w.heap.size + 1) := fun W v c xs m hr hb e => own_ne hr e hb (by decide) rfl
      have HNE := hide hne5
      clear hne5
      simp only [statC] at HR3 HNW ⊢
      go_wp2_with (at_builtin; refine wpList_append_own _ rfl _ _ 44 rfl w.heap.size 54 i0 z0 12 104 Tryz.underlying44 hi0 hz0 hz1 hz2 hz3 (by decide) _ i _ rfl (unhide HR3) ⟨w2.heap.size + 1, 0, none⟩ 1 1 (statL (V.om (ob V i))) rfl rfl (unhide HNW) hone hmx hm24 (by simp; omega) ?_; intro v' w4 hown' hgrow hnil; clear hnil; obtain ⟨g', cap', rfl⟩ := own_pos hown' (by omega); change ((w2.alloc _).alloc _).grownBy w4 (Value.slice va i vc).ownBlock at hgrow; have b4 : Blk w4 (w.heap.size + 1) #[.slice va i vc, .slice none 0 0, .slice none 0 0] 47 := (hgrow.block (w.heap.size + 1) (by simp; omega) (fun e => unhide HNE _ _ _ _ _ (unhide HRow2) (unhide HO2) e.symm)).trans (((unhide HO2).alloc _).alloc _); have r4 : Blk w4 w.heap.size zero3 47 := (hgrow.block w.heap.size (by simp; omega) (fun e => own_ne (unhide HRow2) e.symm (unhide HRes2) (by decide) rfl)).trans (((unhide HRes2).alloc _).alloc _); have c4 := b4.cell 0; have f4 := b4.frozen 0; simp at c4; have HB4 := hide b4; have HR4 := hide r4; have HG4 := hide hgrow; have HOw := hide hown'; clear b4 r4 hgrow hown')
      go_wp2
      go_roundg (n - (i + 1))
      case measure => omega
      case rel =>
        refine ⟨i + 1, .slice (some ⟨g', 0, none⟩) (i + 1) cap', by push_cast; rfl, by omega, rfl, ⟨?_, ?_, ?_, ?_⟩⟩
        · rw [osOf_succ, flatS_snoc]
          refine own_kept (unhide HOw) ((Chg.refl (fun b => b = w.heap.size + 1) w4).setCell (p := ⟨w.heap.size + 1, 0, none⟩) (.inl rfl) _) (fun b hb e => ?_)
          rw [e] at hb
          exact unhide HNE _ _ _ _ _ (unhide HOw) (unhide HB4) hb
        · exact (unhide HB4).set 0 _
        · exact (unhide HR4).other (by simp) _
        · exact (((((unhide HK2).alloc _).alloc _).grown (unhide HG4) (fun k e => .inr (row_ge (unhide HRow2) e))).setCell (p := ⟨w.heap.size + 1, 0, none⟩) (.inr (by simp)) _)
    · obtain rfl : i = n := by omega
      obtain ⟨va, vc, rfl⟩ := row_form lk.row
      have e1 : decide ((i : Int) + 1 ≤ (i : Int)) = false := by simp; omega
      have HL := hide lk
      clear lk
      go_wp2
      go_loopg [8, 9, 10] 4 (fun kk iv _ _ wq => ∃ (j : Nat) (kv : Value) (vs : List Value), iv = .int .i64 (j : Int) ∧ j ≤ 4 ∧ kk = 4 - j ∧ Lk2 V i j w wq (.slice va i vc) kv vs)
      case atStart => exact ⟨0, .slice none 0 0, [], rfl, Nat.zero_le _, rfl, (unhide HL).row, World.ownsRow_nil _ _ _ _, by simp, (unhide HL).out, (unhide HL).res, (unhide HL).chg⟩
      case round =>
        obtain ⟨j, kv, vs, rfl, hj, hgk2, lk2⟩ := hrel
        obtain ⟨ka, kc, rfl⟩ := row_form lk2.brow
        have hPr2 := lk2.chg.blk (unhide HPb) (fun x => x)
        have p02 : wr.cell? ⟨P, 0, none⟩ = some (.pointer (some ⟨bv, 0, none⟩)) := hPr2.cell 0
        by_cases hj4 : j < 4
        · have hj0 : j = 0 ∨ j = 1 ∨ j = 2 ∨ j = 3 := by omega
          rcases hj0 with rfl | rfl | rfl | rfl
          · have HBc : Hid (∀ W, Chg Non wr W → Calls Tryz.prog 25 #[.pointer (some ⟨bv, 0, none⟩), .string ⟨#[65]⟩, .int .i64 0] W fun e w' => ∃ xa m xc, e = .returned (.tuple #[.slice xa m xc, .int .i64 0]) ∧ BkOK V w.heap.size w' 0 (.slice xa m xc) ∧ Chg Non W w') := fun W k => unhide HBk W (lk2.chg.trans k) 0 (by omega)
            have HL2 := hide lk2
            have lPr : P < wr.heap.size := hPr2.lt
            clear lk2 hPr2
            go_wp2
            go_region_with (go_at_call 25; refine (unhide HBc _ (by repeat (first | exact Chg.refl _ _ | refine Chg.drew ?_ | refine Chg.alloc ?_ _))).mono ?_; rintro e w2 ⟨xa, xm, xc, rfl, hbk, k2⟩)
            all_goals
              have kk : Chg Non wr w2 := Chg.trans (by repeat (first | exact Chg.refl _ _ | refine Chg.drew ?_ | refine Chg.alloc ?_ _)) k2
              have HLk := hide (lk2_next (unhide HL2) kk hbk rfl)
              have lt1 : w.heap.size + 1 < w2.heap.size := (kk.blk (unhide HL2).out (fun x => x)).lt
              have o1 : w2.cell? ⟨w.heap.size + 1, 1, none⟩ = some (.slice ka 0 kc) := (kk.blk (unhide HL2).out (fun x => x)).cell 1
              have HR3 := hide ((own_kept (unhide HL2).brow kk (fun _ _ x => x)).alloc (.cells #[.slice xa xm xc] 63))
              have hbs : w.heap.size ≤ w2.heap.size + 1 := by omega
              obtain ⟨i0, hi0, hz0, hz1, hz2⟩ := info73_parts
              have HB2 := hide (kk.blk (unhide HL2).out (fun x => x))
              have HBr2 := hide (own_kept (unhide HL2).brow kk (fun _ _ x => x))
              have HNW := hide (news1 w2 (.slice xa xm xc) 63)
              clear k2 kk hbk p02 HBc HL2
              go_wp2_with (at_builtin; refine wpList_append_own _ rfl _ _ 45 rfl w.heap.size 63 i0 (.slice none 0 0) 1 24 Tryz.underlying45 hi0 hz0 hz1 hz2 rfl (by decide) _ 0 vs rfl (unhide HR3) ⟨w2.heap.size, 0, none⟩ 1 1 [.slice xa xm xc] rfl rfl (unhide HNW) (by simp [Value.oneCell']) (by decide) (by decide) (by simp; omega) ?_; intro v' w4 hown' hgrow hnil; clear hnil; obtain ⟨g', cap', rfl⟩ := own_pos hown' (by omega); change (w2.alloc _).grownBy w4 (Value.slice ka 0 kc).ownBlock at hgrow; have b4 : Blk w4 (w.heap.size + 1) #[.slice va i vc, .slice ka 0 kc, .slice none 0 0] 47 := (hgrow.block (w.heap.size + 1) (by simp; omega) (fun e => own_ne (unhide HBr2) e.symm (unhide HB2) (by decide) rfl)).trans ((unhide HB2).alloc _); have c4 := b4.cell 1; have f4 := b4.frozen 1; simp at c4; have HG4 := hide hgrow; have HOw := hide hown'; clear b4 hgrow hown')
              go_wp2
              go_roundg (4 - (0 + 1))
              case measure => omega
              case rel => exact ⟨0 + 1, .slice (some ⟨g', 0, none⟩) (0 + 1) cap', _, rfl, by omega, rfl, unhide HLk _ _ _ _ (unhide HOw) (unhide HG4)⟩
          · have HBc : Hid (∀ W, Chg Non wr W → Calls Tryz.prog 25 #[.pointer (some ⟨bv, 0, none⟩), .string ⟨#[65]⟩, .int .i64 1] W fun e w' => ∃ xa m xc, e = .returned (.tuple #[.slice xa m xc, .int .i64 0]) ∧ BkOK V w.heap.size w' 1 (.slice xa m xc) ∧ Chg Non W w') := fun W k => unhide HBk W (lk2.chg.trans k) 1 (by omega)
            have HL2 := hide lk2
            have lPr : P < wr.heap.size := hPr2.lt
            clear lk2 hPr2
            go_wp2
            go_region_with (go_at_call 25; refine (unhide HBc _ (by repeat (first | exact Chg.refl _ _ | refine Chg.drew ?_ | refine Chg.alloc ?_ _))).mono ?_; rintro e w2 ⟨xa, xm, xc, rfl, hbk, k2⟩)
            all_goals
              have kk : Chg Non wr w2 := Chg.trans (by repeat (first | exact Chg.refl _ _ | refine Chg.drew ?_ | refine Chg.alloc ?_ _)) k2
              have HLk := hide (lk2_next (unhide HL2) kk hbk rfl)
              have lt1 : w.heap.size + 1 < w2.heap.size := (kk.blk (unhide HL2).out (fun x => x)).lt
              have o1 : w2.cell? ⟨w.heap.size + 1, 1, none⟩ = some (.slice ka 1 kc) := (kk.blk (unhide HL2).out (fun x => x)).cell 1
              have HR3 := hide ((own_kept (unhide HL2).brow kk (fun _ _ x => x)).alloc (.cells #[.slice xa xm xc] 63))
              have hbs : w.heap.size ≤ w2.heap.size + 1 := by omega
              obtain ⟨i0, hi0, hz0, hz1, hz2⟩ := info73_parts
              have HB2 := hide (kk.blk (unhide HL2).out (fun x => x))
              have HBr2 := hide (own_kept (unhide HL2).brow kk (fun _ _ x => x))
              have HNW := hide (news1 w2 (.slice xa xm xc) 63)
              clear k2 kk hbk p02 HBc HL2
              go_wp2_with (at_builtin; refine wpList_append_own _ rfl _ _ 45 rfl w.heap.size 63 i0 (.slice none 0 0) 1 24 Tryz.underlying45 hi0 hz0 hz1 hz2 rfl (by decide) _ 1 vs rfl (unhide HR3) ⟨w2.heap.size, 0, none⟩ 1 1 [.slice xa xm xc] rfl rfl (unhide HNW) (by simp [Value.oneCell']) (by decide) (by decide) (by simp; omega) ?_; intro v' w4 hown' hgrow hnil; clear hnil; obtain ⟨g', cap', rfl⟩ := own_pos hown' (by omega); change (w2.alloc _).grownBy w4 (Value.slice ka 1 kc).ownBlock at hgrow; have b4 : Blk w4 (w.heap.size + 1) #[.slice va i vc, .slice ka 1 kc, .slice none 0 0] 47 := (hgrow.block (w.heap.size + 1) (by simp; omega) (fun e => own_ne (unhide HBr2) e.symm (unhide HB2) (by decide) rfl)).trans ((unhide HB2).alloc _); have c4 := b4.cell 1; have f4 := b4.frozen 1; simp at c4; have HG4 := hide hgrow; have HOw := hide hown'; clear b4 hgrow hown')
              go_wp2
              go_roundg (4 - (1 + 1))
              case measure => omega
              case rel => exact ⟨1 + 1, .slice (some ⟨g', 0, none⟩) (1 + 1) cap', _, rfl, by omega, rfl, unhide HLk _ _ _ _ (unhide HOw) (unhide HG4)⟩
          · have HBc : Hid (∀ W, Chg Non wr W → Calls Tryz.prog 25 #[.pointer (some ⟨bv, 0, none⟩), .string ⟨#[206, 145, 206, 169]⟩, .int .i64 0] W fun e w' => ∃ xa m xc, e = .returned (.tuple #[.slice xa m xc, .int .i64 0]) ∧ BkOK V w.heap.size w' 2 (.slice xa m xc) ∧ Chg Non W w') := fun W k => unhide HBk W (lk2.chg.trans k) 2 (by omega)
            have HL2 := hide lk2
            have lPr : P < wr.heap.size := hPr2.lt
            clear lk2 hPr2
            go_wp2
            go_region_with (go_at_call 25; refine (unhide HBc _ (by repeat (first | exact Chg.refl _ _ | refine Chg.drew ?_ | refine Chg.alloc ?_ _))).mono ?_; rintro e w2 ⟨xa, xm, xc, rfl, hbk, k2⟩)
            all_goals
              have kk : Chg Non wr w2 := Chg.trans (by repeat (first | exact Chg.refl _ _ | refine Chg.drew ?_ | refine Chg.alloc ?_ _)) k2
              have HLk := hide (lk2_next (unhide HL2) kk hbk rfl)
              have lt1 : w.heap.size + 1 < w2.heap.size := (kk.blk (unhide HL2).out (fun x => x)).lt
              have o1 : w2.cell? ⟨w.heap.size + 1, 1, none⟩ = some (.slice ka 2 kc) := (kk.blk (unhide HL2).out (fun x => x)).cell 1
              have HR3 := hide ((own_kept (unhide HL2).brow kk (fun _ _ x => x)).alloc (.cells #[.slice xa xm xc] 63))
              have hbs : w.heap.size ≤ w2.heap.size + 1 := by omega
              obtain ⟨i0, hi0, hz0, hz1, hz2⟩ := info73_parts
              have HB2 := hide (kk.blk (unhide HL2).out (fun x => x))
              have HBr2 := hide (own_kept (unhide HL2).brow kk (fun _ _ x => x))
              have HNW := hide (news1 w2 (.slice xa xm xc) 63)
              clear k2 kk hbk p02 HBc HL2
              go_wp2_with (at_builtin; refine wpList_append_own _ rfl _ _ 45 rfl w.heap.size 63 i0 (.slice none 0 0) 1 24 Tryz.underlying45 hi0 hz0 hz1 hz2 rfl (by decide) _ 2 vs rfl (unhide HR3) ⟨w2.heap.size, 0, none⟩ 1 1 [.slice xa xm xc] rfl rfl (unhide HNW) (by simp [Value.oneCell']) (by decide) (by decide) (by simp; omega) ?_; intro v' w4 hown' hgrow hnil; clear hnil; obtain ⟨g', cap', rfl⟩ := own_pos hown' (by omega); change (w2.alloc _).grownBy w4 (Value.slice ka 2 kc).ownBlock at hgrow; have b4 : Blk w4 (w.heap.size + 1) #[.slice va i vc, .slice ka 2 kc, .slice none 0 0] 47 := (hgrow.block (w.heap.size + 1) (by simp; omega) (fun e => own_ne (unhide HBr2) e.symm (unhide HB2) (by decide) rfl)).trans ((unhide HB2).alloc _); have c4 := b4.cell 1; have f4 := b4.frozen 1; simp at c4; have HG4 := hide hgrow; have HOw := hide hown'; clear b4 hgrow hown')
              go_wp2
              go_roundg (4 - (2 + 1))
              case measure => omega
              case rel => exact ⟨2 + 1, .slice (some ⟨g', 0, none⟩) (2 + 1) cap', _, rfl, by omega, rfl, unhide HLk _ _ _ _ (unhide HOw) (unhide HG4)⟩
          · have HBc : Hid (∀ W, Chg Non wr W → Calls Tryz.prog 25 #[.pointer (some ⟨bv, 0, none⟩), .string ⟨#[206, 145, 206, 169]⟩, .int .i64 1] W fun e w' => ∃ xa m xc, e = .returned (.tuple #[.slice xa m xc, .int .i64 0]) ∧ BkOK V w.heap.size w' 3 (.slice xa m xc) ∧ Chg Non W w') := fun W k => unhide HBk W (lk2.chg.trans k) 3 (by omega)
            have HL2 := hide lk2
            have lPr : P < wr.heap.size := hPr2.lt
            clear lk2 hPr2
            go_wp2
            go_region_with (go_at_call 25; refine (unhide HBc _ (by repeat (first | exact Chg.refl _ _ | refine Chg.drew ?_ | refine Chg.alloc ?_ _))).mono ?_; rintro e w2 ⟨xa, xm, xc, rfl, hbk, k2⟩)
            all_goals
              have kk : Chg Non wr w2 := Chg.trans (by repeat (first | exact Chg.refl _ _ | refine Chg.drew ?_ | refine Chg.alloc ?_ _)) k2
              have HLk := hide (lk2_next (unhide HL2) kk hbk rfl)
              have lt1 : w.heap.size + 1 < w2.heap.size := (kk.blk (unhide HL2).out (fun x => x)).lt
              have o1 : w2.cell? ⟨w.heap.size + 1, 1, none⟩ = some (.slice ka 3 kc) := (kk.blk (unhide HL2).out (fun x => x)).cell 1
              have HR3 := hide ((own_kept (unhide HL2).brow kk (fun _ _ x => x)).alloc (.cells #[.slice xa xm xc] 63))
              have hbs : w.heap.size ≤ w2.heap.size + 1 := by omega
              obtain ⟨i0, hi0, hz0, hz1, hz2⟩ := info73_parts
              have HB2 := hide (kk.blk (unhide HL2).out (fun x => x))
              have HBr2 := hide (own_kept (unhide HL2).brow kk (fun _ _ x => x))
              have HNW := hide (news1 w2 (.slice xa xm xc) 63)
              clear k2 kk hbk p02 HBc HL2
              go_wp2_with (at_builtin; refine wpList_append_own _ rfl _ _ 45 rfl w.heap.size 63 i0 (.slice none 0 0) 1 24 Tryz.underlying45 hi0 hz0 hz1 hz2 rfl (by decide) _ 3 vs rfl (unhide HR3) ⟨w2.heap.size, 0, none⟩ 1 1 [.slice xa xm xc] rfl rfl (unhide HNW) (by simp [Value.oneCell']) (by decide) (by decide) (by simp; omega) ?_; intro v' w4 hown' hgrow hnil; clear hnil; obtain ⟨g', cap', rfl⟩ := own_pos hown' (by omega); change (w2.alloc _).grownBy w4 (Value.slice ka 3 kc).ownBlock at hgrow; have b4 : Blk w4 (w.heap.size + 1) #[.slice va i vc, .slice ka 3 kc, .slice none 0 0] 47 := (hgrow.block (w.heap.size + 1) (by simp; omega) (fun e => own_ne (unhide HBr2) e.symm (unhide HB2) (by decide) rfl)).trans ((unhide HB2).alloc _); have c4 := b4.cell 1; have f4 := b4.frozen 1; simp at c4; have HG4 := hide hgrow; have HOw := hide hown'; clear b4 hgrow hown')
              go_wp2
              go_roundg (4 - (3 + 1))
              case measure => omega
              case rel => exact ⟨3 + 1, .slice (some ⟨g', 0, none⟩) (3 + 1) cap', _, rfl, by omega, rfl, unhide HLk _ _ _ _ (unhide HOw) (unhide HG4)⟩
        · obtain rfl : j = 4 := by omega
          have HT := hide (fun (W : World) (k : Chg Non wr W) => trades_any bv bm bo V.lg V.lm W ((unhide HR).kept0 (lk2.chg.trans k)).log hK.2.2.1 (by have := hK.2.1; omega))
          have lPr : P < wr.heap.size := hPr2.lt
          have HL2 := hide lk2
          clear lk2 hPr2
          go_wp2_with fail
          refine (unhide HT wr (Chg.refl Non wr)).mono ?_
          rintro e w2 ⟨ta, tn, tc, rfl, k2⟩
          have out2 := k2.blk (unhide HL2).out (fun x => x)
          have res2 := k2.blk (unhide HL2).res (fun x => x)
          have a0 : w2.cell? ⟨w.heap.size + 1, 0, none⟩ = some (.slice va i vc) := out2.cell 0
          have a1 : w2.cell? ⟨w.heap.size + 1, 1, none⟩ = some (.slice ka 4 kc) := out2.cell 1
          have a2 : w2.cell? ⟨w.heap.size + 1, 2, none⟩ = some (.slice none 0 0) := out2.cell 2
          have g2 := out2.frozen 2
          have b0 : w2.cell? ⟨w.heap.size, 0, none⟩ = some (.slice none 0 0) := res2.cell 0
          have b1 : w2.cell? ⟨w.heap.size, 1, none⟩ = some (.slice none 0 0) := res2.cell 1
          have b2 : w2.cell? ⟨w.heap.size, 2, none⟩ = some (.slice none 0 0) := res2.cell 2
          have f0 := res2.frozen 0
          have f1 := res2.frozen 1
          have f2 := res2.frozen 2
          have HO2 := hide out2
          have HR2 := hide res2
          have HK2 := hide k2
          clear out2 res2 k2 p02
          go_wp2
          refine bodyPost_ret (res18 _ w.heap.size _ (.slice va i vc) (.slice ka 4 kc) (.slice ta tn tc) rfl rfl ?_) rfl ⟨va, vc, ka, kc, ta, tn, tc, vs, rfl, ?_⟩
          · exact ((((unhide HR2).other (a := ⟨w.heap.size + 1, 2, none⟩) (by simp) _).set 0 _).set 1 _).set 2 _
          · exact lk2_end (unhide HL2) (unhide HK2) _ _ _ _ (.bool true)

end Go.Proofs.YtigaphnafnpfnaaGreatDoor

