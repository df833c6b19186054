import Derived.Test.YtigaphnafnpfnaaDoorD6
set_option linter.unusedVariables false
set_option linter.unusedSimpArgs false
namespace Go.Proofs.YtigaphnafnpfnaaDoor
open Go.RowKit Go.Maps Go.Lib
attribute [local go_sem ↓] Go.wp_at_zero Go.wp_at_succ

theorem Sel.start (b1 b2 : Nat) (lmv : Lm) (pr qt : Nat → Int) (blk : Nat → Nat) : Sel (VG b1 b2 lmv) 0 pr qt blk := by
  refine ⟨rfl, rfl, rfl, rfl, fun id => ?_, rfl, rfl, fun j hj => absurd hj (Nat.not_lt_zero j), rfl, fun k _ hk => absurd hk (Nat.not_lt_zero k), fun x => ⟨?_, ?_⟩, rfl, rfl⟩
  · rw [if_neg (by omega)]; rfl
  · rintro ⟨k, hk, _⟩; exact absurd hk (Nat.not_lt_zero k)
  · rintro ⟨k, hk, _⟩; exact absurd hk (Nat.not_lt_zero k)

/-- what holds at the head of the first loop -/
structure L1 (w : World) (base D A Bq P bv bm bo : Nat) (ao : Option Addr) (len cap : Nat) (zs : Nat → Int) (n i : Nat) (pr qt : Nat → Int) (w0 : World) : Prop where
  lay : ∃ at_ V blk, Lay w base D A Bq P bv bm bo ao len cap zs at_ pr qt V ∧ Sel V i pr qt blk
  bnd : ∀ j, j < i → 100 ≤ pr j ∧ pr j ≤ 103 ∧ 1 ≤ qt j ∧ qt j ≤ 9
  old : Below base w0 w
  base : base ≤ w0.heap.size

theorem Lay.keepX {w w' : World} {base D A Bq P bv bm bo : Nat} {ao : Option Addr} {len cap : Nat} {zs : Nat → Int} {at_ : Nat} {pr qt : Nat → Int} {V : Ven} (l : Lay w base D A Bq P bv bm bo ao len cap zs at_ pr qt V) {x : Nat} {c : Array Value} {ty : TypeId} (k : Chg (fun y => y = x) w w') (hb : Blk w x c ty) (hty : ty = 31 ∨ ty = 42) (hx : base ≤ x) : Lay w' base D A Bq P bv bm bo ao len cap zs at_ pr qt V := by
  have n1 : ty ≠ 62 ∧ ty ≠ 67 ∧ ty ≠ 68 ∧ ty ≠ 75 ∧ 27 ≠ ty ∧ 29 ≠ ty ∧ 36 ≠ ty := by rcases hty with rfl | rfl <;> decide
  exact ⟨k.blk l.dice (Blk.ne l.dice hb n1.2.2.2.2.1), l.at_le, k.blk l.arrA (Blk.ne l.arrA hb n1.2.2.2.2.2.1), k.blk l.arrB (Blk.ne l.arrB hb n1.2.2.2.2.2.1), k.blk l.ply (Blk.ne l.ply hb n1.2.2.2.2.2.2), l.rep.kept1 k (l.rep.foot hb n1.1 n1.2.1 n1.2.2.1 n1.2.2.2.1 (by rcases hty with rfl | rfl <;> decide) (by rcases hty with rfl | rfl <;> decide) (by rcases hty with rfl | rfl <;> decide) (by rcases hty with rfl | rfl <;> decide) (by rcases hty with rfl | rfl <;> decide)),
    l.code.at k (fun hl a e h => by have := l.old hl a e; omega), l.foot, l.bD, l.bA, l.bB, l.bP, l.old, l.ne, l.tab.kept k (fun e => by have := l.bT; omega), l.bT⟩

theorem L1.keep {w w' : World} {base D A Bq P bv bm bo : Nat} {ao : Option Addr} {len cap : Nat} {zs : Nat → Int} {n i : Nat} {pr qt : Nat → Int} {w0 : World} (l : L1 w base D A Bq P bv bm bo ao len cap zs n i pr qt w0) (k : Chg Non w w') : L1 w' base D A Bq P bv bm bo ao len cap zs n i pr qt w0 := by
  obtain ⟨⟨a, V, blk, lay, sel⟩, h1, h2, h3⟩ := l
  exact ⟨⟨a, V, blk, lay.keep k, sel⟩, h1, h2.trans (k.below.mono (by have := h2.size; omega)), h3⟩

theorem L1.keepX {w w' : World} {base D A Bq P bv bm bo : Nat} {ao : Option Addr} {len cap : Nat} {zs : Nat → Int} {n i : Nat} {pr qt : Nat → Int} {w0 : World} (l : L1 w base D A Bq P bv bm bo ao len cap zs n i pr qt w0) {x : Nat} {c : Array Value} (k : Chg (fun y => y = x) w w') (hb : Blk w x c 31) (hx : base ≤ x) : L1 w' base D A Bq P bv bm bo ao len cap zs n i pr qt w0 := by
  obtain ⟨⟨a, V, blk, lay, sel⟩, h1, h2, h3⟩ := l
  exact ⟨⟨a, V, blk, lay.keepX k hb (.inl rfl) hx, sel⟩, h1, h2.trans (k.belowOf (by have := h2.size; omega) (fun y e => by omega)), h3⟩

def cntQ (n : Nat) (pr qt : Nat → Int) (Q : Int) (c : Int) (i : Nat) : Int := sumIf (fun j => bef pr c i j && decide (ahd n pr qt (pr j) j < Q)) (fun _ => 1) n

theorem bef_next {pr : Nat → Int} {c : Int} {i : Nat} (h : pr i ≠ c) (k : Nat) : bef pr c (i + 1) k = bef pr c i k := by
  unfold bef
  congr 1
  apply propext
  constructor
  · rintro (h1 | ⟨h1, h2⟩)
    · exact .inl h1
    · refine .inr ⟨h1, ?_⟩
      by_cases e : k = i
      · subst e; exact absurd h1 h
      · omega
  · rintro (h1 | ⟨h1, h2⟩)
    · exact .inl h1
    · exact .inr ⟨h1, by omega⟩

theorem ahd_skip {n : Nat} {pr qt : Nat → Int} {c : Int} {i : Nat} (h : pr i ≠ c) : ahd n pr qt c (i + 1) = ahd n pr qt c i := sumIf_congr n (fun k _ => bef_next h k)
theorem cntQ_skip {n : Nat} {pr qt : Nat → Int} {Q c : Int} {i : Nat} (h : pr i ≠ c) : cntQ n pr qt Q c (i + 1) = cntQ n pr qt Q c i := sumIf_congr n (fun k _ => by rw [bef_next h k])
theorem cntQ_hit {n : Nat} {pr qt : Nat → Int} {Q c : Int} {i : Nat} (hi : i < n) (h : pr i = c) : cntQ n pr qt Q c (i + 1) = cntQ n pr qt Q c i + if ahd n pr qt c i < Q then 1 else 0 := by
  subst h
  by_cases hq : ahd n pr qt (pr i) i < Q
  · rw [if_pos hq]
    refine sumIf_add (j := i) (by rw [bef_self]; rfl) n hi (fun k _ => ?_)
    rw [bef_step]
    by_cases e : k = i
    · subst e; simp [bef_self, hq]
    · simp [e]
  · rw [if_neg hq, Int.add_zero]
    refine sumIf_congr n (fun k _ => ?_)
    rw [bef_step]
    by_cases e : k = i
    · subst e; simp [hq]
    · simp [e]
theorem bef_row {pr : Nat → Int} {c : Int} {n k : Nat} (hk : k < n) : bef pr c n k = bef pr (c + 1) 0 k := by
  unfold bef
  congr 1
  apply propext
  constructor
  · rintro (h | ⟨h, _⟩) <;> exact .inl (by omega)
  · rintro (h | ⟨_, h⟩)
    · by_cases e : pr k = c
      · exact .inr ⟨e, hk⟩
      · exact .inl (by omega)
    · omega
theorem ahd_row {n : Nat} {pr qt : Nat → Int} {c : Int} : ahd n pr qt c n = ahd n pr qt (c + 1) 0 := sumIf_congr n (fun k hk => bef_row hk)
theorem cntQ_row {n : Nat} {pr qt : Nat → Int} {Q c : Int} : cntQ n pr qt Q c n = cntQ n pr qt Q (c + 1) 0 := sumIf_congr n (fun k hk => by rw [bef_row hk])
theorem bef_first {pr : Nat → Int} {n : Nat} (h : ∀ j, j < n → 100 ≤ pr j) {k : Nat} (hk : k < n) : bef pr 100 0 k = false := by
  have := h k hk
  simp only [bef, decide_eq_false_iff_not]; omega
theorem bef_last {pr : Nat → Int} {n : Nat} (h : ∀ j, j < n → pr j ≤ 103) {k : Nat} (hk : k < n) : bef pr 104 0 k = true := by
  have := h k hk
  simp only [bef, decide_eq_true_eq]; omega
theorem sumIf_none {q : Nat → Int} : ∀ n, sumIf (fun _ => false) q n = 0
  | 0 => rfl
  | n + 1 => by rw [sumIf, sumIf_none n]; rfl

theorem ahd_first {n : Nat} {pr qt : Nat → Int} (h : ∀ j, j < n → 100 ≤ pr j) : ahd n pr qt 100 0 = 0 := (sumIf_congr n (fun _ hk => bef_first h hk)).trans (sumIf_none n)
theorem cntQ_first {n : Nat} {pr qt : Nat → Int} {Q : Int} (h : ∀ j, j < n → 100 ≤ pr j) : cntQ n pr qt Q 100 0 = 0 := (sumIf_congr (p' := fun _ => false) n (fun _ hk => by rw [bef_first h hk]; rfl)).trans (sumIf_none n)
theorem ahd_last {n : Nat} {pr qt : Nat → Int} (h : ∀ j, j < n → pr j ≤ 103) : ahd n pr qt 104 0 = tot n qt := sumIf_congr n (fun _ hk => bef_last h hk)
theorem cntQ_last {n : Nat} {pr qt : Nat → Int} {Q : Int} (h : ∀ j, j < n → pr j ≤ 103) : cntQ n pr qt Q 104 0 = nTr n pr qt Q := sumIf_congr n (fun _ hk => by rw [bef_last h hk]; rfl)
theorem cntQ_b {n : Nat} {pr qt : Nat → Int} {Q c : Int} {i : Nat} : 0 ≤ cntQ n pr qt Q c i ∧ cntQ n pr qt Q c i ≤ n := by
  refine ⟨sumIf_nonneg n (fun _ _ => by omega), ?_⟩
  unfold cntQ
  generalize (fun j => bef pr c i j && decide (ahd n pr qt (pr j) j < Q)) = f
  have : ∀ m, sumIf f (fun _ => 1) m ≤ (m : Int) := by
    intro m
    induction m with
    | zero => simp [sumIf]
    | succ m ih => rw [sumIf]; split <;> push_cast <;> omega
  exact this n

/-- what holds behind the sweep -/
structure L2 (w : World) (base D A Bq P bv bm bo : Nat) (ao : Option Addr) (len cap : Nat) (zs : Nat → Int) (n : Nat) (pr qt : Nat → Int) (Q : Int) (rb : Nat) (w0 : World) : Prop where
  lay : ∃ at_ V blk, Lay w base D A Bq P bv bm bo ao len cap zs at_ pr qt V ∧ Swp V n pr qt blk Q
  r : Blk w rb #[.int .i64 (min Q (tot n qt)), .int .i64 0, .int .i64 (Q - min Q (tot n qt)), .int .i64 1, .int .i64 (nTr n pr qt Q)] 31
  old : Below base w0 w
  base : base ≤ w0.heap.size

theorem L2.keep {w w' : World} {base D A Bq P bv bm bo : Nat} {ao : Option Addr} {len cap : Nat} {zs : Nat → Int} {n : Nat} {pr qt : Nat → Int} {Q : Int} {rb : Nat} {w0 : World} (l : L2 w base D A Bq P bv bm bo ao len cap zs n pr qt Q rb w0) (k : Chg Non w w') : L2 w' base D A Bq P bv bm bo ao len cap zs n pr qt Q rb w0 := by
  obtain ⟨⟨a, V, blk, lay, swp⟩, h1, h2, h3⟩ := l
  exact ⟨⟨a, V, blk, lay.keep k, swp⟩, k.blk h1 (fun x => x), h2.trans (k.below.mono (by have := h2.size; omega)), h3⟩

set_option maxHeartbeats 8000000 in
set_option maxRecDepth 100000 in
theorem swept_any (ao : Option Addr) (len cap : Nat) (zs : Nat → Int) (much : Int) (w : World) (hT : Tab w) (hc : Code w ao len zs) (hold : 0 < len → ∀ a, ao = some a → a.block < w.heap.size) (hm1 : -9223372036854775808 ≤ much) (hm2 : much ≤ 9223372036854775807) :
    Calls Tryd.prog 3 #[.slice ao len cap, .int .i64 much] w fun e w' => e = .returned (.bool true) ∧ Below w.heap.size w w' := by
  have HM := hide (And.intro hm1 hm2)
  have HC := hide hc
  have HO := hide hold
  have HTb := hide hT
  clear hm1 hm2 hc hold hT
  go_enter Tryd.func3, Tryd.ntmps3
  go_wp2_with fail
  refine (begun_any w).mono ?_
  rintro e w1 ⟨P, bv, bm, bo, b1, b2, lmv, rfl, hP, R1, k1, hF1, hPb⟩
  have hD : Blk (w1.alloc (.cells #[.slice ao len cap, .int .i64 0] 27)) w1.heap.size #[.slice ao len cap, .int .i64 ((0 : Nat) : Int)] 27 := Blk.new w1 _ _
  have kD : Chg Non w1 (w1.alloc (.cells #[.slice ao len cap, .int .i64 0] 27)) := (Chg.refl Non w1).alloc _
  have hcD : Code (w1.alloc (.cells #[.slice ao len cap, .int .i64 0] 27)) ao len zs := (unhide HC).at (k1.trans kD) (fun _ _ _ x => x)
  have hnx := next_any w1.heap.size ao len cap 0 zs 12 _ hD hcD (Nat.zero_le _) (by omega) (by omega)
  have HX := hide hnx
  clear hnx
  go_wp2_with fail
  refine (unhide HX).mono ?_
  rintro e w2 ⟨v, at0, rfl, hv0, hv1, hat0, hD2, k2⟩
  obtain ⟨n, hn⟩ : ∃ n : Nat, (n : Int) = 1 + v := ⟨(1 + v).toNat, by omega⟩
  have hn1 : 1 ≤ n := by omega
  have hn2 : n ≤ 12 := by omega
  have hlay : Lay ((w2.alloc (.cells (arrC (fun _ => 0)) 29)).alloc (.cells (arrC (fun _ => 0)) 29)) w.heap.size w1.heap.size w2.heap.size (w2.heap.size + 1) P bv bm bo ao len cap zs at0 (fun _ => 0) (fun _ => 0) (VG b1 b2 lmv) := by
    have k12 : Chg (fun x => x = w1.heap.size) w1 w2 := kD.of_non.trans k2
    have kk : Chg Non w2 ((w2.alloc (.cells (arrC (fun _ => 0)) 29)).alloc (.cells (arrC (fun _ => 0)) 29)) := ((Chg.refl Non w2).alloc _).alloc _
    have s1 := k1.size
    have s2 := k12.size
    have nf : ¬ Foot bv bm bo (VG b1 b2 lmv) w1.heap.size := fun h => by have := R1.foot_lt h; omega
    exact ⟨kk.blk hD2 (fun x => x), hat0, (Blk.new w2 _ _).alloc _, Blk.new1 w2 _ _ _, kk.blk (k12.blk hP (fun e => by have := hP.lt; omega)) (fun x => x), (R1.kept1 k12 nf).kept0 kk,
      (((unhide HC).at k1 (fun _ _ _ x => x)).at k12 (fun hl a e h => by have := unhide HO hl a e; omega)).at kk (fun _ _ _ x => x), hF1, by omega, by omega, by omega, hPb, unhide HO, by omega, (((unhide HTb).kept0 k1).kept k12 (fun e => by have := (unhide HTb).lt; omega)).kept0 kk, (unhide HTb).lt⟩
  have hbel : Below w.heap.size w ((w2.alloc (.cells (arrC (fun _ => 0)) 29)).alloc (.cells (arrC (fun _ => 0)) 29)) := by
    have a : Chg Non w w2 := (k1.trans kD).from (k2.mono (fun x h => .inr (by have := k1.size; omega)))
    exact ((a.alloc _).alloc _).below
  have HL1 : Hid (L1 ((w2.alloc (.cells (arrC (fun _ => 0)) 29)).alloc (.cells (arrC (fun _ => 0)) 29)) w.heap.size w1.heap.size w2.heap.size (w2.heap.size + 1) P bv bm bo ao len cap zs n 0 (fun _ => 0) (fun _ => 0) w) := ⟨⟨at0, VG b1 b2 lmv, fun _ => 0, hlay, Sel.start b1 b2 lmv _ _ _⟩, fun j hj => absurd hj (Nat.not_lt_zero j), hbel, Nat.le_refl _⟩
  have HN := hide hn
  clear hlay hbel hn hD hD2 k2 kD k1 R1 hP hF1 hPb hcD HX hat0
  generalize hDn : w1.heap.size = D at *
  generalize hAn : w2.heap.size = A at *
  go_wp2
  rw [show 1 + v = (n : Int) from (unhide HN).symm]
  go_loopg [10, 11] n (fun k tv iv wr => ∃ (i : Nat) (t : Int) (pr qt : Nat → Int), iv = .int .i64 (i : Int) ∧ tv = .int .i64 t ∧ i ≤ n ∧ k = n - i ∧ L1 wr w.heap.size D A (A + 1) P bv bm bo ao len cap zs n i pr qt w)
  case atStart => exact ⟨0, 0, fun _ => 0, fun _ => 0, rfl, rfl, Nat.zero_le _, rfl, unhide HL1⟩
  case round =>
    obtain ⟨i, t, pr, qt, rfl, rfl, hin, hgk, l1⟩ := hrel
    have HGK := hide hgk
    clear hgk HL1 HN
    obtain ⟨⟨at1, V, blk, lay, sel⟩, hbnd, hbel, hbase⟩ := l1
    have HB := hide hbnd
    have HBel := hide hbel
    clear hbnd hbel hbase
    by_cases hlt : i < n
    · have i12 : i < 12 := by omega
      have i0 : (0 : Int) ≤ (i : Int) := by omega
      have i1 : (i : Int) < 12 := by omega
      have hnx := next_any D ao len cap at1 zs 4 wr lay.dice lay.code lay.at_le (by omega) (by omega)
      go_wp2_with fail
      refine hnx.mono ?_
      clear hnx
      rintro e w3 ⟨p, at2, rfl, hp0, hp1, hat2, hD3, k3⟩
      have lay3 := lay.dice' k3 hD3 hat2
      have ca : w3.cell? ⟨A, i, none⟩ = some (.int .i64 (pr i)) := (lay3.arrA.cell i).trans (arrC_get pr i12)
      have fa := lay3.arrA.frozen i
      have lay4 := lay3.setA i12 (100 + p)
      have hnx := next_any D ao len cap at2 zs 9 _ lay4.dice lay4.code lay4.at_le (by omega) (by omega)
      have HNX := hide hnx
      clear hnx
      go_wp2_with fail
      refine (unhide HNX).mono ?_
      rintro e w5 ⟨q, at3, rfl, hq0, hq1, hat3, hD5, k5⟩
      have lay5 := lay4.dice' k5 hD5 hat3
      have cb : w5.cell? ⟨A + 1, i, none⟩ = some (.int .i64 (qt i)) := (lay5.arrB.cell i).trans (arrC_get qt i12)
      have fb := lay5.arrB.frozen i
      have lay6 := lay5.setB i12 (1 + q)
      clear ca fa HNX
      obtain ⟨w6, hw6⟩ : ∃ w6, w6 = w5.setCell ⟨A + 1, i, none⟩ (.int .i64 (1 + q)) := ⟨_, rfl⟩
      rw [← hw6] at lay6
      have HW6 := hide hw6
      have sel6 : Sel V i (ext pr i (100 + p)) (ext qt i (1 + q)) blk := sel.congr (fun j hj => ⟨ext_lt _ _ hj, ext_lt _ _ hj⟩)
      have hsell : ∀ wx, Chg Non w6 wx → Calls Tryd.prog 7 #[.pointer (some ⟨bv, 0, none⟩), .agg #[.int .i64 (IntKind.i64.wrap ((i : Int) + 1)), .int .i64 (IntKind.i64.wrap (1 + (i : Int).tmod 9)), .string ⟨#[65]⟩, .int .i64 1, .int .i64 ((i : Int).tmod 2), .int .i64 (100 + p), .int .i64 (1 + q)]] wx fun e w' => e = .returned (.tuple #[.agg #[.int .i64 0, .int .i64 (1 + q), .int .i64 0, .int .i64 0, .int .i64 0], .int .i64 0]) ∧
          w'.cell? ⟨P, 0, none⟩ = some (.pointer (some ⟨bv, 0, none⟩)) ∧ w'.cell? ⟨A, i, none⟩ = some (.int .i64 (100 + p)) ∧ w'.cell? ⟨A + 1, i, none⟩ = some (.int .i64 (1 + q)) ∧ (∀ x c, Blk wx x c 31 → Blk w' x c 31) ∧ L1 w' w.heap.size D A (A + 1) P bv bm bo ao len cap zs n (i + 1) (ext pr i (100 + p)) (ext qt i (1 + q)) w := by
        intro wx kx
        have e9 : (i : Int).tmod 9 = (i : Int) % 9 := Int.tmod_eq_emod_of_nonneg (by omega)
        have e2 : (i : Int).tmod 2 = (i : Int) % 2 := Int.tmod_eq_emod_of_nonneg (by omega)
        rw [e9, e2, wrapEq, wrapEq, wrap64_id (x := (i : Int) + 1) (by omega) (by omega), wrap64_id (x := 1 + (i : Int) % 9) (by omega) (by omega)]
        have layx := lay6.keep kx
        have h := sell_lay w.heap.size D A (A + 1) P bv bm bo ao len cap zs at3 (ext pr i (100 + p)) (ext qt i (1 + q)) V i blk wx layx sel6 i12 (by rw [ext_same]; omega) (by rw [ext_same]; omega) (by rw [ext_same]; omega) (by rw [ext_same]; omega)
        rw [ext_same, ext_same] at h
        refine h.mono ?_
        rintro e w' ⟨rfl, V', blk', lay', sel', k'⟩
        have ca := (lay'.arrA.cell i).trans (arrC_get _ i12)
        have cb := (lay'.arrB.cell i).trans (arrC_get _ i12)
        rw [ext_same] at ca cb
        refine ⟨rfl, lay'.ply.cell 0, ca, cb, fun x c hb => k'.blk hb (layx.rep.foot hb (by decide) (by decide) (by decide) (by decide) (by decide) (by decide) (by decide)), ⟨⟨at3, V', blk', lay', sel'⟩, fun j hj => ?_, ?_, Nat.le_refl _⟩⟩
        · by_cases e : j = i
          · subst e; rw [ext_same, ext_same]; omega
          · rw [ext_lt _ _ (by omega), ext_lt _ _ (by omega)]; exact unhide HB j (by omega)
        · have a : Below w.heap.size wr w6 := by
            have hb1 := (unhide HBel).size
            have h3 := k3.belowOf hb1 (fun x e => by have := lay.bD; omega)
            have h3' := h3.trans (Below.setCell (Below.refl w.heap.size w3) (p := ⟨A, i, none⟩) lay.bA (.int .i64 (100 + p)))
            have h5 := h3'.trans (k5.belowOf (by have := k3.size; simp [World.setCell]; omega) (fun x e => by have := lay.bD; omega))
            rw [unhide HW6]
            exact h5.setCell lay.bB _
          have b : Below w.heap.size w6 wx := kx.below.mono (by have := (unhide HBel).size; have := a.size; omega)
          have c : Below w.heap.size wx w' := k'.belowOf (by have := (unhide HBel).size; have := a.size; have := b.size; omega) (fun x h => layx.foot x h)
          exact (((unhide HBel).trans a).trans b).trans c
      have HS := hide hsell
      have p6 : w6.cell? ⟨P, 0, none⟩ = some (.pointer (some ⟨bv, 0, none⟩)) := lay6.ply.cell 0
      have a6 : w6.cell? ⟨A, i, none⟩ = some (.int .i64 (100 + p)) := (lay6.arrA.cell i).trans (by rw [arrC_get _ i12, ext_same])
      have b6 : w6.cell? ⟨A + 1, i, none⟩ = some (.int .i64 (1 + q)) := (lay6.arrB.cell i).trans (by rw [arrC_get _ i12, ext_same])
      have HZ6 : Hid (w.heap.size ≤ w6.heap.size) := by show _ ≤ _; have := lay6.bD; have := lay6.dice.lt; omega
      clear hsell hw6 sel sel6 lay lay3 lay4 lay5 lay6 k3 k5 hD3 hD5 HB HBel hat2 hat3
      go_wp2
      rw [← unhide HW6]
      clear HW6 cb fb
      have n1 := World.new_ne w6 _ p6
      have n2 := World.new_ne w6 _ a6
      have n3 := World.new_ne w6 _ b6
      go_region_held3 (fun w' => w'.cell? ⟨P, 0, none⟩ = some (.pointer (some ⟨bv, 0, none⟩)) ∧ w'.cell? ⟨A, i, none⟩ = some (.int .i64 (100 + p)) ∧ w'.cell? ⟨A + 1, i, none⟩ = some (.int .i64 (1 + q))) (go_keep)
        (first | (go_at_call 7; refine (unhide HS _ ?_).mono ?_; (first | exact (Chg.refl Non _).drew | exact ((Chg.refl Non _).alloc _).drew | exact ((Chg.refl Non _).drew).alloc _); rintro e w7 ⟨rfl, p7, a7, b7, kb7, l7⟩; have m1 := World.new_ne w7 _ p7; have m2 := World.new_ne w7 _ a7; have m3 := World.new_ne w7 _ b7; (try (have hr7 : Blk w7 w6.heap.size zero5 31 := kb7 _ _ (Blk.new w6 zero5 31); have z0 : w7.cell? ⟨w6.heap.size, 0, none⟩ = some (.int .i64 0) := hr7.cell 0; have z1 : w7.cell? ⟨w6.heap.size, 1, none⟩ = some (.int .i64 0) := hr7.cell 1; have z2 : w7.cell? ⟨w6.heap.size, 2, none⟩ = some (.int .i64 0) := hr7.cell 2; have z3 : w7.cell? ⟨w6.heap.size, 3, none⟩ = some (.int .i64 0) := hr7.cell 3; have z4 : w7.cell? ⟨w6.heap.size, 4, none⟩ = some (.int .i64 0) := hr7.cell 4; have g0 := hr7.frozen 0; have g1 := hr7.frozen 1; have g2 := hr7.frozen 2; have g3 := hr7.frozen 3; have g4 := hr7.frozen 4)); have HL7 := hide l7; clear kb7 l7))
      · obtain ⟨w8, hw8⟩ : ∃ w8, w8 = w7.alloc (.cells #[.int .i64 0, .int .i64 (1 + q), .int .i64 0, .int .i64 0, .int .i64 0] 31) := ⟨_, rfl⟩
        have hr8 : Blk w8 w7.heap.size #[.int .i64 0, .int .i64 (1 + q), .int .i64 0, .int .i64 0, .int .i64 0] 31 := by rw [hw8]; exact Blk.new w7 _ _
        have k8 : Chg Non w7 w8 := by rw [hw8]; exact (Chg.refl Non w7).alloc _
        have r1 : w8.cell? ⟨w7.heap.size, 1, none⟩ = some (.int .i64 (1 + q)) := hr8.cell 1
        have r4 : w8.cell? ⟨w7.heap.size, 4, none⟩ = some (.int .i64 0) := hr8.cell 4
        have b8 := k8.cell b7 (fun x => x)
        have HL8 := hide ((unhide HL7).keep k8)
        rw [← hw8]
        clear hw8 hr8 k8 HL7 m1 m2 m3 n1 n2 n3 p6 a6 b6 p7 a7 b7 HS
        go_wp2
        go_quiet (fail)
        go_wp2
        go_roundg (n - (i + 1))
        case measure => have := unhide HGK; omega
        case rel => exact ⟨i + 1, wrap64 (t + (1 + q)), _, _, by push_cast; rfl, rfl, by omega, rfl, (unhide HL8).keep ((Chg.refl Non _).drewN _)⟩
      · obtain ⟨w8, hw8⟩ : ∃ w8, w8 = ((((w7.setCell ⟨w6.heap.size, 0, none⟩ (.int .i64 0)).setCell ⟨w6.heap.size, 1, none⟩ (.int .i64 (1 + q))).setCell ⟨w6.heap.size, 2, none⟩ (.int .i64 0)).setCell ⟨w6.heap.size, 3, none⟩ (.int .i64 0)).setCell ⟨w6.heap.size, 4, none⟩ (.int .i64 0) := ⟨_, rfl⟩
        have hr8 : Blk w8 w6.heap.size #[.int .i64 0, .int .i64 (1 + q), .int .i64 0, .int .i64 0, .int .i64 0] 31 := by rw [hw8]; exact ((((hr7.set 0 _).set 1 _).set 2 _).set 3 _).set 4 _
        have k8 : Chg (fun y => y = w6.heap.size) w7 w8 := by rw [hw8]; exact (((((Chg.refl (fun y => y = w6.heap.size) w7).setCell (p := ⟨w6.heap.size, 0, none⟩) (.inl rfl) _).setCell (p := ⟨w6.heap.size, 1, none⟩) (.inl rfl) _).setCell (p := ⟨w6.heap.size, 2, none⟩) (.inl rfl) _).setCell (p := ⟨w6.heap.size, 3, none⟩) (.inl rfl) _).setCell (p := ⟨w6.heap.size, 4, none⟩) (.inl rfl) _
        have r1 : w8.cell? ⟨w6.heap.size, 1, none⟩ = some (.int .i64 (1 + q)) := hr8.cell 1
        have r4 : w8.cell? ⟨w6.heap.size, 4, none⟩ = some (.int .i64 0) := hr8.cell 4
        have b8 := k8.cell b7 (fun e => n3 e.symm)
        have HL8 := hide ((unhide HL7).keepX k8 hr7 (unhide HZ6))
        rw [← hw8]
        clear hw8 hr8 k8 HL7 m1 m2 m3 n1 n2 n3 p6 a6 b6 p7 a7 b7 HS hr7 z0 z1 z2 z3 z4 g0 g1 g2 g3 g4
        go_wp2
        go_quiet (fail)
        go_wp2
        go_roundg (n - (i + 1))
        case measure => have := unhide HGK; omega
        case rel => exact ⟨i + 1, wrap64 (t + (1 + q)), _, _, by push_cast; rfl, rfl, by omega, rfl, (unhide HL8).keep ((Chg.refl Non _).drewN _)⟩
    · obtain rfl : i = n := by omega
      have hpk := pick_any much 60 wr (by omega) (by omega) (unhide HM).1 (unhide HM).2
      have HPK := hide hpk
      have HLay := hide lay
      have HSel := hide sel
      clear hpk lay sel
      go_wp2_with fail
      refine (unhide HPK).mono ?_
      rintro e w3 ⟨x, rfl, hx0, hx1, rfl⟩
      clear HPK
      have p3 : w3.cell? ⟨P, 0, none⟩ = some (.pointer (some ⟨bv, 0, none⟩)) := (unhide HLay).ply.cell 0
      have hbuy := buy_lay w.heap.size D A (A + 1) P bv bm bo ao len cap zs at1 pr qt V i blk (1 + x) w3 (unhide HLay) (unhide HSel) hn1 hn2 (unhide HB) (by omega) (by omega)
      have HBuy := hide hbuy
      clear hbuy
      go_wp2_with fail
      refine (unhide HBuy).mono ?_
      rintro e w4 ⟨rfl, V4, lay4, swp4, k4⟩
      have hL2 : L2 (w4.alloc (.cells #[.int .i64 (min (1 + x) (tot i qt)), .int .i64 0, .int .i64 (1 + x - min (1 + x) (tot i qt)), .int .i64 1, .int .i64 (nTr i pr qt (1 + x))] 31)) w.heap.size D A (A + 1) P bv bm bo ao len cap zs i pr qt (1 + x) w4.heap.size w := by
        have kk : Chg Non w4 (w4.alloc (.cells #[.int .i64 (min (1 + x) (tot i qt)), .int .i64 0, .int .i64 (1 + x - min (1 + x) (tot i qt)), .int .i64 1, .int .i64 (nTr i pr qt (1 + x))] 31)) := (Chg.refl Non w4).alloc _
        refine ⟨⟨at1, V4, blk, lay4.keep kk, swp4⟩, Blk.new w4 _ _, ?_, Nat.le_refl _⟩
        have a := (unhide HBel).trans (k4.belowOf (unhide HBel).size (fun y h => (unhide HLay).foot y h))
        exact a.trans (kk.below.mono (by have := a.size; omega))
      have HL2 := hide hL2
      clear hL2 lay4 swp4 k4 HBuy HLay HSel HBel p3
      simp only [repV]
      have hQ1 : 1 ≤ 1 + x := by omega
      have hQ2 : 1 + x ≤ 60 := by omega
      go_wp2
      generalize 1 + x = Q at *
      generalize w4.heap.size = rb at *
      clear hx0 hx1
      go_loopg [14, 18, 19] 4 (fun k lv cv cost wr => ∃ c : Nat, cost = .int .i64 (c : Int) ∧ 100 ≤ c ∧ c ≤ 104 ∧ k = 104 - c ∧ lv = .int .i64 (max 0 (Q - ahd i pr qt c 0)) ∧ cv = .int .i64 (cntQ i pr qt Q c 0) ∧ L2 wr w.heap.size D A (A + 1) P bv bm bo ao len cap zs i pr qt Q rb w)
      case atStart =>
        refine ⟨100, rfl, by omega, by omega, rfl, ?_, ?_, unhide HL2⟩
        · rw [show ((100 : Nat) : Int) = 100 from rfl, ahd_first (fun j hj => (unhide HB j hj).1)]; congr 1; omega
        · rw [show ((100 : Nat) : Int) = 100 from rfl, cntQ_first (fun j hj => (unhide HB j hj).1)]
      case round =>
        obtain ⟨c, rfl, hc1, hc2, hgc, rfl, rfl, l2⟩ := hrel
        have HGC := hide hgc
        have HL2c := hide l2
        clear hgc l2 HL2 HGK
        obtain ⟨lf, hlf⟩ : ∃ lf, lf = max 0 (Q - ahd i pr qt c 0) := ⟨_, rfl⟩
        obtain ⟨ct, hct⟩ : ∃ ct, ct = cntQ i pr qt Q c 0 := ⟨_, rfl⟩
        rw [← hlf, ← hct]
        have HLF := hide hlf
        have HCT := hide hct
        clear hlf hct
        by_cases hc : c < 104
        · have hcd : decide ((c : Int) < 104) = true := by simp; omega
          go_wp2
          go_loopg [14, 18, 20] i (fun k lv cv iv wr2 => ∃ j : Nat, iv = .int .i64 (j : Int) ∧ j ≤ i ∧ k = i - j ∧ lv = .int .i64 (max 0 (Q - ahd i pr qt c j)) ∧ cv = .int .i64 (cntQ i pr qt Q c j) ∧ L2 wr2 w.heap.size D A (A + 1) P bv bm bo ao len cap zs i pr qt Q rb w)
          case atStart => exact ⟨0, rfl, Nat.zero_le _, rfl, by rw [unhide HLF], by rw [unhide HCT], unhide HL2c⟩
          case round =>
            obtain ⟨j, rfl, hj, hgj, rfl, rfl, l2⟩ := hrel
            have HGJ := hide hgj
            clear hgj HL2c HLF HCT
            obtain ⟨lf, hlf⟩ : ∃ lf, lf = max 0 (Q - ahd i pr qt c j) := ⟨_, rfl⟩
            obtain ⟨ct, hct⟩ : ∃ ct, ct = cntQ i pr qt Q c j := ⟨_, rfl⟩
            rw [← hlf, ← hct]
            by_cases hji : j < i
            · have j12 : j < 12 := by omega
              have j0 : (0 : Int) ≤ (j : Int) := by omega
              have j1 : (j : Int) < 12 := by omega
              obtain ⟨q0, q1, q2, q3⟩ := unhide HB j hji
              have ca : wr.cell? ⟨A, j, none⟩ = some (.int .i64 (pr j)) := by obtain ⟨⟨at2, V2, blk2, lay2, swp2⟩, _⟩ := l2; exact (lay2.arrA.cell j).trans (arrC_get pr j12)
              have cb : wr.cell? ⟨A + 1, j, none⟩ = some (.int .i64 (qt j)) := by obtain ⟨⟨at2, V2, blk2, lay2, swp2⟩, _⟩ := l2; exact (lay2.arrB.cell j).trans (arrC_get qt j12)
              have cp : wr.cell? ⟨P, 0, none⟩ = some (.pointer (some ⟨bv, 0, none⟩)) := by obtain ⟨⟨at2, V2, blk2, lay2, swp2⟩, _⟩ := l2; exact lay2.ply.cell 0
              by_cases hpc : pr j = (c : Int)
              · have epc : (pr j != (c : Int)) = false := by simp [hpc]
                have lf0 : 0 ≤ lf := by omega
                have hah : 0 ≤ ahd i pr qt c j := sumIf_nonneg i (fun k hk => by have := (unhide HB k hk).2.2.1; omega)
                have lf1 : lf ≤ 60 := by omega
                have ct0 := (cntQ_b (n := i) (pr := pr) (qt := qt) (Q := Q) (c := c) (i := j)).1
                have ct1 := (cntQ_b (n := i) (pr := pr) (qt := qt) (Q := Q) (c := c) (i := j)).2
                rw [← hct] at ct0 ct1
                by_cases h1 : lf < qt j
                · by_cases h2 : 0 < lf
                  · have _h := h2
                    have hst : ∀ wx, Chg Non wr wx → Calls Tryd.prog 9 #[.pointer (some ⟨bv, 0, none⟩), .int .i64 ((j : Int) + 1)] wx fun e w' => e = .returned (.tuple #[.agg #[.int .i64 ((j : Int) + 1), .int .i64 (1 + (j : Int) % 9), .string ⟨#[65]⟩, .int .i64 1, .int .i64 ((j : Int) % 2), .int .i64 (pr j), .int .i64 (qt j), .int .i64 (qt j), .int .i64 (qt j - lf), .int .i64 lf, .int .i64 0, .int .i64 0], .int .i64 0]) ∧ Chg Non wx w' := by
                      intro wx kx
                      obtain ⟨⟨at2, V2, blk2, lay2, swp2⟩, _⟩ := l2
                      have h := status_lay w.heap.size D A (A + 1) P bv bm bo ao len cap zs at2 pr qt V2 i j blk2 Q wx (lay2.keep kx) swp2 hji hn2 ((j : Int) + 1) rfl
                      have ek : min (qt j) (max 0 (Q - ahd i pr qt (pr j) j)) = lf := by rw [hpc, ← hlf]; omega
                      rw [ek] at h
                      exact h
                    have hlv : (0 : Int) = max 0 (Q - ahd i pr qt c (j + 1)) := by rw [← hpc, ahd_step hji, hpc]; omega
                    have hcv : ct + 1 = cntQ i pr qt Q c (j + 1) := by rw [cntQ_hit hji hpc, ← hct]; rw [if_pos (by omega)]
                    have HST := hide hst
                    have HLV := hide hlv
                    have HCV := hide hcv
                    have HL2d := hide l2
                    have HPC := hide hpc
                    clear hst hlv hcv l2 hlf hct hpc
                    go_wp2_with fail
                    refine (unhide HST _ (Chg.refl Non _)).mono ?_
                    rintro e w5 ⟨rfl, k5⟩
                    have l5 := (unhide HL2d).keep k5
                    have HL5 := hide l5
                    clear l5
                    have cb5 : w5.cell? ⟨A + 1, j, none⟩ = some (.int .i64 (qt j)) := k5.cell cb (fun x => x)
                    clear ca cb cp HST HL2d
                    go_wp2
                    obtain ⟨w6, hw6⟩ : ∃ w6, w6 = w5.alloc (.cells #[.int .i64 ((j : Int) + 1), .int .i64 (1 + (j : Int) % 9), .string ⟨#[65]⟩, .int .i64 1, .int .i64 ((j : Int) % 2), .int .i64 (pr j), .int .i64 (qt j), .int .i64 (qt j), .int .i64 (qt j - lf), .int .i64 lf, .int .i64 0, .int .i64 0] 42) := ⟨_, rfl⟩
                    have hs6 : Blk w6 w5.heap.size #[.int .i64 ((j : Int) + 1), .int .i64 (1 + (j : Int) % 9), .string ⟨#[65]⟩, .int .i64 1, .int .i64 ((j : Int) % 2), .int .i64 (pr j), .int .i64 (qt j), .int .i64 (qt j), .int .i64 (qt j - lf), .int .i64 lf, .int .i64 0, .int .i64 0] 42 := by rw [hw6]; exact Blk.new w5 _ _
                    have k6 : Chg Non w5 w6 := by rw [hw6]; exact (Chg.refl Non w5).alloc _
                    have s8 : w6.cell? ⟨w5.heap.size, 8, none⟩ = some (.int .i64 (qt j - lf)) := hs6.cell 8
                    have s9 : w6.cell? ⟨w5.heap.size, 9, none⟩ = some (.int .i64 lf) := hs6.cell 9
                    have cb6 := k6.cell cb5 (fun x => x)
                    have HL6 := hide ((unhide HL5).keep k6)
                    rw [← hw6]
                    clear hw6 hs6 cb5 HL5
                    go_quiet (fail)
                    go_wp2
                    go_roundg (i - (j + 1))
                    case measure => have := unhide HGJ; omega
                    case rel => exact ⟨j + 1, by push_cast; rfl, by omega, rfl, congrArg (Value.int .i64) (unhide HLV), congrArg (Value.int .i64) (unhide HCV), (unhide HL6).keep ((Chg.refl Non _).drewN _)⟩
                  · have _h := h2
                    have hst : ∀ wx, Chg Non wr wx → Calls Tryd.prog 9 #[.pointer (some ⟨bv, 0, none⟩), .int .i64 ((j : Int) + 1)] wx fun e w' => e = .returned (.tuple #[.agg #[.int .i64 ((j : Int) + 1), .int .i64 (1 + (j : Int) % 9), .string ⟨#[65]⟩, .int .i64 1, .int .i64 ((j : Int) % 2), .int .i64 (pr j), .int .i64 (qt j), .int .i64 (qt j), .int .i64 (qt j - lf), .int .i64 lf, .int .i64 0, .int .i64 0], .int .i64 0]) ∧ Chg Non wx w' := by
                      intro wx kx
                      obtain ⟨⟨at2, V2, blk2, lay2, swp2⟩, _⟩ := l2
                      have h := status_lay w.heap.size D A (A + 1) P bv bm bo ao len cap zs at2 pr qt V2 i j blk2 Q wx (lay2.keep kx) swp2 hji hn2 ((j : Int) + 1) rfl
                      have ek : min (qt j) (max 0 (Q - ahd i pr qt (pr j) j)) = lf := by rw [hpc, ← hlf]; omega
                      rw [ek] at h
                      exact h
                    have hlv : (0 : Int) = max 0 (Q - ahd i pr qt c (j + 1)) := by rw [← hpc, ahd_step hji, hpc]; omega
                    have hcv : ct = cntQ i pr qt Q c (j + 1) := by rw [cntQ_hit hji hpc, ← hct]; rw [if_neg (by omega)]; omega
                    have HST := hide hst
                    have HLV := hide hlv
                    have HCV := hide hcv
                    have HL2d := hide l2
                    have HPC := hide hpc
                    clear hst hlv hcv l2 hlf hct hpc
                    go_wp2_with fail
                    refine (unhide HST _ (Chg.refl Non _)).mono ?_
                    rintro e w5 ⟨rfl, k5⟩
                    have l5 := (unhide HL2d).keep k5
                    have HL5 := hide l5
                    clear l5
                    have cb5 : w5.cell? ⟨A + 1, j, none⟩ = some (.int .i64 (qt j)) := k5.cell cb (fun x => x)
                    clear ca cb cp HST HL2d
                    go_wp2
                    obtain ⟨w6, hw6⟩ : ∃ w6, w6 = w5.alloc (.cells #[.int .i64 ((j : Int) + 1), .int .i64 (1 + (j : Int) % 9), .string ⟨#[65]⟩, .int .i64 1, .int .i64 ((j : Int) % 2), .int .i64 (pr j), .int .i64 (qt j), .int .i64 (qt j), .int .i64 (qt j - lf), .int .i64 lf, .int .i64 0, .int .i64 0] 42) := ⟨_, rfl⟩
                    have hs6 : Blk w6 w5.heap.size #[.int .i64 ((j : Int) + 1), .int .i64 (1 + (j : Int) % 9), .string ⟨#[65]⟩, .int .i64 1, .int .i64 ((j : Int) % 2), .int .i64 (pr j), .int .i64 (qt j), .int .i64 (qt j), .int .i64 (qt j - lf), .int .i64 lf, .int .i64 0, .int .i64 0] 42 := by rw [hw6]; exact Blk.new w5 _ _
                    have k6 : Chg Non w5 w6 := by rw [hw6]; exact (Chg.refl Non w5).alloc _
                    have s8 : w6.cell? ⟨w5.heap.size, 8, none⟩ = some (.int .i64 (qt j - lf)) := hs6.cell 8
                    have s9 : w6.cell? ⟨w5.heap.size, 9, none⟩ = some (.int .i64 lf) := hs6.cell 9
                    have cb6 := k6.cell cb5 (fun x => x)
                    have HL6 := hide ((unhide HL5).keep k6)
                    rw [← hw6]
                    clear hw6 hs6 cb5 HL5
                    go_quiet (fail)
                    go_wp2
                    go_roundg (i - (j + 1))
                    case measure => have := unhide HGJ; omega
                    case rel => exact ⟨j + 1, by push_cast; rfl, by omega, rfl, congrArg (Value.int .i64) (unhide HLV), congrArg (Value.int .i64) (unhide HCV), (unhide HL6).keep ((Chg.refl Non _).drewN _)⟩
                · have h2 : 0 < qt j := by omega
                  have hst : ∀ wx, Chg Non wr wx → Calls Tryd.prog 9 #[.pointer (some ⟨bv, 0, none⟩), .int .i64 ((j : Int) + 1)] wx fun e w' => e = .returned (.tuple #[.agg #[.int .i64 ((j : Int) + 1), .int .i64 (1 + (j : Int) % 9), .string ⟨#[65]⟩, .int .i64 1, .int .i64 ((j : Int) % 2), .int .i64 (pr j), .int .i64 (qt j), .int .i64 (qt j), .int .i64 0, .int .i64 (qt j), .int .i64 0, .int .i64 0], .int .i64 0]) ∧ Chg Non wx w' := by
                    intro wx kx
                    obtain ⟨⟨at2, V2, blk2, lay2, swp2⟩, _⟩ := l2
                    have h := status_lay w.heap.size D A (A + 1) P bv bm bo ao len cap zs at2 pr qt V2 i j blk2 Q wx (lay2.keep kx) swp2 hji hn2 ((j : Int) + 1) rfl
                    have ek : min (qt j) (max 0 (Q - ahd i pr qt (pr j) j)) = (qt j) := by rw [hpc, ← hlf]; omega
                    rw [ek] at h
                    refine h.mono ?_
                    rintro e w' ⟨rfl, k⟩
                    refine ⟨?_, k⟩
                    simp only [statC, selO, Int.sub_self]
                  have hlv : lf - qt j = max 0 (Q - ahd i pr qt c (j + 1)) := by rw [← hpc, ahd_step hji, hpc]; omega
                  have hcv : ct + 1 = cntQ i pr qt Q c (j + 1) := by rw [cntQ_hit hji hpc, ← hct]; rw [if_pos (by omega)]
                  have HST := hide hst
                  have HLV := hide hlv
                  have HCV := hide hcv
                  have HL2d := hide l2
                  have HPC := hide hpc
                  clear hst hlv hcv l2 hlf hct hpc
                  go_wp2_with fail
                  refine (unhide HST _ (Chg.refl Non _)).mono ?_
                  rintro e w5 ⟨rfl, k5⟩
                  have l5 := (unhide HL2d).keep k5
                  have HL5 := hide l5
                  clear l5
                  have cb5 : w5.cell? ⟨A + 1, j, none⟩ = some (.int .i64 (qt j)) := k5.cell cb (fun x => x)
                  clear ca cb cp HST HL2d
                  go_wp2
                  obtain ⟨w6, hw6⟩ : ∃ w6, w6 = w5.alloc (.cells #[.int .i64 ((j : Int) + 1), .int .i64 (1 + (j : Int) % 9), .string ⟨#[65]⟩, .int .i64 1, .int .i64 ((j : Int) % 2), .int .i64 (pr j), .int .i64 (qt j), .int .i64 (qt j), .int .i64 0, .int .i64 (qt j), .int .i64 0, .int .i64 0] 42) := ⟨_, rfl⟩
                  have hs6 : Blk w6 w5.heap.size #[.int .i64 ((j : Int) + 1), .int .i64 (1 + (j : Int) % 9), .string ⟨#[65]⟩, .int .i64 1, .int .i64 ((j : Int) % 2), .int .i64 (pr j), .int .i64 (qt j), .int .i64 (qt j), .int .i64 0, .int .i64 (qt j), .int .i64 0, .int .i64 0] 42 := by rw [hw6]; exact Blk.new w5 _ _
                  have k6 : Chg Non w5 w6 := by rw [hw6]; exact (Chg.refl Non w5).alloc _
                  have s8 : w6.cell? ⟨w5.heap.size, 8, none⟩ = some (.int .i64 0) := hs6.cell 8
                  have s9 : w6.cell? ⟨w5.heap.size, 9, none⟩ = some (.int .i64 (qt j)) := hs6.cell 9
                  have cb6 := k6.cell cb5 (fun x => x)
                  have HL6 := hide ((unhide HL5).keep k6)
                  rw [← hw6]
                  clear hw6 hs6 cb5 HL5
                  go_quiet (fail)
                  go_wp2
                  go_roundg (i - (j + 1))
                  case measure => have := unhide HGJ; omega
                  case rel => exact ⟨j + 1, by push_cast; rfl, by omega, rfl, congrArg (Value.int .i64) (unhide HLV), congrArg (Value.int .i64) (unhide HCV), (unhide HL6).keep ((Chg.refl Non _).drewN _)⟩
              · have epc : (pr j != (c : Int)) = true := by simp [hpc]
                have hlv : lf = max 0 (Q - ahd i pr qt c (j + 1)) := by rw [ahd_skip hpc]; exact hlf
                have hcv : ct = cntQ i pr qt Q c (j + 1) := by rw [cntQ_skip hpc]; exact hct
                have HLV := hide hlv
                have HCV := hide hcv
                have HL2d := hide l2
                clear hlv hcv l2 hlf hct hpc cb cp
                go_wp2
                go_roundg (i - (j + 1))
                case measure => have := unhide HGJ; omega
                case rel => exact ⟨j + 1, by push_cast; rfl, by omega, rfl, congrArg (Value.int .i64) (unhide HLV), congrArg (Value.int .i64) (unhide HCV), unhide HL2d⟩
            · obtain rfl : j = i := by omega
              have HLF := hide hlf
              have HCT := hide hct
              have HL2d := hide l2
              clear hlf hct l2
              go_wp2
              go_roundg (104 - (c + 1))
              case measure => have := unhide HGC; omega
              case rel => exact ⟨c + 1, by push_cast; rfl, by omega, by omega, rfl, by rw [unhide HLF, ahd_row]; push_cast; rfl, by rw [unhide HCT, cntQ_row]; push_cast; rfl, unhide HL2d⟩
        · obtain rfl : c = 104 := by omega
          have hlf := unhide HLF
          have hct := unhide HCT
          rw [show ((104 : Nat) : Int) = 104 from rfl, ahd_last (fun j hj => (unhide HB j hj).2.1)] at hlf
          rw [show ((104 : Nat) : Int) = 104 from rfl, cntQ_last (fun j hj => (unhide HB j hj).2.1)] at hct
          have hr := (unhide HL2c).r
          have hN := cntQ_b (n := i) (pr := pr) (qt := qt) (Q := Q) (c := 104) (i := 0)
          rw [cntQ_last (fun j hj => (unhide HB j hj).2.1)] at hN
          have hF0 : 0 ≤ min Q (tot i qt) := by
            have : 0 ≤ tot i qt := sumIf_nonneg i (fun k hk => by have := (unhide HB k hk).2.2.1; omega)
            omega
          have hF1 : min Q (tot i qt) ≤ Q := by omega
          have hlf2 : lf = Q - min Q (tot i qt) := by omega
          have HBel2 := hide (unhide HL2c).old
          clear HLF HCT HL2c hlf
          generalize min Q (tot i qt) = F at *
          generalize nTr i pr qt Q = N at *
          subst hlf2 hct
          obtain ⟨hN0, hN1⟩ := hN
          have r0 : wr.cell? ⟨rb, 0, none⟩ = some (.int .i64 F) := hr.cell 0
          have r1 : wr.cell? ⟨rb, 1, none⟩ = some (.int .i64 0) := hr.cell 1
          have r2 : wr.cell? ⟨rb, 2, none⟩ = some (.int .i64 (Q - F)) := hr.cell 2
          have r3 : wr.cell? ⟨rb, 3, none⟩ = some (.int .i64 1) := hr.cell 3
          have r4 : wr.cell? ⟨rb, 4, none⟩ = some (.int .i64 ct) := hr.cell 4
          have e1 : (F == Q - (Q - F)) = true := by simp; omega
          have e2 : (Q - F == Q - F) = true := by simp
          have e3 : (ct == ct) = true := by simp
          clear hr
          go_wp2
          go_ret
          exact ⟨rfl, unhide HBel2⟩

end Go.Proofs.YtigaphnafnpfnaaDoor
