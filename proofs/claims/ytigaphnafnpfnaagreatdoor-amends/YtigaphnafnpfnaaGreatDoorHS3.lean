import Derived.Test.YtigaphnafnpfnaaGreatDoorHS1
/- setPrice -/
set_option linter.unusedVariables false
set_option linter.unusedSimpArgs false
namespace Go.Proofs.YtigaphnafnpfnaaGreatDoor
open Go.RowKit Go.Maps
attribute [local go_sem ↓] Go.wp_at_zero Go.wp_at_succ

def Tr.at (t : Tr) (p : Int) : Tr := { t with price := p }

/-- a trade has another price -/
def Lg.reprice (G : Lg) (k : Nat) (x : Tg) (p : Int) : Lg := { G with tr := G.tr.set k ⟨x.t.at p, x.holds⟩ }

theorem IsLogp.reprice {w : World} {bv bm bo k b : Nat} {G : Lg} {m : Lm} {x : Tg} (h : IsLog w bv bm bo G m) (hx : G.tr[k]? = some x) (hb : m.tb[k]? = some b) (p : Int) : IsLog (w.setCell ⟨b, 2, none⟩ (.int .i64 p)) bv bm bo (G.reprice k x p) m := by
  have hblk := h.log.blk k b x hb hx
  have kk : Chg (fun y => y = b) w (w.setCell ⟨b, 2, none⟩ (.int .i64 p)) := (Chg.refl (fun y => y = b) w).setCell (p := ⟨b, 2, none⟩) (.inl rfl) _
  refine ⟨kk.blk h.ven (Blk.ne h.ven hblk (by decide)), ?_⟩
  have ht := own_kept h.log.trow kk (fun y hy e => own_ne h.log.trow hy hblk (by decide) e)
  refine ⟨?_, own_kept h.log.prow kk (fun y hy e => own_ne h.log.prow hy hblk (by decide) e), by simp [Lg.reprice, h.log.len], fun i b' g hi hg => ?_, h.log.nodup, h.log.act.kept kk (fun y hy e => ?_), own_kept h.log.jrow kk (fun y hy e => own_ne h.log.jrow hy hblk (by decide) e), h.log.jb⟩
  · simp only [Lg.reprice, List.length_set]; exact ht
  · simp only [Lg.reprice] at hg
    by_cases e : i = k
    · subst e
      obtain rfl : b' = b := by rw [hb] at hi; exact (Option.some.inj hi).symm
      have hlt : i < G.tr.length := (List.getElem?_eq_some_iff.1 hx).1
      rw [List.getElem?_set_self hlt] at hg
      obtain rfl := Option.some.inj hg
      exact hblk.set 2 _
    · rw [List.getElem?_set_ne (fun h => e h.symm)] at hg
      refine kk.blk (h.log.blk i b' g hi hg) (fun e2 => e ?_)
      subst e2
      obtain ⟨h1, e1⟩ := List.getElem?_eq_some_iff.1 hi
      obtain ⟨h2, e2⟩ := List.getElem?_eq_some_iff.1 hb
      rcases Nat.lt_trichotomy i k with hlt | hlt | hlt
      · exact absurd (e1.trans e2.symm) (List.pairwise_iff_getElem.1 h.log.nodup i k h1 h2 hlt)
      · exact hlt
      · exact absurd (e2.trans e1.symm) (List.pairwise_iff_getElem.1 h.log.nodup k i h2 h1 hlt)
  · obtain ⟨c, t, hc, ht'⟩ := h.log.act.typ hy
    subst e
    exact Blk.ne hc hblk (by rcases ht' with rfl | rfl <;> decide) rfl

set_option maxHeartbeats 1000000 in
set_option maxRecDepth 100000 in
theorem setPrice_any (bv bm bo k tb : Nat) (G : Lg) (m : Lm) (x : Tg) (p : Int) (w : World) (hL : IsLog w bv bm bo G m) (hx : G.tr[k]? = some x) (htb : m.tb[k]? = some tb) (hlen : G.tp.length < 1000000) :
    Calls Tryz.prog 76 #[.pointer (some ⟨bv, 0, none⟩), .pointer (some ⟨tb, 0, none⟩), .int .i64 p] w fun e w' => e = .returned (.tuple #[]) ∧
      ∃ m', IsLog w' bv bm bo ((G.reprice k x p).told 3 (x.t.at p)) m' ∧ (∀ b, m'.F b → m.F b ∨ w.heap.size ≤ b) ∧ Chg (fun b => b = bv ∨ m.F b) w w' := by
  have hblk := hL.log.blk k tb x htb hx
  have hF : m.F tb := .inr (.inr (.inl (List.mem_of_getElem? htb)))
  obtain ⟨w1, hw1⟩ : ∃ w1, w1 = w.setCell ⟨tb, 2, none⟩ (.int .i64 p) := ⟨_, rfl⟩
  have k1 : Chg (fun y => y = tb) w w1 := by rw [hw1]; exact (Chg.refl (fun y => y = tb) w).setCell (p := ⟨tb, 2, none⟩) (.inl rfl) _
  have hL1 : IsLog w1 bv bm bo (G.reprice k x p) m := by rw [hw1]; exact hL.reprice hx htb p
  have b1 : Blk w1 tb #[.int .i64 x.t.num, .string x.t.sym, .int .i64 p, .int .i64 x.t.qty, .int .i64 x.t.buy, .int .i64 x.t.sell, .int .i64 x.t.day, .bool x.holds] 105 := by rw [hw1]; exact hblk.set 2 _
  have c2 := hblk.cell 2
  have f2 := hblk.frozen 2
  simp only [Tg.cells] at c2
  simp at c2
  have c0 : w.cell? ⟨tb, 0, none⟩ = some (.int .i64 x.t.num) := hblk.cell 0
  have c1 : w.cell? ⟨tb, 1, none⟩ = some (.string x.t.sym) := hblk.cell 1
  have c3 : w.cell? ⟨tb, 3, none⟩ = some (.int .i64 x.t.qty) := hblk.cell 3
  have c4 : w.cell? ⟨tb, 4, none⟩ = some (.int .i64 x.t.buy) := hblk.cell 4
  have c5 : w.cell? ⟨tb, 5, none⟩ = some (.int .i64 x.t.sell) := hblk.cell 5
  have c6 : w.cell? ⟨tb, 6, none⟩ = some (.int .i64 x.t.day) := hblk.cell 6
  have hT := tell_any bv bm bo _ m 3 (x.t.at p) w1 hL1 hlen
  simp only [Tr.val, Tr.at] at hT
  have HT := hide hT
  have HW := hide hw1
  have HK := hide k1
  have HF := hide hF
  clear hT hw1 k1 hL1 b1 hL hblk hF hx htb
  go_enter Tryz.func76, Tryz.ntmps76
  go_wp2_with (go_at_call 73; rw [← unhide HW]; refine (unhide HT).mono ?_; rintro e w2 ⟨rfl, m', h1, h2, h3⟩; have H1 := hide h1; have H2 := hide h2; have H3 := hide h3; clear h1 h2 h3)
  go_end0
  refine ⟨rfl, m', unhide H1, fun b hb => (unhide H2 b hb).imp_right (fun h => Nat.le_trans (unhide HK).size h), ?_⟩
  exact ((unhide HK).mono (fun y e => .inr (by rw [e]; exact unhide HF))).trans ((unhide H3).mono (fun y h => h.imp_right (fun h => .inr (.inl (.inl h)))))

end Go.Proofs.YtigaphnafnpfnaaGreatDoor

/- Correct -/
set_option linter.unusedVariables false
set_option linter.unusedSimpArgs false
namespace Go.Proofs.YtigaphnafnpfnaaGreatDoor
open Go.RowKit Go.Maps
attribute [local go_sem ↓] Go.wp_at_zero Go.wp_at_succ

theorem line2_from (word : ByteArray) (a b : Int) (w : World) (hT : Tab w) (h0 : 0 < word.size) (hw : word.size ≤ 100) (ha : i64B a) (hb : i64B b) :
    (0 < (lineF (two a b) word 2).size ∧ (lineF (two a b) word 2).size ≤ 290) ∧ ∀ W, Chg Non w W → ∀ sb cap, W.cell? ⟨sb, 0, none⟩ = some (.int .i64 a) → W.cell? ⟨sb, 1, none⟩ = some (.int .i64 b) →
      Calls Tryz.prog 65 #[.string word, .slice (some ⟨sb, 0, none⟩) 2 cap] W fun e w' => e = .returned (.string (lineF (two a b) word 2)) ∧ Chg Non w w' := by
  have h := lines_from word (two a b) 2 w hT h0 hw (by omega) (fun i hi => by
    match i, hi with
    | 0, _ => exact ha
    | 1, _ => exact hb)
  refine ⟨h.1, fun W k sb cap c0 c1 => h.2 W k sb cap (fun i hi => ?_)⟩
  match i, hi with
  | 0, _ => exact c0
  | 1, _ => exact c1

/-- a price is no quantity -/
theorem fl_price {om : Nat → Ord} {oid : Int → Option Nat} {tr : List Tg} {k : Nat} {x : Tg} (h : FL om oid (held tr) (fun _ => 0)) (hn : Numd tr) (hx : tr[k]? = some x) (hh : x.holds = true) (p : Int) : FL om oid (held (tr.set k ⟨x.t.at p, true⟩)) (fun _ => 0) := by
  have hl := (List.getElem?_eq_some_iff.1 hx).1
  obtain ⟨e, _, _⟩ := held_split hn hx
  rw [hh, if_pos rfl] at e
  have e2 : held (tr.set k ⟨x.t.at p, true⟩) = held (tr.take k) ++ [x.t.at p] ++ held (tr.drop (k + 1)) := by
    rw [set_split hl, held_append, held_append, held_one]
    simp
  rw [e2]
  rw [e] at h
  refine ⟨fun t ht => ?_, h.ids, fun id b hb => ?_⟩
  · simp only [List.mem_append, List.mem_singleton] at ht
    rcases ht with (ht | ht) | ht
    · exact h.tw t (by simp [ht])
    · subst ht
      obtain ⟨a, b, c⟩ := h.tw x.t (by simp)
      exact ⟨a, b, c⟩
    · exact h.tw t (by simp [ht])
  · have h0 := h.eq id b hb
    rw [sumT_append, sumT_append] at h0 ⊢
    rw [h0]
    rfl

/-- a trade gets another price, as an act of its own -/
def Lg.pricing (G : Lg) (k tb : Nat) (x : Tg) (p : Int) : Lg := ((G.begun.reprice k x p).told 3 (x.t.at p)).noted [.priced tb x.t.price]

set_option maxHeartbeats 4000000 in
set_option maxRecDepth 100000 in
theorem correct_ok (bv bm bo k tb : Nat) (V : Ven) (N price : Int) (x : Tg) (w : World) (R : Rep w bv bm bo V) (hTab : Tab w) (hN : N - 1 = (k : Int)) (hx : V.lg.tr[k]? = some x) (htb : V.lm.tb[k]? = some tb) (hlen : V.lg.tr.length ≤ 1000000) (hlen2 : V.lg.tp.length < 1000000) (hput : putE x V.lg.day = 0) (hp : numB price = true) (hna : V.lg.na < 1000000) :
    Calls Tryz.prog 40 #[.pointer (some ⟨bv, 0, none⟩), .int .i64 N, .int .i64 price] w fun e w' => e = .returned (.int .i64 0) ∧
      ∃ lm', IsLog w' bv bm bo (V.lg.pricing k tb x price) lm' ∧ (∀ y, lm'.F y → V.lm.F y ∨ w.heap.size ≤ y) ∧ Chg (fun y => y = bv ∨ V.lm.F y) w w' := by
  have bN : i64B N := by
    have hk := (List.getElem?_eq_some_iff.1 hx).1
    exact ⟨by omega, by omega⟩
  have bP : i64B price := i64_of (by simp [numB] at hp; omega)
  have k0 : Chg Non w (w.alloc (.cells #[.pointer (some ⟨bv, 0, none⟩)] 35)) := (Chg.refl Non w).alloc _
  have hT := toPut_at bv bm bo k tb V.lg V.lm N x _ (R.log.kept0 k0) hN hx htb hlen
  rw [hput] at hT
  simp only [if_true] at hT
  have HT := hide hT
  clear hT
  have hBv := Blk.new w #[.pointer (some ⟨bv, 0, none⟩)] 35
  have lv := R.ven.lt
  have HR := hide R
  have HX := hide hx
  have HTB := hide htb
  clear hput hx htb R
  go_enter Tryz.func40, Tryz.ntmps40
  go_wp2_with fail
  refine (unhide HT).mono ?_
  rintro e w1 ⟨rfl, k1⟩
  have kk1 : Chg Non w w1 := k0.trans k1
  obtain ⟨w1a, hw1a⟩ : ∃ w1a, w1a = w1.alloc (.cells #[.pointer (some ⟨tb, 0, none⟩)] 103) := ⟨_, rfl⟩
  have k1a : Chg Non w w1a := by rw [hw1a]; exact kk1.alloc _
  have s1a : w1a.heap.size = w1.heap.size + 1 := by rw [hw1a]; simp
  have bv1 : Blk w1a w.heap.size #[.pointer (some ⟨bv, 0, none⟩)] 35 := by rw [hw1a]; exact (k1.blk hBv (fun x => x)).alloc _
  have bt1 : Blk w1a w1.heap.size #[.pointer (some ⟨tb, 0, none⟩)] 103 := by rw [hw1a]; exact Blk.new _ _ _
  have R1 := (unhide HR).kept0 k1a
  have hLs := line2_from ⟨#[99, 111, 114, 114, 101, 99, 116]⟩ N price w1a (hTab.kept0 k1a) (by decide) (by decide) bN bP
  generalize lineF (two N price) ⟨#[99, 111, 114, 114, 101, 99, 116]⟩ 2 = ln at hLs
  have HBeg := hide (begin_from bv bm bo V.lg V.lm ln w1a R1.log hna hLs.1.1 hLs.1.2)
  have HLn := hide hLs.2
  have xv1a : w1a.cell? ⟨w.heap.size, 0, none⟩ = some (.pointer (some ⟨bv, 0, none⟩)) := bv1.cell 0
  have xv1 : w1.cell? ⟨w.heap.size, 0, none⟩ = some (.pointer (some ⟨bv, 0, none⟩)) := (k1.blk hBv (fun x => x)).cell 0
  have HW := hide hw1a
  have l1 : w.heap.size < w1.heap.size := by have := kk1.size; have := k1.size; simp at this; omega
  -- old blocks of the log lie below w, the boxes do not
  have out0 : ∀ y, w.heap.size ≤ y → ¬ (y = bv ∨ V.lm.F y) := by
    rintro y hy (e | e)
    · omega
    · have := (unhide HR).log.log.lt e; omega
  have HC0 : Hid ((w1a.alloc (.cells #[.int .i64 N, .int .i64 price] 3)).cell? ⟨w1.heap.size + 1, 0, none⟩ = some (.int .i64 N)) := by
    show _ = _
    rw [← s1a]; exact (Blk.new w1a _ _).cell 0
  have HC1 : Hid ((w1a.alloc (.cells #[.int .i64 N, .int .i64 price] 3)).cell? ⟨w1.heap.size + 1, 1, none⟩ = some (.int .i64 price)) := by
    show _ = _
    rw [← s1a]; exact (Blk.new w1a _ _).cell 1
  have HOut := hide out0
  have HB1 := hide bv1
  have HT1 := hide bt1
  have HR1 := hide R1
  have HK1 := hide k1a
  have HS1 := hide s1a
  clear hw1a k1 hLs out0 R1 bv1 bt1 k1a
  go_wp2_with (go_at_call 68; refine (isNumber_any _ _).mono ?_; rintro e w' ⟨rfl, rfl⟩)
  rw [← unhide HW]
  go_region_held3 (fun w' => w'.cell? ⟨w.heap.size, 0, none⟩ = some (.pointer (some ⟨bv, 0, none⟩))) (go_keep)
    (first
      | (go_at_call 65; refine (unhide HLn _ ?cc _ _ ?c0 ?c1).mono ?_; (case c0 => exact unhide HC0); (case c1 => exact unhide HC1); (case cc => repeat (first | exact Chg.refl _ _ | refine Chg.drew ?_ | refine Chg.alloc ?_ _)); rintro e wl ⟨rfl, hk⟩; have z0 := hk.cell (p := ⟨w.heap.size, 0, none⟩) xv1a (fun x => x); have HKl := hide hk; clear hk)
      | (go_at_call 51; refine (unhide HBeg _ ?cc).mono ?_; (case cc => repeat (first | exact unhide HKl | refine Chg.drew ?_)); rintro e wb ⟨rfl, lmb, hLb, hFb, kb, htbb, -⟩; have z0 := kb.cell (p := ⟨w.heap.size, 0, none⟩) xv1a (unhide HOut _ (Nat.le_refl _)); have HLb0 := hide hLb; have HFb0 := hide hFb; have HKb0 := hide kb; have HTb0 := hide htbb; clear hLb hFb kb htbb))
  rename_i hSk
  clear hSk z0 xv1a xv1 HLn HKl HBeg
  have hLb := unhide HLb0
  have hFb := unhide HFb0
  have kb := unhide HKb0
  have htbb := unhide HTb0
  have bvb := kb.blk (unhide HB1) (unhide HOut _ (Nat.le_refl _))
  have btb := kb.blk (unhide HT1) (unhide HOut _ (by omega))
  have htb' : lmb.tb[k]? = some tb := by rw [htbb]; exact unhide HTB
  have hx' : V.lg.begun.tr[k]? = some x := unhide HX
  have tbb : Blk wb tb x.cells 105 := hLb.log.blk k tb x htb' hx'
  have xv : wb.cell? ⟨w.heap.size, 0, none⟩ = some (.pointer (some ⟨bv, 0, none⟩)) := bvb.cell 0
  have xt : wb.cell? ⟨w1.heap.size, 0, none⟩ = some (.pointer (some ⟨tb, 0, none⟩)) := btb.cell 0
  have t2 : wb.cell? ⟨tb, 2, none⟩ = some (.int .i64 x.t.price) := tbb.cell 2
  have lvb := bvb.lt
  have ltb := btb.lt
  have ktb := tbb.lt
  have outb : ∀ y, w.heap.size ≤ y → y < w1a.heap.size → ¬ (y = bv ∨ lmb.F y) := by
    rintro y h1 h2 (e | e)
    · omega
    · rcases hFb y e with e | e
      · exact unhide HOut y h1 (.inr e)
      · omega
  have hSP := fun W (kW : Chg Non wb W) => setPrice_any bv bm bo k tb V.lg.begun lmb x price W (hLb.kept0 kW) hx' htb' (by simp only [Lg.begun]; exact hlen2)
  have HSP := hide hSP
  have HOb := hide outb
  have HLb := hide hLb
  have HBb := hide bvb
  have HTb := hide btb
  have szb := (unhide HKb0).size
  have szc := (unhide HS1)
  clear hSP outb hLb hFb kb htbb bvb btb tbb htb' hx'
  go_wp2_with (go_at_call 76; refine (unhide HSP _ ?cc).mono ?_; (case cc => repeat (first | exact Chg.refl _ _ | refine Chg.drew ?_ | refine Chg.alloc ?_ _)); rintro e wd ⟨rfl, lmd, hLd, hFd, kd⟩; have HLd := hide hLd; have HFd := hide hFd; have HKd := hide kd; have bvd := kd.blk ((unhide HBb).alloc (.cells #[.int .i64 x.t.price] 3)) (unhide HOb _ (Nat.le_refl _) (by omega)); have xvd : wd.cell? ⟨w.heap.size, 0, none⟩ = some (.pointer (some ⟨bv, 0, none⟩)) := bvd.cell 0; have HNt := hide (note1A bv bm bo _ lmd (.priced tb x.t.price) (.func 77) #[.pointer (some ⟨w.heap.size, 0, none⟩), .pointer (some ⟨w1.heap.size, 0, none⟩), .pointer (some ⟨wb.heap.size, 0, none⟩)] wd hLd (by show 0 < V.lg.na + 1; omega) (by show V.lg.na + 1 ≤ 1000000; omega) (by show 0 + 1 < 1000000; omega)); clear hLd hFd kd bvd)
  refine (unhide HNt).mono ?_
  rintro e w4 ⟨rfl, lm4, c1, c2, c3, -⟩
  have H1 := hide c1
  have H2 := hide c2
  have H3 := hide c3
  clear c1 c2 c3
  go_wp2
  go_ret
  have s1 := (unhide HK1).size
  have sd := (unhide HKd).size
  simp at sd
  have hB : ∀ y, lmb.F y → V.lm.F y ∨ w.heap.size ≤ y := fun y h => (unhide HFb0 y h).imp_right (fun h => by omega)
  have hD : ∀ y, lmd.F y → V.lm.F y ∨ w.heap.size ≤ y := fun y h => by
    rcases unhide HFd y h with h | h
    · exact hB y h
    · simp at h; exact .inr (by omega)
  have kF1 : Chg (fun y => y = bv ∨ V.lm.F y) w wb := (unhide HK1).of_non.trans (unhide HKb0)
  have kF3 := (kF1.alloc (.cells #[.int .i64 x.t.price] 3)).from ((unhide HKd).mono (fun y h => by
    rcases h with h | h
    · exact .inl (.inl h)
    · exact (hB y h).imp_left .inr))
  refine ⟨rfl, lm4, unhide H1, fun y h => ?_, kF3.from ((unhide H3).mono (fun y h => (hD y (.inr (.inr (.inr h)))).imp_left .inr))⟩
  rcases unhide H2 y h with h | h
  · exact hD y h
  · exact .inr (by omega)

theorem ven_correct (bv bm bo n K : Nat) (V : Ven) (M N price : Int) (w : World) (R : Rep w bv bm bo V) (hT : Tab w) (g : GV V n M) (av : AV V) (hK : LenOK V K) (hK2 : K + 300 < 1000000) (hp : numB price = true) :
    Calls Tryz.prog 40 #[.pointer (some ⟨bv, 0, none⟩), .int .i64 N, .int .i64 price] w fun e w' => ∃ E, e = .returned (.int .i64 E) ∧ PutRes bv bm bo n (K + 101) V M E w w' := by
  have hK' := hK
  obtain ⟨k1, k2, k3, k4⟩ := hK'
  by_cases hr : N < 1 ∨ (V.lg.tr.length : Int) < N
  · refine (correct_err bv N 6 price none w (by decide) (fun W kW => toPut_none bv bm bo V.lg V.lm N W (R.log.kept0 kW) hr)).mono ?_
    rintro e w' ⟨rfl, kk⟩
    exact ⟨6, rfl, .inl ⟨.inl rfl, kk⟩⟩
  · obtain ⟨k, hk⟩ : ∃ k : Nat, N - 1 = (k : Int) := ⟨(N - 1).toNat, by omega⟩
    have hkl : k < V.lg.tr.length := by omega
    obtain ⟨x, hx⟩ : ∃ x, V.lg.tr[k]? = some x := ⟨_, List.getElem?_eq_getElem hkl⟩
    obtain ⟨tb, htb⟩ : ∃ tb, V.lm.tb[k]? = some tb := ⟨_, List.getElem?_eq_getElem (by rw [R.log.log.len]; exact hkl)⟩
    rcases putE_cases x V.lg.day with he | ⟨h0, hh⟩
    · have hne : putE x V.lg.day ≠ 0 := by omega
      refine (correct_err bv N (putE x V.lg.day) price none w hne (fun W kW => (toPut_at bv bm bo k tb V.lg V.lm N x W (R.log.kept0 kW) hk hx htb (by omega)).mono (fun e w' h => ?_))).mono ?_
      · rw [if_neg hne] at h; exact h
      · rintro e w' ⟨rfl, kk⟩
        exact ⟨_, rfl, .inl ⟨.inr he, kk⟩⟩
    · refine (correct_ok bv bm bo k tb V N price x w R hT hk hx htb (by omega) (by omega) h0 hp (by omega)).mono ?_
      rintro e w' ⟨rfl, lm', hL, hF, kc⟩
      have R' := R.turnLog hL kc
      have htr : (V.lg.pricing k tb x price).tr = V.lg.tr.set k ⟨x.t.at price, x.holds⟩ := rfl
      have htp : (V.lg.pricing k tb x price).tp = V.lg.tp ++ [⟨(V.lg.tp.length : Int) + 1, 3, x.t.at price⟩] := rfl
      refine ⟨0, rfl, .inr ⟨rfl, _, R', ⟨⟨g.relog _ _, ⟨?_, ?_, fun y hy => ?_, ?_⟩, ⟨?_, ?_, av.ty.snoc (r := ⟨(V.lg.tp.length : Int) + 1, 3, x.t.at price⟩) (k3 x (List.mem_of_getElem? hx)) htp⟩⟩, rfl, by show V.lg.tp.length ≤ (V.lg.pricing k tb x price).tp.length; rw [htp, List.length_append]; exact Nat.le_add_right _ _⟩, kc.mono (fun y h => ?_), fun y hy => ?_⟩⟩
      · show (V.lg.pricing k tb x price).tp.length ≤ _
        rw [htp, List.length_append]; simp; omega
      · show (V.lg.pricing k tb x price).tr.length ≤ _
        rw [htr, List.length_set]; omega
      · have hy' : y ∈ V.lg.tr.set k ⟨x.t.at price, x.holds⟩ := hy
        rcases List.mem_or_eq_of_mem_set hy' with h | h
        · exact k3 y h
        · rw [h]; exact k3 x (List.mem_of_getElem? hx)
      · show V.lg.na + 1 ≤ _; omega
      · show Told (V.lg.tr.set k ⟨x.t.at price, x.holds⟩) (V.lg.tp ++ [⟨(V.lg.tp.length : Int) + 1, 3, x.t.at price⟩])
        rw [hh]
        exact Told.correct av.told hx hh rfl rfl rfl rfl
      · show FL V.om V.oid (held (V.lg.tr.set k ⟨x.t.at price, x.holds⟩)) (fun _ => 0)
        rw [hh]
        exact fl_price av.fl av.told.num hx hh price
      · rcases h with h | h
        · exact .inl h
        · exact .inr (.inr (.inr (.inr (.inr h))))
      · rcases hy with h | h | h | h | h | h
        · exact .inl (.inl h)
        · exact .inl (.inr (.inl h))
        · exact .inl (.inr (.inr (.inl h)))
        · exact .inl (.inr (.inr (.inr (.inl h))))
        · exact .inl (.inr (.inr (.inr (.inr (.inl h)))))
        · exact (hF y h).imp_left (fun h => .inr (.inr (.inr (.inr (.inr h)))))

end Go.Proofs.YtigaphnafnpfnaaGreatDoor

