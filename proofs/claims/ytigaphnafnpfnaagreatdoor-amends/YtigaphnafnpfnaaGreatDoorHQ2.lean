import Derived.Test.YtigaphnafnpfnaaGreatDoorHP7
import Derived.Deep.QuietTactic
import Derived.BigQuiet
import Derived.Test.YtigaphnafnpfnaaGreatDoorHP6
import Derived.Test.YtigaphnafnpfnaaGreatDoorHO3
/- counted -/
set_option linter.unusedVariables false
set_option linter.unusedSimpArgs false
namespace Go.Proofs.YtigaphnafnpfnaaGreatDoor
open Go.RowKit Go.Maps
attribute [local go_sem ↓] Go.wp_at_zero Go.wp_at_succ

/-- the world in the loops of counted -/
structure Cn (V : Ven) (i n : Nat) (A K T : Value) (w1 W : World) : Prop where
  chg : Chg Non w1 W
  pic : Blk W w1.heap.size #[A, K, T] 47
  opn : Blk W (w1.heap.size + 1) #[.int .i64 (openS V 0 i), .int .i64 (openS V 1 i), .int .i64 (openS V 2 i), .int .i64 (openS V 3 i)] 50

theorem openS_succ (V : Ven) (k i : Nat) : openS V k (i + 1) = openS V k i + (if sideK (V.om (ob V i)) = k then (V.om (ob V i)).opn else 0) := rfl

theorem Cn.step {V : Ven} {i n : Nat} {A K T : Value} {w1 W : World} (h : Cn V i n A K T w1 W) (X : Obj) {k : Nat} (hk : k < 4) {o : Ord} (ho : o = V.om (ob V i)) (hs : sideK o = k) (hb : 0 ≤ openS V k i ∧ openS V k i ≤ 1000000 * i) (hi : i ≤ 100) (ho0 : 0 ≤ o.opn ∧ o.opn ≤ 1000000) :
    Cn V (i + 1) n A K T w1 (((W.setCell ⟨w1.heap.size + 1, k, none⟩ (.int .i64 (wrap64 (openS V k i + o.opn)))).alloc X).drew) := by
  subst ho
  refine ⟨((h.chg.setCell (p := ⟨w1.heap.size + 1, k, none⟩) (.inr (by simp)) _).alloc _).drew, ((h.pic.other (by simp) _).alloc _).drew, ?_⟩
  have hB := (((h.opn.set k (.int .i64 (wrap64 (openS V k i + (V.om (ob V i)).opn)))).alloc X).drew)
  have e : wrap64 (openS V k i + (V.om (ob V i)).opn) = openS V k i + (V.om (ob V i)).opn := wrap64_id (by omega) (by omega)
  rw [e] at hB ⊢
  have : k = 0 ∨ k = 1 ∨ k = 2 ∨ k = 3 := by omega
  simp only [openS, hs]
  rcases this with rfl | rfl | rfl | rfl <;> simpa using hB

theorem Cn.opnk {V : Ven} {i n : Nat} {A K T : Value} {w1 W : World} (h : Cn V i n A K T w1 W) {k : Nat} (hk : k < 4) : W.cell? ⟨w1.heap.size + 1, k, none⟩ = some (.int .i64 (openS V k i)) := by
  have : k = 0 ∨ k = 1 ∨ k = 2 ∨ k = 3 := by omega
  rw [h.opn.cell k]
  rcases this with rfl | rfl | rfl | rfl <;> rfl

theorem Cn.al {V : Ven} {i n : Nat} {A K T : Value} {w1 W : World} (h : Cn V i n A K T w1 W) (X : Obj) (q : Nat) : Cn V i n A K T w1 ((W.alloc X).drewN q) :=
  ⟨(h.chg.alloc _).drewN q, (h.pic.alloc _).drewN q, (h.opn.alloc _).drewN q⟩

/-- one of the four sides in a picture -/
structure CnL (V : Ven) (n k : Nat) (L : List Lvl) (ax : Option Addr) (gx gb cx : Nat) (w1 : World) : Prop where
  bk : w1.cell? ⟨gb, k, none⟩ = some (.slice ax L.length cx)
  lev : ∀ i l, L[i]? = some l → ax = some ⟨gx, 0, none⟩ ∧ w1.cell? ⟨gx, i * 3, none⟩ = some (.int .i64 l.price) ∧ w1.cell? ⟨gx, i * 3 + 1, none⟩ = some (.int .i64 l.qty) ∧ w1.cell? ⟨gx, i * 3 + 2, none⟩ = some (.int .i64 l.num)
  sum : sumL (L.map (·.qty)) = openS V k n
  num : ∀ l ∈ L, 1 ≤ l.num ∧ l.num ≤ l.qty ∧ l.qty ≤ 1000000000
  mono : L.Pairwise (fun a b => worse ((k % 2 : Nat) : Int) a.price b.price)
  len : L.length ≤ 1000

theorem cnL_of {V : Ven} {n go gk : Nat} {xg xc : Nat → Nat} {xa : Nat → Option Addr} {lv : Nat → List Lvl} {W : World} (h : Seen V n go gk xg xc xa lv W) (f : Fine V n lv) {k : Nat} (hk : k < 4) : CnL V n k (lv k) (xa k) (xg k) gk (xc k) W :=
  ⟨h.bks k hk, h.lev k hk, f.sum k hk, f.num k hk, f.mono k hk, f.len k hk⟩

theorem sumL_le {L : List Lvl} (h : ∀ l ∈ L, 1 ≤ l.num ∧ l.num ≤ l.qty ∧ l.qty ≤ 1000000000) : 0 ≤ sumL (L.map (·.qty)) ∧ sumL (L.map (·.qty)) ≤ 1000000000 * L.length := by
  induction L with
  | nil => simp [sumL]
  | cons x a ih =>
    have h1 := h x (by simp)
    have h2 := ih (fun y hy => h y (by simp [hy]))
    rw [List.map_cons, sumL_cons]
    simp only [List.length_cons]
    push_cast
    omega

theorem CnL.at {V : Ven} {n k : Nat} {L : List Lvl} {ax : Option Addr} {gx gb cx : Nat} {w1 W : World} (h : CnL V n k L ax gx gb cx w1) {j : Nat} (hj : j < L.length) (c : Chg Non w1 W) :
    ∃ l : Lvl, ax = some ⟨gx, 0, none⟩ ∧ W.cell? ⟨gx, j * 3, none⟩ = some (.int .i64 l.price) ∧ W.cell? ⟨gx, j * 3 + 1, none⟩ = some (.int .i64 l.qty) ∧ W.cell? ⟨gx, j * 3 + 2, none⟩ = some (.int .i64 l.num) ∧ wrap64 (sumL ((L.take j).map (·.qty)) + l.qty) = sumL ((L.take (j + 1)).map (·.qty)) ∧ 1 ≤ l.num ∧ l.num ≤ l.qty ∧
      (0 < j → ∃ (p : Nat) (pr : Int), (j : Int) - 1 = (p : Int) ∧ p < L.length ∧ W.cell? ⟨gx, p * 3, none⟩ = some (.int .i64 pr) ∧ worse ((k % 2 : Nat) : Int) pr l.price) := by
  have hl : L[j]? = some L[j] := List.getElem?_eq_getElem hj
  obtain ⟨a, c0, c1, c2⟩ := h.lev j _ hl
  have hn := h.num L[j] (List.getElem_mem hj)
  refine ⟨L[j], a, c.cell c0 (fun x => x), c.cell c1 (fun x => x), c.cell c2 (fun x => x), ?_, hn.1, hn.2.1, fun h0 => ?_⟩
  · have b := sumL_le (L := L.take j) (fun l hl => h.num l (List.mem_of_mem_take hl))
    have := h.len
    have e : (L.take j).length = j := by simp; omega
    rw [e] at b
    rw [wrap64_id (by omega) (by omega), List.take_add_one, hl]
    simp only [Option.toList, List.map_append, sumL_append, List.map_cons, List.map_nil, sumL_cons, sumL_nil]
    omega
  · have hp : L[j - 1]? = some L[j - 1] := List.getElem?_eq_getElem (by omega)
    obtain ⟨_, p0, _, _⟩ := h.lev (j - 1) _ hp
    refine ⟨j - 1, (L[j - 1]).price, by omega, by omega, c.cell p0 (fun x => x), ?_⟩
    exact (List.pairwise_iff_getElem.1 h.mono) (j - 1) j (by omega) hj (by omega)

theorem Cn.dr {V : Ven} {i n : Nat} {A K T : Value} {w1 W : World} (h : Cn V i n A K T w1 W) (q : Nat) : Cn V i n A K T w1 (W.drewN q) := ⟨h.chg.drewN q, h.pic.drewN q, h.opn.drewN q⟩

theorem CnL.first {V : Ven} {n k : Nat} {L : List Lvl} {ax : Option Addr} {gx gb cx : Nat} {w1 W : World} (h : CnL V n k L ax gx gb cx w1) (hj : 0 < L.length) (c : Chg Non w1 W) : ∃ l ∈ L, ax = some ⟨gx, 0, none⟩ ∧ W.cell? ⟨gx, 0, none⟩ = some (.int .i64 l.price) := by
  have hl : L[0]? = some L[0] := List.getElem?_eq_getElem hj
  obtain ⟨a, c0, _, _⟩ := h.lev 0 _ hl
  exact ⟨L[0], List.getElem_mem hj, a, c.cell (by simpa using c0) (fun x => x)⟩

set_option maxHeartbeats 40000000 in
set_option maxRecDepth 100000 in
theorem counted_any (bv bm bo P n : Nat) (V : Ven) (M acts : Int) (w : World) (R : Rep w bv bm bo V) (h : GV V n M) (hM : M ≤ 1000000) (hn : n ≤ 100) (hK : LenOK V 500000) (hP : Blk w P #[.pointer (some ⟨bv, 0, none⟩), .int .i64 n, .int .i64 acts] 37) :
    Calls Tryz.prog 16 #[.pointer (some ⟨P, 0, none⟩)] w fun e w' => e = .returned (.bool true) ∧ Chg Non w w' := by
  have HLk := hide (looks_any bv bm bo P n V M acts w R h hn hK hP)
  have hid : ∀ id x, V.oid id = some x → (V.om x).id = id := fun id x hx => (R.ords id x hx).1
  have HF := hide (fun (ys : Nat → List Nat) hy => fine_of h hM hn hid ys hy (fun k hk => Nat.le_trans (h.count hid (by omega) (by omega)) (by omega)))
  have HG := hide h
  clear R h hK hP hid
  go_enter Tryz.func16, Tryz.ntmps16
  go_wp2_with fail
  refine (unhide HLk).mono ?_
  rintro e w1 ⟨oa, oc, ka, kc, ta, tn, tc, vs, rfl, hr1, hr2, hr3, k1⟩
  obtain ⟨go, gb, xg, xc, xa, ys, hoa, rfl, hy, hS⟩ := seen_of hr1 hr2 hr3
  have HFi := hide (unhide HF ys hy)
  have HS := hide hS
  have HOa := hide hoa
  have HK1 := hide k1
  obtain ⟨lv, hlv⟩ : ∃ lv, lv = fun k => levelsOf (ordsOf V.om (ys k)) := ⟨_, rfl⟩
  rw [← hlv] at HFi HS
  clear hr1 hr2 hr3 hy hS k1 HF HLk hoa hlv
  go_wp2
  go_loopg [6, 7, 8] n (fun g iv _ _ wq => ∃ i : Nat, iv = .int .i64 (i : Int) ∧ i ≤ n ∧ g = n - i ∧ Cn V i n (.slice oa n oc) (.slice (some ⟨gb, 0, none⟩) 4 kc) (.slice ta tn tc) w1 wq)
  case atStart => exact ⟨0, rfl, Nat.zero_le _, rfl, ⟨((Chg.refl Non w1).alloc _).alloc _, (Blk.new w1 _ _).alloc _, Blk.new1 w1 _ _ _⟩⟩
  case round =>
    obtain ⟨i, rfl, hi, hgk, cn⟩ := hrel
    have a0 : wr.cell? ⟨w1.heap.size, 0, none⟩ = some (.slice oa n oc) := cn.pic.cell 0
    by_cases hlt : i < n
    · have e1 : decide ((i : Int) < (n : Int)) = true := by simp; omega
      have hoa := unhide HOa (by omega)
      subst hoa
      have hso := fun j u hu => ((unhide HS).keep cn.chg).ord i hlt j u hu
      have hvl : VL V (ob V i) := ⟨_, (unhide HG).ob hlt⟩
      have q := (unhide HG).q _ hvl
      have hsd := (unhide HG).side _ hvl
      have hsy := (unhide HG).sym _ hvl
      have hopS := fun k => openS_succ V k i
      obtain ⟨o, ho⟩ : ∃ o, o = V.om (ob V i) := ⟨_, rfl⟩
      rw [← ho] at hso q hsd hsy
      have c0 : wr.cell? ⟨go, i * 12, none⟩ = some (.int .i64 o.id) := hso 0 _ rfl
      have c1 := hso 1 _ rfl
      have c2 := hso 2 _ rfl
      have c3 := hso 3 _ rfl
      have c4 := hso 4 _ rfl
      have c5 := hso 5 _ rfl
      have c6 := hso 6 _ rfl
      have c7 := hso 7 _ rfl
      have c8 := hso 8 _ rfl
      have c9 := hso 9 _ rfl
      have c10 := hso 10 _ rfl
      have c11 := hso 11 _ rfl
      obtain ⟨q0, q1, q2, q3, q4, q5⟩ := q
      have eE : o.entered = wrap64 (wrap64 (wrap64 (o.opn + o.filled) + o.canc) + o.exp) := by
        rw [wrap64_id (x := o.opn + o.filled) (by omega) (by omega), wrap64_id (x := o.opn + o.filled + o.canc) (by omega) (by omega), wrap64_id (by omega) (by omega)]; exact q0
      rw [eE] at c7
      have d1 : decide (o.opn < 0) = false := by simp; omega
      have d2 : decide (o.filled < 0) = false := by simp; omega
      have d3 : decide (o.canc < 0) = false := by simp; omega
      have d4 : decide (o.exp < 0) = false := by simp; omega
      have HO := hide (fun k => hopS k)
      have HC := hide cn
      have HEo := hide ho
      have HBd := hide (fun k => (unhide HFi).open_ k i hi)
      have HOb : Hid (0 ≤ o.opn ∧ o.opn ≤ 1000000) := ⟨by omega, by omega⟩
      have g0 : wr.cell? ⟨w1.heap.size + 1, 0, none⟩ = some (.int .i64 (openS V 0 i)) := cn.opn.cell 0
      have g1 : wr.cell? ⟨w1.heap.size + 1, 1, none⟩ = some (.int .i64 (openS V 1 i)) := cn.opn.cell 1
      have g2 : wr.cell? ⟨w1.heap.size + 1, 2, none⟩ = some (.int .i64 (openS V 2 i)) := cn.opn.cell 2
      have g3 : wr.cell? ⟨w1.heap.size + 1, 3, none⟩ = some (.int .i64 (openS V 3 i)) := cn.opn.cell 3
      have f0 := cn.opn.frozen 0
      have f1 := cn.opn.frozen 1
      have f2 := cn.opn.frozen 2
      have f3 := cn.opn.frozen 3
      have lt1 := cn.opn.lt
      clear q0 q1 q2 q3 q4 q5 eE hso hopS ho hvl cn
      have hsy' : o.sym = ⟨#[65]⟩ ∨ o.sym = ⟨#[206, 145, 206, 169]⟩ := hsy
      clear hsy
      rcases hsd with hsd | hsd <;> rcases hsy' with hsy | hsy <;> rw [hsd] at c3 <;> rw [hsy] at c2 <;> have HSd := hide hsd <;> have HSy := hide hsy <;> clear hsd hsy
      · go_wp2
        go_region
        go_wp2
        go_roundg (n - (i + 1))
        case measure => omega
        case rel => exact ⟨i + 1, by push_cast; rfl, by omega, rfl, (unhide HC).step _ (k := 0) (by decide) (unhide HEo) (by unfold sideK; rw [unhide HSd, unhide HSy]; decide) (unhide HBd 0) (by omega) (unhide HOb)⟩
      · go_wp2
        go_region
        go_wp2
        go_roundg (n - (i + 1))
        case measure => omega
        case rel => exact ⟨i + 1, by push_cast; rfl, by omega, rfl, (unhide HC).step _ (k := 2) (by decide) (unhide HEo) (by unfold sideK; rw [unhide HSd, unhide HSy]; decide) (unhide HBd 2) (by omega) (unhide HOb)⟩
      · go_wp2
        go_region
        go_wp2
        go_roundg (n - (i + 1))
        case measure => omega
        case rel => exact ⟨i + 1, by push_cast; rfl, by omega, rfl, (unhide HC).step _ (k := 1) (by decide) (unhide HEo) (by unfold sideK; rw [unhide HSd, unhide HSy]; decide) (unhide HBd 1) (by omega) (unhide HOb)⟩
      · go_wp2
        go_region
        go_wp2
        go_roundg (n - (i + 1))
        case measure => omega
        case rel => exact ⟨i + 1, by push_cast; rfl, by omega, rfl, (unhide HC).step _ (k := 3) (by decide) (unhide HEo) (by unfold sideK; rw [unhide HSd, unhide HSy]; decide) (unhide HBd 3) (by omega) (unhide HOb)⟩
    · have hin : i = n := by omega
      subst hin
      have HC := hide cn
      have e1 : decide ((i : Int) < (i : Int)) = false := by simp
      clear cn
      go_wp2
      go_loopg [9, 10, 11, 12] 4 (fun g kv _ _ _ wq => ∃ k : Nat, kv = .int .i64 (k : Int) ∧ k ≤ 4 ∧ g = 4 - k ∧ Cn V i i (.slice oa i oc) (.slice (some ⟨gb, 0, none⟩) 4 kc) (.slice ta tn tc) w1 wq)
      case atStart => exact ⟨0, rfl, Nat.zero_le _, rfl, unhide HC⟩
      case round =>
        obtain ⟨k, rfl, hk, hgk2, cn2⟩ := hrel
        clear a0 e1 hgk HC hlt
        by_cases hk4 : k < 4
        · have ek4 : decide ((k : Int) < 4) = true := by simp; omega
          have HL : Hid (CnL V i k (lv k) (xa k) (xg k) gb (xc k) w1) := cnL_of (unhide HS) (unhide HFi) hk4
          obtain ⟨L, hL⟩ : ∃ L, L = lv k := ⟨_, rfl⟩
          obtain ⟨ax, hax⟩ : ∃ ax, ax = xa k := ⟨_, rfl⟩
          obtain ⟨cx, hcx⟩ : ∃ cx, cx = xc k := ⟨_, rfl⟩
          obtain ⟨gx, hgx⟩ : ∃ gx, gx = xg k := ⟨_, rfl⟩
          rw [← hL, ← hax, ← hcx, ← hgx] at HL
          clear hL hax hcx hgx
          obtain ⟨m, hm⟩ : ∃ m, m = L.length := ⟨_, rfl⟩
          have HM := hide hm
          have HC2 := hide cn2
          have hm1 : m ≤ 1000 := by rw [hm]; exact (unhide HL).len
          clear hm cn2
          go_wp2
          go_loopg [10, 11, 12] m (fun g sv iv _ wq => ∃ j : Nat, sv = .int .i64 (sumL ((L.take j).map (·.qty))) ∧ iv = .int .i64 (j : Int) ∧ j ≤ m ∧ g = m - j ∧ Cn V i i (.slice oa i oc) (.slice (some ⟨gb, 0, none⟩) 4 kc) (.slice ta tn tc) w1 wq)
          case atStart => exact ⟨0, rfl, rfl, Nat.zero_le _, rfl, unhide HC2⟩
          case round =>
            obtain ⟨j, rfl, rfl, hj, hgk3, cn3⟩ := hrel
            have a1 : wr.cell? ⟨w1.heap.size, 1, none⟩ = some (.slice (some ⟨gb, 0, none⟩) 4 kc) := cn3.pic.cell 1
            have bk : wr.cell? ⟨gb, k, none⟩ = some (.slice ax m cx) := by rw [unhide HM]; exact cn3.chg.cell (unhide HL).bk (fun x => x)
            by_cases hjm : j < m
            · have e2 : decide ((j : Int) < (m : Int)) = true := by simp; omega
              obtain ⟨l, hax, c0, c1, c2, hsum, hn1, hn2, hprev⟩ := (unhide HL).at (j := j) (by rw [← unhide HM]; exact hjm) cn3.chg
              subst hax
              have d1 : decide (l.qty < l.num) = false := by simp; omega
              have d2 : decide (l.num < 1) = false := by simp; omega
              have HC3 := hide cn3
              have HSu := hide hsum
              have lt3 := cn3.opn.lt
              have lt4 : w1.heap.size < wr.heap.size := by omega
              have lt5 : gb < wr.heap.size := World.block_lt_of_cell? wr _ bk
              have lt6 : gx < wr.heap.size := World.block_lt_of_cell? wr _ c0
              have HPv := hide hprev
              obtain ⟨sm, hsm⟩ : ∃ sm, sm = sumL ((L.take j).map (·.qty)) := ⟨_, rfl⟩
              rw [← hsm] at HSu ⊢
              clear cn3 hsum hn1 hn2 hprev hsm
              by_cases hj0 : j = 0
              · subst hj0
                go_wp2
                go_quiet (fail)
                go_wp2
                go_roundg (m - (0 + 1))
                case measure => omega
                case rel => exact ⟨0 + 1, by rw [unhide HSu], rfl, by omega, rfl, (unhide HC3).al _ _⟩
              · obtain ⟨p, pr, hp1, hp2, hp3, hp4⟩ := unhide HPv (by omega)
                have hp5 : p < m := by rw [unhide HM]; exact hp2
                have d3 : decide (0 < (j : Int)) = true := by simp; omega
                have d5 : decide ((j : Int) > 0) = true := by simp; omega
                have hpos : 0 < j := by omega
                have hposi : (0 : Int) < (j : Int) := by omega
                rcases Nat.mod_two_eq_zero_or_one k with hpk | hpk
                · have d4 : decide (pr ≤ l.price) = false := by rw [hpk] at hp4; simp [worse] at hp4; simp; omega
                  have hq1 : Int.tmod (k : Int) 2 = 0 := by rw [Int.tmod_eq_emod_of_nonneg (by omega)]; omega
                  clear hp4 hp2 hpk
                  go_wp2
                  go_quiet (fail)
                  go_wp2
                  go_roundg (m - (j + 1))
                  case measure => omega
                  case rel => exact ⟨j + 1, by rw [unhide HSu], by push_cast; rfl, by omega, rfl, (unhide HC3).al _ _⟩
                · have d4 : decide (l.price ≤ pr) = false := by rw [hpk] at hp4; simp [worse] at hp4; simp; omega
                  have hq1 : Int.tmod (k : Int) 2 = 1 := by rw [Int.tmod_eq_emod_of_nonneg (by omega)]; omega
                  clear hp4 hp2 hpk
                  go_wp2
                  go_quiet (fail)
                  go_wp2
                  go_roundg (m - (j + 1))
                  case measure => omega
                  case rel => exact ⟨j + 1, by rw [unhide HSu], by push_cast; rfl, by omega, rfl, (unhide HC3).al _ _⟩
            · have hjm2 : j = m := by omega
              subst hjm2
              have e2 : decide ((j : Int) < (j : Int)) = false := by simp
              have g : wr.cell? ⟨w1.heap.size + 1, k, none⟩ = some (.int .i64 (openS V k i)) := cn3.opnk hk4
              have hsum : sumL ((L.take j).map (·.qty)) = openS V k i := by rw [unhide HM, List.take_length]; exact (unhide HL).sum
              rw [hsum]
              have HC3 := hide cn3
              clear cn3 hsum
              go_wp2
              go_roundg (4 - (k + 1))
              case measure => omega
              case rel => exact ⟨k + 1, by push_cast; rfl, by omega, rfl, unhide HC3⟩
        · have hk5 : k = 4 := by omega
          subst hk5
          have HC2 := hide cn2
          clear cn2
          go_wp2
          go_loopg [13] 2 (fun g kv wq => ∃ k : Nat, kv = .int .i64 (k : Int) ∧ ((k = 0 ∧ g = 2) ∨ (k = 2 ∧ g = 1) ∨ (k = 4 ∧ g = 0)) ∧ Cn V i i (.slice oa i oc) (.slice (some ⟨gb, 0, none⟩) 4 kc) (.slice ta tn tc) w1 wq)
          case atStart => exact ⟨0, rfl, .inl ⟨rfl, rfl⟩, unhide HC2⟩
          case round =>
            obtain ⟨k, rfl, hk, cn3⟩ := hrel
            rcases hk with ⟨rfl, hg⟩ | ⟨rfl, hg⟩ | ⟨rfl, hg⟩
            · have HL0 : Hid (CnL V i 0 (lv 0) (xa 0) (xg 0) gb (xc 0) w1) := cnL_of (unhide HS) (unhide HFi) (by decide)
              have HL1 : Hid (CnL V i 1 (lv 1) (xa 1) (xg 1) gb (xc 1) w1) := cnL_of (unhide HS) (unhide HFi) (by decide)
              have HX : Hid (∀ l ∈ lv 0, ∀ l' ∈ lv 1, l.price < l'.price) := (unhide HFi).cross 0 (by decide) (by decide)
              obtain ⟨L, hL⟩ : ∃ L, L = lv 0 := ⟨_, rfl⟩
              obtain ⟨ax, hax⟩ : ∃ ax, ax = xa 0 := ⟨_, rfl⟩
              obtain ⟨cx, hcx⟩ : ∃ cx, cx = xc 0 := ⟨_, rfl⟩
              obtain ⟨gx, hgx⟩ : ∃ gx, gx = xg 0 := ⟨_, rfl⟩
              obtain ⟨L', hL'⟩ : ∃ L, L = lv 1 := ⟨_, rfl⟩
              obtain ⟨ay, hay⟩ : ∃ ax, ax = xa 1 := ⟨_, rfl⟩
              obtain ⟨cy, hcy⟩ : ∃ cx, cx = xc 1 := ⟨_, rfl⟩
              obtain ⟨gy, hgy⟩ : ∃ gx, gx = xg 1 := ⟨_, rfl⟩
              rw [← hL, ← hax, ← hcx, ← hgx] at HL0
              rw [← hL', ← hay, ← hcy, ← hgy] at HL1
              rw [← hL, ← hL'] at HX
              clear hL hax hcx hgx hL' hay hcy hgy
              obtain ⟨m, hm⟩ : ∃ m, m = L.length := ⟨_, rfl⟩
              obtain ⟨m', hm'⟩ : ∃ m, m = L'.length := ⟨_, rfl⟩
              have a1 : wr.cell? ⟨w1.heap.size, 1, none⟩ = some (.slice (some ⟨gb, 0, none⟩) 4 kc) := cn3.pic.cell 1
              have bk : wr.cell? ⟨gb, 0, none⟩ = some (.slice ax m cx) := by rw [hm]; exact cn3.chg.cell (unhide HL0).bk (fun x => x)
              have bk' : wr.cell? ⟨gb, 1, none⟩ = some (.slice ay m' cy) := by rw [hm']; exact cn3.chg.cell (unhide HL1).bk (fun x => x)
              have hfst := fun h => (unhide HL0).first (W := wr) h cn3.chg
              have hfst' := fun h => (unhide HL1).first (W := wr) h cn3.chg
              rw [← hm] at hfst
              rw [← hm'] at hfst'
              have HF0 := hide hfst
              have HF1 := hide hfst'
              have HC3 := hide cn3
              clear hm hm' cn3 hfst hfst'
              by_cases h0 : m = 0
              · subst h0
                go_wp2
                go_quiet (fail)
                go_wp2
                go_roundg 1
                case measure => omega
                case rel => exact ⟨2, rfl, .inr (.inl ⟨rfl, rfl⟩), (unhide HC3).dr _⟩
              · have p0 : 0 < m := by omega
                have p0' : (0 : Int) < (m : Int) := by omega
                have p0d : decide (0 < (m : Int)) = true := by simp; omega
                by_cases h1 : m' = 0
                · subst h1
                  go_wp2
                  go_quiet (fail)
                  go_wp2
                  go_roundg 1
                  case measure => omega
                  case rel => exact ⟨2, rfl, .inr (.inl ⟨rfl, rfl⟩), (unhide HC3).dr _⟩
                · have p1 : 0 < m' := by omega
                  have p1' : (0 : Int) < (m' : Int) := by omega
                  have p1d : decide (0 < (m' : Int)) = true := by simp; omega
                  obtain ⟨l, hl, hax, c0⟩ := unhide HF0 p0
                  obtain ⟨l', hl', hay, c1⟩ := unhide HF1 p1
                  subst hax hay
                  have dd : decide (l'.price ≤ l.price) = false := by have := unhide HX l hl l' hl'; simp; omega
                  clear hl hl'
                  go_wp2
                  go_quiet (fail)
                  go_wp2
                  go_roundg 1
                  case measure => omega
                  case rel => exact ⟨2, rfl, .inr (.inl ⟨rfl, rfl⟩), (unhide HC3).dr _⟩
            · have HL0 : Hid (CnL V i 2 (lv 2) (xa 2) (xg 2) gb (xc 2) w1) := cnL_of (unhide HS) (unhide HFi) (by decide)
              have HL1 : Hid (CnL V i 3 (lv 3) (xa 3) (xg 3) gb (xc 3) w1) := cnL_of (unhide HS) (unhide HFi) (by decide)
              have HX : Hid (∀ l ∈ lv 2, ∀ l' ∈ lv 3, l.price < l'.price) := (unhide HFi).cross 2 (by decide) (by decide)
              obtain ⟨L, hL⟩ : ∃ L, L = lv 2 := ⟨_, rfl⟩
              obtain ⟨ax, hax⟩ : ∃ ax, ax = xa 2 := ⟨_, rfl⟩
              obtain ⟨cx, hcx⟩ : ∃ cx, cx = xc 2 := ⟨_, rfl⟩
              obtain ⟨gx, hgx⟩ : ∃ gx, gx = xg 2 := ⟨_, rfl⟩
              obtain ⟨L', hL'⟩ : ∃ L, L = lv 3 := ⟨_, rfl⟩
              obtain ⟨ay, hay⟩ : ∃ ax, ax = xa 3 := ⟨_, rfl⟩
              obtain ⟨cy, hcy⟩ : ∃ cx, cx = xc 3 := ⟨_, rfl⟩
              obtain ⟨gy, hgy⟩ : ∃ gx, gx = xg 3 := ⟨_, rfl⟩
              rw [← hL, ← hax, ← hcx, ← hgx] at HL0
              rw [← hL', ← hay, ← hcy, ← hgy] at HL1
              rw [← hL, ← hL'] at HX
              clear hL hax hcx hgx hL' hay hcy hgy
              obtain ⟨m, hm⟩ : ∃ m, m = L.length := ⟨_, rfl⟩
              obtain ⟨m', hm'⟩ : ∃ m, m = L'.length := ⟨_, rfl⟩
              have a1 : wr.cell? ⟨w1.heap.size, 1, none⟩ = some (.slice (some ⟨gb, 0, none⟩) 4 kc) := cn3.pic.cell 1
              have bk : wr.cell? ⟨gb, 2, none⟩ = some (.slice ax m cx) := by rw [hm]; exact cn3.chg.cell (unhide HL0).bk (fun x => x)
              have bk' : wr.cell? ⟨gb, 3, none⟩ = some (.slice ay m' cy) := by rw [hm']; exact cn3.chg.cell (unhide HL1).bk (fun x => x)
              have hfst := fun h => (unhide HL0).first (W := wr) h cn3.chg
              have hfst' := fun h => (unhide HL1).first (W := wr) h cn3.chg
              rw [← hm] at hfst
              rw [← hm'] at hfst'
              have HF0 := hide hfst
              have HF1 := hide hfst'
              have HC3 := hide cn3
              clear hm hm' cn3 hfst hfst'
              by_cases h0 : m = 0
              · subst h0
                go_wp2
                go_quiet (fail)
                go_wp2
                go_roundg 0
                case measure => omega
                case rel => exact ⟨4, rfl, .inr (.inr ⟨rfl, rfl⟩), (unhide HC3).dr _⟩
              · have p0 : 0 < m := by omega
                have p0' : (0 : Int) < (m : Int) := by omega
                have p0d : decide (0 < (m : Int)) = true := by simp; omega
                by_cases h1 : m' = 0
                · subst h1
                  go_wp2
                  go_quiet (fail)
                  go_wp2
                  go_roundg 0
                  case measure => omega
                  case rel => exact ⟨4, rfl, .inr (.inr ⟨rfl, rfl⟩), (unhide HC3).dr _⟩
                · have p1 : 0 < m' := by omega
                  have p1' : (0 : Int) < (m' : Int) := by omega
                  have p1d : decide (0 < (m' : Int)) = true := by simp; omega
                  obtain ⟨l, hl, hax, c0⟩ := unhide HF0 p0
                  obtain ⟨l', hl', hay, c1⟩ := unhide HF1 p1
                  subst hax hay
                  have dd : decide (l'.price ≤ l.price) = false := by have := unhide HX l hl l' hl'; simp; omega
                  clear hl hl'
                  go_wp2
                  go_quiet (fail)
                  go_wp2
                  go_roundg 0
                  case measure => omega
                  case rel => exact ⟨4, rfl, .inr (.inr ⟨rfl, rfl⟩), (unhide HC3).dr _⟩
            · have HC3 := hide ((unhide HK1).trans cn3.chg)
              clear cn3
              go_wp2
              go_ret
              exact ⟨rfl, unhide HC3⟩

end Go.Proofs.YtigaphnafnpfnaaGreatDoor

/- Counted: the loop -/
set_option linter.unusedVariables false
set_option linter.unusedSimpArgs false
namespace Go.Proofs.YtigaphnafnpfnaaGreatDoor
open Go.RowKit Go.Maps
attribute [local go_sem ↓] Go.wp_at_zero Go.wp_at_succ

theorem belowN {B : Nat} {w w' : World} (h : Below B w w') (n : Nat) : Below B w (w'.drewN n) := ⟨h.os, h.tape, h.output, h.size, h.block⟩

theorem GV.start (b1 b2 : Nat) (lmv : Lm) : GV (VG b1 b2 lmv) 0 9 := by
  have hno : ∀ x, ¬ VL (VG b1 b2 lmv) x := by
    rintro x ⟨id, h⟩
    exact absurd h (by simp [VG, Ven.list, ven0])
  have hB : ∀ i, i < 2 → (VG b1 b2 lmv).B i = newBk (symN i) := by
    intro i hi
    have : i = 0 ∨ i = 1 := by omega
    rcases this with rfl | rfl <;> rfl
  refine ⟨rfl, fun i hi => ?_, fun id => ⟨?_, fun h => by omega⟩, rfl, fun x hx => absurd hx (hno x), fun x hx => absurd hx (hno x), fun x hx => absurd hx (hno x)⟩
  · rw [hB i hi]
    refine ⟨rfl, fun s hs x => ⟨?_, fun h => absurd h.1 (hno x)⟩, fun s hs k _ hk => absurd hk (Nat.not_lt_zero k), fun s hs a b ha => absurd ha (Nat.not_lt_zero a), ?_⟩
    · rintro ⟨k, hk, _⟩; exact absurd hk (Nat.not_lt_zero k)
    · rintro x y ⟨k, hk, _⟩; exact absurd hk (Nat.not_lt_zero k)
  · rintro ⟨x, hx⟩
    exact absurd ⟨id, hx⟩ (hno x)

theorem LenOK.start (b1 b2 : Nat) (lmv : Lm) : LenOK (VG b1 b2 lmv) 2 := ⟨by simp [VG], by simp [VG], fun x hx => by simp [VG] at hx, by simp [VG]⟩

end Go.Proofs.YtigaphnafnpfnaaGreatDoor

