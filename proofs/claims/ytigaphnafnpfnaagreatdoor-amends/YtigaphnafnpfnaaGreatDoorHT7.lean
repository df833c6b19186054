import Derived.Test.YtigaphnafnpfnaaGreatDoorHT3
import Derived.Test.YtigaphnafnpfnaaGreatDoorHT2
import Derived.Laws.AppendOwnNone
import Derived.BigQuiet
/- folded -/
set_option linter.unusedVariables false
set_option linter.unusedSimpArgs false
namespace Go.Proofs.YtigaphnafnpfnaaGreatDoor
open Go.RowKit Go.Maps
attribute [local go_sem ↓] Go.wp_at_zero Go.wp_at_succ

def Rc.arr (r : Rc) : Array Value := #[.int .i64 r.num, .int .i64 r.kind, .int .i64 r.t.num, .string r.t.sym, .int .i64 r.t.price, .int .i64 r.t.qty, .int .i64 r.t.buy, .int .i64 r.t.sell, .int .i64 r.t.day]

/-- what has been folded, and the record in hand -/
structure Fo (w wr : World) (H : Nat) (r : Rc) (oa : Option Addr) (oc : Nat) (L : List Tr) : Prop where
  row : TRow wr w.heap.size oa oc L
  blk : Blk wr H r.arr 62
  chg : Chg Non w wr

theorem Fo.dr {w wr : World} {H : Nat} {r : Rc} {oa : Option Addr} {oc : Nat} {L : List Tr} (h : Fo w wr H r oa oc L) (q : Nat) : Fo w (wr.drewN q) H r oa oc L :=
  ⟨h.row.kept ((Chg.refl Non wr).drewN q) (fun _ _ x => x), ((Chg.refl Non wr).drewN q).blk h.blk (fun x => x), h.chg.drewN q⟩

theorem flatT_single (t : Tr) : flatT [t] = t.cells := by simp [flatT]

theorem Fo.step {w W W' : World} {H g oc : Nat} {r : Rc} {L : List Tr} (h : Fo w W H r (some ⟨g, 0, none⟩) oc L) (hg : g < H) (hw : w.heap.size ≤ H) (k : Chg (fun b => H < b) W W') : Fo w W' H r (some ⟨g, 0, none⟩) oc L := by
  refine ⟨h.row.kept k ?_, k.blk h.blk (by omega), h.chg.from (k.mono (fun b hb => .inr (by omega)))⟩
  rintro b ⟨o, s, e⟩ hb
  injection e with e
  injection e with e
  omega

/-- and what has been laid of the next -/
structure Nx (w W : World) (H : Nat) (r : Rc) (g oc : Nat) (L : List Tr) (v : Value) (k : Nat) (xs : List Value) : Prop where
  fo : Fo w W H r (some ⟨g, 0, none⟩) oc L
  own : W.ownsRow (H + 1) 56 7 v k xs

theorem Nx.grow {w W W' : World} {H g oc k k' : Nat} {r : Rc} {L : List Tr} {v v' : Value} {xs xs' : List Value} (h : Nx w W H r g oc L v k xs) (hg : g < H) (hw : w.heap.size ≤ H) (gr : W.grownBy W' v.ownBlock) (own : W'.ownsRow (H + 1) 56 7 v' k' xs') : Nx w W' H r g oc L v' k' xs' :=
  ⟨h.fo.step hg hw ((Chg.refl _ W).grown gr (fun k e => .inl (by have := row_ge h.own e; omega))), own⟩

theorem Nx.alloc {w W : World} {H g oc k : Nat} {r : Rc} {L : List Tr} {v : Value} {xs : List Value} (h : Nx w W H r g oc L v k xs) (hg : g < H) (hw : w.heap.size ≤ H) (o : Obj) : Nx w (W.alloc o) H r g oc L v k xs :=
  ⟨h.fo.step hg hw ((Chg.refl _ W).alloc o), h.own.alloc o⟩

theorem Nx.dr {w W : World} {H g oc k : Nat} {r : Rc} {L : List Tr} {v : Value} {xs : List Value} (h : Nx w W H r g oc L v k xs) (q : Nat) : Nx w (W.drewN q) H r g oc L v k xs :=
  ⟨h.fo.dr q, own_kept h.own ((Chg.refl Non W).drewN q) (fun _ _ x => x)⟩

theorem Fo.nx {w W : World} {H g oc : Nat} {r : Rc} {L : List Tr} (h : Fo w W H r (some ⟨g, 0, none⟩) oc L) : Nx w W H r g oc L (.slice none 0 0) 0 [] := ⟨h, World.ownsRow_nil _ _ _ _⟩

theorem Nx.le {w W : World} {H g oc k : Nat} {r : Rc} {L : List Tr} {v : Value} {xs : List Value} (h : Nx w W H r g oc L v k xs) : H + 1 ≤ W.heap.size := h.fo.blk.lt

theorem Nx.fin {w W : World} {H g oc k c : Nat} {a : Option Addr} {r : Rc} {L L' : List Tr} {xs : List Value} (h : Nx w W H r g oc L (.slice a k c) k xs) (hw : w.heap.size ≤ H) (e : xs = flatT L') (hk : L'.length = k) : TRow W w.heap.size a c L' := by
  unfold TRow
  rw [hk, ← e]
  exact ownR_mono h.own (by omega)

set_option maxHeartbeats 4000000 in
set_option maxRecDepth 100000 in
theorem folded_any (b0 c : Nat) (a : Option Addr) (rs : List Rc) (ts : List Tr) (w : World) (hrow : w.ownsRow b0 62 9 (.slice a rs.length c) rs.length (flatR rs)) (hf : FoldsTo rs ts) (hlen : rs.length ≤ 1000000) :
    Calls Tryz.prog 18 #[.slice a rs.length c] w fun e w' => ∃ a' c', e = .returned (.tuple #[.slice a' ts.length c', .bool true]) ∧ TRow w' w.heap.size a' c' ts ∧ Chg Non w w' := by
  obtain ⟨F, F0, Fn, FS⟩ := hf.steps
  have HLn := hide (steps_len F0 FS)
  obtain ⟨n, hn⟩ : ∃ n, rs.length = n := ⟨_, rfl⟩
  have HX : Hid (∀ i, i < n → ∃ (g : Nat) (r : Rc), a = some ⟨g, 0, none⟩ ∧ Folds (F i) r (F (i + 1)) ∧ r.num = (i : Int) + 1 ∧ ∀ (j : Nat) (u : Value), r.cells[j]? = some u → w.cell? ⟨g, i * 9 + j, none⟩ = some u) := fun i hi => by
    have hi' : i < rs.length := by omega
    obtain ⟨g, e, hc⟩ := own_cell hrow (by omega)
    obtain ⟨h1, h2⟩ := FS i _ (List.getElem?_eq_getElem hi')
    exact ⟨g, _, e, h1, h2, fun j u hu => hc _ _ (flatR_at rs i _ j u (List.getElem?_eq_getElem hi') hu)⟩
  rw [hn] at hlen Fn HLn ⊢
  have HF0 := hide F0
  have HFn := hide Fn
  have HFS := hide FS
  clear hrow hn FS Fn F0 hf
  go_enter Tryz.func18, Tryz.ntmps18
  go_wp2
  go_loopg [4, 5] n (fun k ov iv wr => ∃ (i oc : Nat) (oa : Option Addr), ov = .slice oa (F i).length oc ∧ iv = .int .i64 (i : Int) ∧ i ≤ n ∧ k = n - i ∧ TRow wr w.heap.size oa oc (F i) ∧ Chg Non w wr)
  case atStart => exact ⟨0, 0, none, by rw [unhide HF0]; rfl, rfl, Nat.zero_le _, rfl, by rw [unhide HF0]; exact World.ownsRow_nil _ _ _ _, Chg.refl _ _⟩
  case round =>
    obtain ⟨wo, rfl⟩ : ∃ wo, wo = wr := ⟨_, rfl⟩
    obtain ⟨i, oc, oa, rfl, rfl, hi, hgk, hrow, kr⟩ := hrel
    by_cases hlt : i < n
    · obtain ⟨g0, r, rfl, hfo, hnum, hx⟩ := unhide HX i hlt
      have hLi := unhide HLn i hi
      obtain ⟨L, hL⟩ : ∃ L, F i = L := ⟨_, rfl⟩
      rw [hL] at hfo hrow hLi
      rw [hL]
      obtain ⟨m, hm⟩ : ∃ m, L.length = m := ⟨_, rfl⟩
      have c0 : wo.cell? ⟨g0, i * 9, none⟩ = some (.int .i64 ((i : Int) + 1)) := by rw [← hnum]; exact kr.cell (hx 0 _ rfl) (fun x => x)
      have c1 : wo.cell? ⟨g0, i * 9 + 1, none⟩ = some (.int .i64 r.kind) := kr.cell (hx 1 _ rfl) (fun x => x)
      have c2 : wo.cell? ⟨g0, i * 9 + 2, none⟩ = some (.int .i64 r.t.num) := kr.cell (hx 2 _ rfl) (fun x => x)
      have c3 : wo.cell? ⟨g0, i * 9 + 3, none⟩ = some (.string r.t.sym) := kr.cell (hx 3 _ rfl) (fun x => x)
      have c4 : wo.cell? ⟨g0, i * 9 + 4, none⟩ = some (.int .i64 r.t.price) := kr.cell (hx 4 _ rfl) (fun x => x)
      have c5 : wo.cell? ⟨g0, i * 9 + 5, none⟩ = some (.int .i64 r.t.qty) := kr.cell (hx 5 _ rfl) (fun x => x)
      have c6 : wo.cell? ⟨g0, i * 9 + 6, none⟩ = some (.int .i64 r.t.buy) := kr.cell (hx 6 _ rfl) (fun x => x)
      have c7 : wo.cell? ⟨g0, i * 9 + 7, none⟩ = some (.int .i64 r.t.sell) := kr.cell (hx 7 _ rfl) (fun x => x)
      have c8 : wo.cell? ⟨g0, i * 9 + 8, none⟩ = some (.int .i64 r.t.day) := kr.cell (hx 8 _ rfl) (fun x => x)
      have HR := hide hrow
      have HK := hide kr
      have HM := hide hm
      have HNum := hide hnum
      rw [hm] at hLi
      rw [hm]
      rcases hfo.does with ⟨hk4, hab⟩ | ⟨na, st, hd⟩
      · rw [hk4] at c1
        have HE : Hid (F (i + 1) = L) := hab.symm
        clear hrow kr hx hfo hab hnum hm hL
        go_wp2
        go_roundg (n - (i + 1))
        case measure => omega
        case rel => exact ⟨i + 1, oc, oa, by rw [unhide HE, unhide HM], by push_cast; rfl, by omega, rfl, by rw [unhide HE]; exact (unhide HR).kept ((Chg.refl Non wo).alloc _) (fun _ _ x => x), (unhide HK).alloc _⟩
      · obtain ⟨L', hL'⟩ : ∃ L', F (i + 1) = L' := ⟨_, rfl⟩
        rw [hL'] at hd
        have HE := hide hL'
        clear hx hfo hL' hL
        have hna : na ≤ m := by rw [← hm]; exact st.le
        have HSt := hide st
        have HT : Hid (∀ {W : World}, Fo w W wo.heap.size r oa oc L → ∀ j, j < m → ∃ g t, oa = some ⟨g, 0, none⟩ ∧ L[j]? = some t ∧ W.cell? ⟨g, j * 7, none⟩ = some (.int .i64 t.num)) := fun fo j hj => by
          have hj' : j < L.length := by omega
          obtain ⟨g, e, hc⟩ := fo.row.at (List.getElem?_eq_getElem hj')
          exact ⟨g, _, e, List.getElem?_eq_getElem hj', hc 0 _ rfl⟩
        have HD := hide hd
        clear hm hd
        have HOne : Hid (∀ u ∈ r.t.cells, u.oneCell' = true) := by simp [Hid, Tr.cells, Value.oneCell']
        rcases hrow.form with ⟨rfl, rfl, rfl⟩ | ⟨g, rfl, hg, hcap⟩
        · obtain rfl : m = 0 := (unhide HM).symm
          obtain rfl : na = 0 := by omega
          obtain ⟨i0, z0, hi0, hz0, hz1, hz2, hz3⟩ := info64_parts
          have hwH : w.heap.size ≤ wo.heap.size := kr.size
          clear hrow kr
          cases unhide HD with
          | bust hk ht => simp at ht
          | correct hk t ht hn => simp at ht
          | print hk ht =>
            rw [hk] at c1
            go_wp2
            clear c0 c1 c2 c3 c4 c5 c6 c7 c8
            go_loopg [7] 0 (fun k av wq => av = .int .i64 0 ∧ k = 0 ∧ Fo w wq wo.heap.size r none 0 [])
            case atStart =>
              refine ⟨rfl, rfl, (unhide HR).kept ((Chg.refl Non wo).alloc _) (fun _ _ x => x), ?_, (unhide HK).alloc _⟩
              unfold Rc.arr
              rw [unhide HNum, hk]
              exact Blk.new wo _ _
            case round =>
              obtain ⟨rfl, hgj, fo⟩ := hrel
              have y1 : wr.cell? ⟨wo.heap.size, 1, none⟩ = some (.int .i64 1) := by rw [← hk]; exact fo.blk.cell 1
              have y2 : wr.cell? ⟨wo.heap.size, 2, none⟩ = some (.int .i64 r.t.num) := fo.blk.cell 2
              have y3 : wr.cell? ⟨wo.heap.size, 3, none⟩ = some (.string r.t.sym) := fo.blk.cell 3
              have y4 : wr.cell? ⟨wo.heap.size, 4, none⟩ = some (.int .i64 r.t.price) := fo.blk.cell 4
              have y5 : wr.cell? ⟨wo.heap.size, 5, none⟩ = some (.int .i64 r.t.qty) := fo.blk.cell 5
              have y6 : wr.cell? ⟨wo.heap.size, 6, none⟩ = some (.int .i64 r.t.buy) := fo.blk.cell 6
              have y7 : wr.cell? ⟨wo.heap.size, 7, none⟩ = some (.int .i64 r.t.sell) := fo.blk.cell 7
              have y8 : wr.cell? ⟨wo.heap.size, 8, none⟩ = some (.int .i64 r.t.day) := fo.blk.cell 8
              have hwl : wo.heap.size < wr.heap.size := fo.blk.lt
              have HFo := hide fo
              clear fo
              go_wp2
              go_quiet (fail)
              go_wp2
              go_quiet (fail)
              go_wp2_with (first | (at_builtin; refine wpList_append_own_none rfl _ _ 39 rfl (wo.heap.size + 1) 56 i0 7 Tryz.underlying39 hi0 _ 1 _ rfl (unhide HV2) rfl ?_) | (at_builtin; refine wpList_append_own _ rfl _ _ 39 rfl (wo.heap.size + 1) 56 i0 z0 7 64 Tryz.underlying39 hi0 hz0 hz1 hz2 hz3 (by decide) _ 0 [] rfl (World.ownsRow_nil _ _ _ _) ⟨wr.heap.size, 0, none⟩ 1 1 r.t.cells rfl rfl (news7 _ r.t) (unhide HOne) (by decide) (by decide) (by simp; omega) ?_; intro v2 v2w v2o v2g v2n; clear v2n; rw [Nat.zero_add, List.nil_append] at v2o; obtain ⟨v2a, v2c, rfl⟩ := row_form v2o; have HV2 := hide v2o; have HG2 := hide v2g; clear v2o v2g))
              go_roundg (n - (i + 1))
              case measure => omega
              case rel =>
                refine ⟨i + 1, v2c, v2a, (by rw [unhide HE]; rfl), by push_cast; rfl, by omega, rfl, ?_, ?_⟩
                · rw [unhide HE]
                  show TRow v2w w.heap.size v2a v2c [r.t]
                  unfold TRow
                  rw [flatT_single]
                  exact ownR_mono (unhide HV2) (by omega)
                · exact (((unhide HFo).chg.drewN _).alloc _).grown (show World.grownBy _ v2w none from unhide HG2) (fun k e => by cases e)
        · have hcm : m ≤ oc := by rw [← unhide HM]; exact hcap
          have hgH : g < wo.heap.size := by
            obtain ⟨cs, hb⟩ := own_blk hrow (b := g) rfl
            exact hb.lt
          have hwH : w.heap.size ≤ wo.heap.size := kr.size
          have HL1 : Hid (∀ p, p ≤ m → (flatT (L.take p)).length = p * 7) := fun p hp => by
            rw [flatT_len, List.length_take, unhide HM, Nat.min_eq_left hp]
          have HL2 : Hid (∀ p, p ≤ m → (flatT (L.drop p)).length = (m - p) * 7) := fun p hp => by
            rw [flatT_len, List.length_drop, unhide HM]
          obtain ⟨i0, z0, hi0, hz0, hz1, hz2, hz3⟩ := info64_parts
          clear hrow kr hg hcap
          cases unhide HD with
          | print hk ht =>
            rw [hk] at c1
            go_wp2
            clear c0 c1 c2 c3 c4 c5 c6 c7 c8
            go_loopg [7] na (fun k av wq => ∃ j : Nat, av = .int .i64 (j : Int) ∧ j ≤ na ∧ k = na - j ∧ Fo w wq wo.heap.size r (some ⟨g, 0, none⟩) oc L)
            case atStart =>
              refine ⟨0, rfl, Nat.zero_le _, rfl, (unhide HR).kept ((Chg.refl Non wo).alloc _) (fun _ _ x => x), ?_, (unhide HK).alloc _⟩
              unfold Rc.arr
              rw [unhide HNum, hk]
              exact Blk.new wo _ _
            case round =>
              obtain ⟨j, rfl, hj0, hgj, fo⟩ := hrel
              by_cases hj : j < na
              · have hjm : j < m := by omega
                obtain ⟨g', t, e1, ht1, hc⟩ := unhide HT fo j hjm
                obtain rfl : g = g' := by injection e1 with e1; injection e1
                have hlow := (unhide HSt).low j t hj ht1
                have hd1 : decide ((j : Int) < (m : Int)) = true := by simp; omega
                have hd2 : decide (t.num < r.t.num) = true := by simpa using hlow
                have rc : wr.cell? ⟨wo.heap.size, 2, none⟩ = some (.int .i64 r.t.num) := fo.blk.cell 2
                have HFo := hide fo
                clear fo ht1 hlow e1
                go_wp2
                go_quiet (fail)
                go_wp2
                go_roundg (na - (j + 1))
                case measure => omega
                case rel => exact ⟨j + 1, by push_cast; rfl, by omega, rfl, (unhide HFo).dr _⟩
              · obtain rfl : j = na := by omega
                by_cases hjm : j < m
                · obtain ⟨g', t, e1, ht2, hc⟩ := unhide HT fo j hjm
                  obtain rfl : g = g' := by injection e1 with e1; injection e1
                  have hlt2 := ht t ht2
                  have hd1 : decide ((j : Int) < (m : Int)) = true := by simp; omega
                  have hd2 : decide (t.num < r.t.num) = false := by simp; omega
                  have hd3 : ¬ t.num = r.t.num := by omega
                  have hd4 : decide (t.num = r.t.num) = false := by simp; omega
                  have hd5 : (t.num == r.t.num) = false := by simp; omega
                  have rc : wr.cell? ⟨wo.heap.size, 2, none⟩ = some (.int .i64 r.t.num) := fo.blk.cell 2
                  have hoc : ¬ oc = j := by omega
                  clear e1 ht2 hlt2
                  have HFo := hide fo
                  clear fo
                  go_wp2
                  go_quiet (fail)
                  go_wp2
                  go_quiet (fail)
                  go_wp2_with (first | (at_builtin; refine wpList_append_own _ rfl _ _ 39 rfl (wo.heap.size + 1) 56 i0 z0 7 64 Tryz.underlying39 hi0 hz0 hz1 hz2 hz3 (by decide) _ (j + 1) (flatT (L.take j) ++ r.t.cells) rfl (unhide v2x).own ⟨g, (j) * 7, none⟩ (m - (j)) (oc - (j)) (flatT (L.drop (j))) rfl (unhide HL2 (j) (by omega)) ((unhide v2x).fo.row.tail (j)) (flatT_one _) (by unfold maxLen; omega) (by omega) (unhide v2x).le ?_; intro v3 v3w v3o v3g v3n; clear v3n; have v3x := hide (Nx.grow (unhide v2x) hgH hwH v3g v3o); have v3y : v3w.cell? ⟨wo.heap.size, 1, none⟩ = some (.int .i64 1) := (by rw [← hk]; exact (unhide v3x).fo.blk.cell 1); obtain ⟨v3a, v3c, rfl⟩ := row_form v3o; clear v3o v3g) | (at_builtin; refine wpList_append_own _ rfl _ _ 39 rfl (wo.heap.size + 1) 56 i0 z0 7 64 Tryz.underlying39 hi0 hz0 hz1 hz2 hz3 (by decide) _ (j) (flatT (L.take j)) rfl ((unhide v1x).alloc hgH hwH _).own ⟨v1w.heap.size, 0, none⟩ (1) (1) (r.t.cells) rfl rfl (news7 _ r.t) (unhide HOne) (by unfold maxLen; omega) (by omega) ((unhide v1x).alloc hgH hwH _).le ?_; intro v2 v2w v2o v2g v2n; clear v2n; have v2x := hide (Nx.grow ((unhide v1x).alloc hgH hwH _) hgH hwH v2g v2o); have v2y : v2w.cell? ⟨wo.heap.size, 1, none⟩ = some (.int .i64 1) := (by rw [← hk]; exact (unhide v2x).fo.blk.cell 1); obtain ⟨v2a, v2c, rfl⟩ := row_form v2o; clear v2o v2g) | (at_builtin; refine wpList_append_own _ rfl _ _ 39 rfl (wo.heap.size + 1) 56 i0 z0 7 64 Tryz.underlying39 hi0 hz0 hz1 hz2 hz3 (by decide) _ (0) ([]) rfl ((unhide HFo).dr _).nx.own ⟨g, 0, none⟩ (j) (oc) (flatT (L.take j)) rfl (unhide HL1 j (by omega)) (((unhide HFo).dr _).row.head j) (flatT_one _) (by unfold maxLen; omega) (by omega) ((unhide HFo).dr _).nx.le ?_; intro v1 v1w v1o v1g v1n; clear v1n; rw [Nat.zero_add, List.nil_append] at v1o; have v1x := hide (Nx.grow ((unhide HFo).dr _).nx hgH hwH v1g v1o); have v1y : v1w.cell? ⟨wo.heap.size, 1, none⟩ = some (.int .i64 1) := (by rw [← hk]; exact (unhide v1x).fo.blk.cell 1); have v1y2 : v1w.cell? ⟨wo.heap.size, 2, none⟩ = some (.int .i64 r.t.num) := (unhide v1x).fo.blk.cell 2; have v1y3 : v1w.cell? ⟨wo.heap.size, 3, none⟩ = some (.string r.t.sym) := (unhide v1x).fo.blk.cell 3; have v1y4 : v1w.cell? ⟨wo.heap.size, 4, none⟩ = some (.int .i64 r.t.price) := (unhide v1x).fo.blk.cell 4; have v1y5 : v1w.cell? ⟨wo.heap.size, 5, none⟩ = some (.int .i64 r.t.qty) := (unhide v1x).fo.blk.cell 5; have v1y6 : v1w.cell? ⟨wo.heap.size, 6, none⟩ = some (.int .i64 r.t.buy) := (unhide v1x).fo.blk.cell 6; have v1y7 : v1w.cell? ⟨wo.heap.size, 7, none⟩ = some (.int .i64 r.t.sell) := (unhide v1x).fo.blk.cell 7; have v1y8 : v1w.cell? ⟨wo.heap.size, 8, none⟩ = some (.int .i64 r.t.day) := (unhide v1x).fo.blk.cell 8; obtain ⟨v1a, v1c, rfl⟩ := row_form v1o; clear v1o v1g))
                  go_roundg (n - (i + 1))
                  case measure => omega
                  case rel =>
                    have hl3 : (L.take j ++ [r.t] ++ L.drop j).length = j + 1 + (m - j) := by
                      simp only [List.length_append, List.length_take, List.length_drop, List.length_singleton, List.length_nil, unhide HM]
                      omega
                    exact ⟨i + 1, v3c, v3a, (by rw [unhide HE, hl3]; try rfl), by push_cast; rfl, by omega, rfl, by rw [unhide HE]; exact (unhide v3x).fin hwH (by first | (rw [flatT_append, flatT_append, flatT_single]; done) | simp [flatT_append, flatT_single]) hl3, (unhide v3x).fo.chg⟩
                · have hd1 : decide ((j : Int) < (m : Int)) = false := by simp; omega
                  have hmj : j = m := by omega
                  subst hmj
                  by_cases hoc : oc = j
                  · have hoc' := hoc.symm
                    clear hoc
                    subst hoc'
                    have HFo := hide fo
                    clear fo
                    go_wp2
                    go_quiet (fail)
                    go_wp2
                    go_quiet (fail)
                    go_wp2_with (first | (at_builtin; refine wpList_append_own _ rfl _ _ 39 rfl (wo.heap.size + 1) 56 i0 z0 7 64 Tryz.underlying39 hi0 hz0 hz1 hz2 hz3 (by decide) _ (j + 1) (flatT (L.take j) ++ r.t.cells) rfl (unhide v2x).own ⟨g, 0, none⟩ (0) (0) ([]) rfl rfl (fun j u h => by simp at h) (fun u h => by simp at h) (by unfold maxLen; omega) (by omega) (unhide v2x).le ?_; intro v3 v3w v3o v3g v3n; clear v3n; have v3x := hide (Nx.grow (unhide v2x) hgH hwH v3g v3o); have v3y : v3w.cell? ⟨wo.heap.size, 1, none⟩ = some (.int .i64 1) := (by rw [← hk]; exact (unhide v3x).fo.blk.cell 1); obtain ⟨v3a, v3c, rfl⟩ := row_form v3o; clear v3o v3g) | (at_builtin; refine wpList_append_own _ rfl _ _ 39 rfl (wo.heap.size + 1) 56 i0 z0 7 64 Tryz.underlying39 hi0 hz0 hz1 hz2 hz3 (by decide) _ (j) (flatT (L.take j)) rfl ((unhide v1x).alloc hgH hwH _).own ⟨v1w.heap.size, 0, none⟩ (1) (1) (r.t.cells) rfl rfl (news7 _ r.t) (unhide HOne) (by unfold maxLen; omega) (by omega) ((unhide v1x).alloc hgH hwH _).le ?_; intro v2 v2w v2o v2g v2n; clear v2n; have v2x := hide (Nx.grow ((unhide v1x).alloc hgH hwH _) hgH hwH v2g v2o); have v2y : v2w.cell? ⟨wo.heap.size, 1, none⟩ = some (.int .i64 1) := (by rw [← hk]; exact (unhide v2x).fo.blk.cell 1); obtain ⟨v2a, v2c, rfl⟩ := row_form v2o; clear v2o v2g) | (at_builtin; refine wpList_append_own _ rfl _ _ 39 rfl (wo.heap.size + 1) 56 i0 z0 7 64 Tryz.underlying39 hi0 hz0 hz1 hz2 hz3 (by decide) _ (0) ([]) rfl ((unhide HFo).dr _).nx.own ⟨g, 0, none⟩ (j) (j) (flatT (L.take j)) rfl (unhide HL1 j (by omega)) (((unhide HFo).dr _).row.head j) (flatT_one _) (by unfold maxLen; omega) (by omega) ((unhide HFo).dr _).nx.le ?_; intro v1 v1w v1o v1g v1n; clear v1n; rw [Nat.zero_add, List.nil_append] at v1o; have v1x := hide (Nx.grow ((unhide HFo).dr _).nx hgH hwH v1g v1o); have v1y : v1w.cell? ⟨wo.heap.size, 1, none⟩ = some (.int .i64 1) := (by rw [← hk]; exact (unhide v1x).fo.blk.cell 1); have v1y2 : v1w.cell? ⟨wo.heap.size, 2, none⟩ = some (.int .i64 r.t.num) := (unhide v1x).fo.blk.cell 2; have v1y3 : v1w.cell? ⟨wo.heap.size, 3, none⟩ = some (.string r.t.sym) := (unhide v1x).fo.blk.cell 3; have v1y4 : v1w.cell? ⟨wo.heap.size, 4, none⟩ = some (.int .i64 r.t.price) := (unhide v1x).fo.blk.cell 4; have v1y5 : v1w.cell? ⟨wo.heap.size, 5, none⟩ = some (.int .i64 r.t.qty) := (unhide v1x).fo.blk.cell 5; have v1y6 : v1w.cell? ⟨wo.heap.size, 6, none⟩ = some (.int .i64 r.t.buy) := (unhide v1x).fo.blk.cell 6; have v1y7 : v1w.cell? ⟨wo.heap.size, 7, none⟩ = some (.int .i64 r.t.sell) := (unhide v1x).fo.blk.cell 7; have v1y8 : v1w.cell? ⟨wo.heap.size, 8, none⟩ = some (.int .i64 r.t.day) := (unhide v1x).fo.blk.cell 8; obtain ⟨v1a, v1c, rfl⟩ := row_form v1o; clear v1o v1g))
                    have hnl : L.drop (j) = [] := List.drop_eq_nil_of_le (by rw [unhide HM]; omega)
                    rw [hnl] at HE
                    go_roundg (n - (i + 1))
                    case measure => omega
                    case rel =>
                      have hl3 : (L.take j ++ [r.t] ++ []).length = j + 1 + 0 := by
                        simp only [List.length_append, List.length_take, List.length_drop, List.length_singleton, List.length_nil, unhide HM]
                        omega
                      exact ⟨i + 1, v3c, v3a, (by rw [unhide HE, hl3]; try rfl), by push_cast; rfl, by omega, rfl, by rw [unhide HE]; exact (unhide v3x).fin hwH (by first | (rw [flatT_append, flatT_append, flatT_single]; done) | simp [flatT_append, flatT_single]) hl3, (unhide v3x).fo.chg⟩
                  · have HFo := hide fo
                    clear fo
                    go_wp2
                    go_quiet (fail)
                    go_wp2
                    go_quiet (fail)
                    go_wp2_with (first | (at_builtin; refine wpList_append_own _ rfl _ _ 39 rfl (wo.heap.size + 1) 56 i0 z0 7 64 Tryz.underlying39 hi0 hz0 hz1 hz2 hz3 (by decide) _ (j + 1) (flatT (L.take j) ++ r.t.cells) rfl (unhide v2x).own ⟨g, j * 7, none⟩ (0) (oc - j) ([]) rfl rfl (fun j u h => by simp at h) (fun u h => by simp at h) (by unfold maxLen; omega) (by omega) (unhide v2x).le ?_; intro v3 v3w v3o v3g v3n; clear v3n; have v3x := hide (Nx.grow (unhide v2x) hgH hwH v3g v3o); have v3y : v3w.cell? ⟨wo.heap.size, 1, none⟩ = some (.int .i64 1) := (by rw [← hk]; exact (unhide v3x).fo.blk.cell 1); obtain ⟨v3a, v3c, rfl⟩ := row_form v3o; clear v3o v3g) | (at_builtin; refine wpList_append_own _ rfl _ _ 39 rfl (wo.heap.size + 1) 56 i0 z0 7 64 Tryz.underlying39 hi0 hz0 hz1 hz2 hz3 (by decide) _ (j) (flatT (L.take j)) rfl ((unhide v1x).alloc hgH hwH _).own ⟨v1w.heap.size, 0, none⟩ (1) (1) (r.t.cells) rfl rfl (news7 _ r.t) (unhide HOne) (by unfold maxLen; omega) (by omega) ((unhide v1x).alloc hgH hwH _).le ?_; intro v2 v2w v2o v2g v2n; clear v2n; have v2x := hide (Nx.grow ((unhide v1x).alloc hgH hwH _) hgH hwH v2g v2o); have v2y : v2w.cell? ⟨wo.heap.size, 1, none⟩ = some (.int .i64 1) := (by rw [← hk]; exact (unhide v2x).fo.blk.cell 1); obtain ⟨v2a, v2c, rfl⟩ := row_form v2o; clear v2o v2g) | (at_builtin; refine wpList_append_own _ rfl _ _ 39 rfl (wo.heap.size + 1) 56 i0 z0 7 64 Tryz.underlying39 hi0 hz0 hz1 hz2 hz3 (by decide) _ (0) ([]) rfl ((unhide HFo).dr _).nx.own ⟨g, 0, none⟩ (j) (oc) (flatT (L.take j)) rfl (unhide HL1 j (by omega)) (((unhide HFo).dr _).row.head j) (flatT_one _) (by unfold maxLen; omega) (by omega) ((unhide HFo).dr _).nx.le ?_; intro v1 v1w v1o v1g v1n; clear v1n; rw [Nat.zero_add, List.nil_append] at v1o; have v1x := hide (Nx.grow ((unhide HFo).dr _).nx hgH hwH v1g v1o); have v1y : v1w.cell? ⟨wo.heap.size, 1, none⟩ = some (.int .i64 1) := (by rw [← hk]; exact (unhide v1x).fo.blk.cell 1); have v1y2 : v1w.cell? ⟨wo.heap.size, 2, none⟩ = some (.int .i64 r.t.num) := (unhide v1x).fo.blk.cell 2; have v1y3 : v1w.cell? ⟨wo.heap.size, 3, none⟩ = some (.string r.t.sym) := (unhide v1x).fo.blk.cell 3; have v1y4 : v1w.cell? ⟨wo.heap.size, 4, none⟩ = some (.int .i64 r.t.price) := (unhide v1x).fo.blk.cell 4; have v1y5 : v1w.cell? ⟨wo.heap.size, 5, none⟩ = some (.int .i64 r.t.qty) := (unhide v1x).fo.blk.cell 5; have v1y6 : v1w.cell? ⟨wo.heap.size, 6, none⟩ = some (.int .i64 r.t.buy) := (unhide v1x).fo.blk.cell 6; have v1y7 : v1w.cell? ⟨wo.heap.size, 7, none⟩ = some (.int .i64 r.t.sell) := (unhide v1x).fo.blk.cell 7; have v1y8 : v1w.cell? ⟨wo.heap.size, 8, none⟩ = some (.int .i64 r.t.day) := (unhide v1x).fo.blk.cell 8; obtain ⟨v1a, v1c, rfl⟩ := row_form v1o; clear v1o v1g))
                    have hnl : L.drop (j) = [] := List.drop_eq_nil_of_le (by rw [unhide HM]; omega)
                    rw [hnl] at HE
                    go_roundg (n - (i + 1))
                    case measure => omega
                    case rel =>
                      have hl3 : (L.take j ++ [r.t] ++ []).length = j + 1 + 0 := by
                        simp only [List.length_append, List.length_take, List.length_drop, List.length_singleton, List.length_nil, unhide HM]
                        omega
                      exact ⟨i + 1, v3c, v3a, (by rw [unhide HE, hl3]; try rfl), by push_cast; rfl, by omega, rfl, by rw [unhide HE]; exact (unhide v3x).fin hwH (by first | (rw [flatT_append, flatT_append, flatT_single]; done) | simp [flatT_append, flatT_single]) hl3, (unhide v3x).fo.chg⟩
          | bust hk ht =>
            rw [hk] at c1
            go_wp2
            clear c0 c1 c2 c3 c4 c5 c6 c7 c8
            go_loopg [7] na (fun k av wq => ∃ j : Nat, av = .int .i64 (j : Int) ∧ j ≤ na ∧ k = na - j ∧ Fo w wq wo.heap.size r (some ⟨g, 0, none⟩) oc L)
            case atStart =>
              refine ⟨0, rfl, Nat.zero_le _, rfl, (unhide HR).kept ((Chg.refl Non wo).alloc _) (fun _ _ x => x), ?_, (unhide HK).alloc _⟩
              unfold Rc.arr
              rw [unhide HNum, hk]
              exact Blk.new wo _ _
            case round =>
              obtain ⟨j, rfl, hj0, hgj, fo⟩ := hrel
              by_cases hj : j < na
              · have hjm : j < m := by omega
                obtain ⟨g', t, e1, ht1, hc⟩ := unhide HT fo j hjm
                obtain rfl : g = g' := by injection e1 with e1; injection e1
                have hlow := (unhide HSt).low j t hj ht1
                have hd1 : decide ((j : Int) < (m : Int)) = true := by simp; omega
                have hd2 : decide (t.num < r.t.num) = true := by simpa using hlow
                have rc : wr.cell? ⟨wo.heap.size, 2, none⟩ = some (.int .i64 r.t.num) := fo.blk.cell 2
                have HFo := hide fo
                clear fo ht1 hlow e1
                go_wp2
                go_quiet (fail)
                go_wp2
                go_roundg (na - (j + 1))
                case measure => omega
                case rel => exact ⟨j + 1, by push_cast; rfl, by omega, rfl, (unhide HFo).dr _⟩
              · obtain rfl : j = na := by omega
                have hjm : j < m := by
                  have := (List.getElem?_eq_some_iff.1 ht).1
                  rw [← unhide HM]; exact this
                obtain ⟨g', e1, hc'⟩ := fo.row.at ht
                obtain rfl : g = g' := by injection e1 with e1; injection e1
                have hd1 : decide ((j : Int) < (m : Int)) = true := by simp; omega
                have hd2 : decide (r.t.num < r.t.num) = false := by simp
                have rc : wr.cell? ⟨wo.heap.size, 2, none⟩ = some (.int .i64 r.t.num) := fo.blk.cell 2

                have x0 : wr.cell? ⟨g, j * 7, none⟩ = some (.int .i64 r.t.num) := hc' 0 _ rfl
                have HFo := hide fo
                clear fo e1 hc'
                go_wp2
                go_quiet (fail)
                go_wp2
                go_quiet (fail)
                go_wp2_with (at_builtin; refine wpList_append_own _ rfl _ _ 39 rfl (wo.heap.size + 1) 56 i0 z0 7 64 Tryz.underlying39 hi0 hz0 hz1 hz2 hz3 (by decide) _ (0) ([]) rfl ((unhide HFo).dr _).nx.own ⟨g, 0, none⟩ (j) (oc) (flatT (L.take j)) rfl (unhide HL1 j (by omega)) (((unhide HFo).dr _).row.head j) (flatT_one _) (by unfold maxLen; omega) (by omega) ((unhide HFo).dr _).nx.le ?_; intro v1 v1w v1o v1g v1n; clear v1n; rw [Nat.zero_add, List.nil_append] at v1o; have v1x := hide (Nx.grow ((unhide HFo).dr _).nx hgH hwH v1g v1o); have v1y : v1w.cell? ⟨wo.heap.size, 1, none⟩ = some (.int .i64 2) := (by rw [← hk]; exact (unhide v1x).fo.blk.cell 1); have v1y2 : v1w.cell? ⟨wo.heap.size, 2, none⟩ = some (.int .i64 r.t.num) := (unhide v1x).fo.blk.cell 2; have v1y3 : v1w.cell? ⟨wo.heap.size, 3, none⟩ = some (.string r.t.sym) := (unhide v1x).fo.blk.cell 3; have v1y4 : v1w.cell? ⟨wo.heap.size, 4, none⟩ = some (.int .i64 r.t.price) := (unhide v1x).fo.blk.cell 4; have v1y5 : v1w.cell? ⟨wo.heap.size, 5, none⟩ = some (.int .i64 r.t.qty) := (unhide v1x).fo.blk.cell 5; have v1y6 : v1w.cell? ⟨wo.heap.size, 6, none⟩ = some (.int .i64 r.t.buy) := (unhide v1x).fo.blk.cell 6; have v1y7 : v1w.cell? ⟨wo.heap.size, 7, none⟩ = some (.int .i64 r.t.sell) := (unhide v1x).fo.blk.cell 7; have v1y8 : v1w.cell? ⟨wo.heap.size, 8, none⟩ = some (.int .i64 r.t.day) := (unhide v1x).fo.blk.cell 8; obtain ⟨v1a, v1c, rfl⟩ := row_form v1o; clear v1o v1g)
                obtain ⟨g', e1, hc'⟩ := (unhide v1x).fo.row.at ht
                obtain rfl : g = g' := by injection e1 with e1; injection e1
                have x0 : v1w.cell? ⟨g, j * 7, none⟩ = some (.int .i64 r.t.num) := hc' 0 _ rfl
                have x1 : v1w.cell? ⟨g, j * 7 + 1, none⟩ = some (.string r.t.sym) := hc' 1 _ rfl
                have x2 : v1w.cell? ⟨g, j * 7 + 2, none⟩ = some (.int .i64 r.t.price) := hc' 2 _ rfl
                have x3 : v1w.cell? ⟨g, j * 7 + 3, none⟩ = some (.int .i64 r.t.qty) := hc' 3 _ rfl
                have x4 : v1w.cell? ⟨g, j * 7 + 4, none⟩ = some (.int .i64 r.t.buy) := hc' 4 _ rfl
                have x5 : v1w.cell? ⟨g, j * 7 + 5, none⟩ = some (.int .i64 r.t.sell) := hc' 5 _ rfl
                have x6 : v1w.cell? ⟨g, j * 7 + 6, none⟩ = some (.int .i64 r.t.day) := hc' 6 _ rfl
                clear hc' e1
                go_quiet (fail)
                by_cases hoc : oc = j + 1
                · obtain rfl : m = j + 1 := by omega
                  subst hoc
                  go_wp2_with (at_builtin; refine wpList_append_own _ rfl _ _ 39 rfl (wo.heap.size + 1) 56 i0 z0 7 64 Tryz.underlying39 hi0 hz0 hz1 hz2 hz3 (by decide) _ (j) (flatT (L.take j)) rfl ((unhide v1x).dr _).own ⟨g, 0, none⟩ (0) (0) ([]) rfl rfl (fun j u h => by simp at h) (fun u h => by simp at h) (by unfold maxLen; omega) (by omega) ((unhide v1x).dr _).le ?_; intro v2 v2w v2o v2g v2n; clear v2n; have v2x := hide (Nx.grow ((unhide v1x).dr _) hgH hwH v2g v2o); have v2y : v2w.cell? ⟨wo.heap.size, 1, none⟩ = some (.int .i64 2) := (by rw [← hk]; exact (unhide v2x).fo.blk.cell 1); obtain ⟨v2a, v2c, rfl⟩ := row_form v2o; clear v2o v2g)
                  have hnl : L.drop (j + 1) = [] := List.drop_eq_nil_of_le (by rw [unhide HM]; omega)
                  rw [hnl] at HE
                  go_roundg (n - (i + 1))
                  case measure => omega
                  case rel =>
                    have hl3 : (L.take j ++ []).length = j + 0 := by
                      simp only [List.length_append, List.length_take, List.length_drop, List.length_singleton, List.length_nil, unhide HM]
                      omega
                    exact ⟨i + 1, v2c, v2a, (by rw [unhide HE, hl3]; try rfl), by push_cast; rfl, by omega, rfl, by rw [unhide HE]; exact (unhide v2x).fin hwH (by first | (rw [flatT_append, flatT_append, flatT_single]; done) | simp [flatT_append, flatT_single]) hl3, (unhide v2x).fo.chg⟩
                · go_wp2_with (at_builtin; refine wpList_append_own _ rfl _ _ 39 rfl (wo.heap.size + 1) 56 i0 z0 7 64 Tryz.underlying39 hi0 hz0 hz1 hz2 hz3 (by decide) _ (j) (flatT (L.take j)) rfl ((unhide v1x).dr _).own ⟨g, (j + 1) * 7, none⟩ (m - (j + 1)) (oc - (j + 1)) (flatT (L.drop (j + 1))) rfl (unhide HL2 (j + 1) (by omega)) (((unhide v1x).dr _).fo.row.tail (j + 1)) (flatT_one _) (by unfold maxLen; omega) (by omega) ((unhide v1x).dr _).le ?_; intro v2 v2w v2o v2g v2n; clear v2n; have v2x := hide (Nx.grow ((unhide v1x).dr _) hgH hwH v2g v2o); have v2y : v2w.cell? ⟨wo.heap.size, 1, none⟩ = some (.int .i64 2) := (by rw [← hk]; exact (unhide v2x).fo.blk.cell 1); obtain ⟨v2a, v2c, rfl⟩ := row_form v2o; clear v2o v2g)
                  go_roundg (n - (i + 1))
                  case measure => omega
                  case rel =>
                    have hl3 : (L.take j ++ L.drop (j + 1)).length = j + (m - (j + 1)) := by
                      simp only [List.length_append, List.length_take, List.length_drop, List.length_singleton, List.length_nil, unhide HM]
                      omega
                    exact ⟨i + 1, v2c, v2a, (by rw [unhide HE, hl3]; try rfl), by push_cast; rfl, by omega, rfl, by rw [unhide HE]; exact (unhide v2x).fin hwH (by first | (rw [flatT_append, flatT_append, flatT_single]; done) | simp [flatT_append, flatT_single]) hl3, (unhide v2x).fo.chg⟩
          | correct hk t ht hn =>
            rw [hk] at c1
            go_wp2
            clear c0 c1 c2 c3 c4 c5 c6 c7 c8
            go_loopg [7] na (fun k av wq => ∃ j : Nat, av = .int .i64 (j : Int) ∧ j ≤ na ∧ k = na - j ∧ Fo w wq wo.heap.size r (some ⟨g, 0, none⟩) oc L)
            case atStart =>
              refine ⟨0, rfl, Nat.zero_le _, rfl, (unhide HR).kept ((Chg.refl Non wo).alloc _) (fun _ _ x => x), ?_, (unhide HK).alloc _⟩
              unfold Rc.arr
              rw [unhide HNum, hk]
              exact Blk.new wo _ _
            case round =>
              obtain ⟨j, rfl, hj0, hgj, fo⟩ := hrel
              by_cases hj : j < na
              · have hjm : j < m := by omega
                obtain ⟨g', t, e1, ht1, hc⟩ := unhide HT fo j hjm
                obtain rfl : g = g' := by injection e1 with e1; injection e1
                have hlow := (unhide HSt).low j t hj ht1
                have hd1 : decide ((j : Int) < (m : Int)) = true := by simp; omega
                have hd2 : decide (t.num < r.t.num) = true := by simpa using hlow
                have rc : wr.cell? ⟨wo.heap.size, 2, none⟩ = some (.int .i64 r.t.num) := fo.blk.cell 2
                have HFo := hide fo
                clear fo ht1 hlow e1
                go_wp2
                go_quiet (fail)
                go_wp2
                go_roundg (na - (j + 1))
                case measure => omega
                case rel => exact ⟨j + 1, by push_cast; rfl, by omega, rfl, (unhide HFo).dr _⟩
              · obtain rfl : j = na := by omega
                have hjm : j < m := by
                  have := (List.getElem?_eq_some_iff.1 ht).1
                  rw [← unhide HM]; exact this
                obtain ⟨g', e1, hc'⟩ := fo.row.at ht
                obtain rfl : g = g' := by injection e1 with e1; injection e1
                have hd1 : decide ((j : Int) < (m : Int)) = true := by simp; omega
                have hd2 : decide (r.t.num < r.t.num) = false := by simp
                have rc : wr.cell? ⟨wo.heap.size, 2, none⟩ = some (.int .i64 r.t.num) := fo.blk.cell 2

                have x0 : wr.cell? ⟨g, j * 7, none⟩ = some (.int .i64 r.t.num) := by rw [← hn]; exact hc' 0 _ rfl
                have HFo := hide fo
                clear fo e1 hc'
                go_wp2
                go_quiet (fail)
                go_wp2
                go_quiet (fail)
                go_wp2_with (at_builtin; refine wpList_append_own _ rfl _ _ 39 rfl (wo.heap.size + 1) 56 i0 z0 7 64 Tryz.underlying39 hi0 hz0 hz1 hz2 hz3 (by decide) _ (0) ([]) rfl ((unhide HFo).dr _).nx.own ⟨g, 0, none⟩ (j) (oc) (flatT (L.take j)) rfl (unhide HL1 j (by omega)) (((unhide HFo).dr _).row.head j) (flatT_one _) (by unfold maxLen; omega) (by omega) ((unhide HFo).dr _).nx.le ?_; intro v1 v1w v1o v1g v1n; clear v1n; rw [Nat.zero_add, List.nil_append] at v1o; have v1x := hide (Nx.grow ((unhide HFo).dr _).nx hgH hwH v1g v1o); have v1y : v1w.cell? ⟨wo.heap.size, 1, none⟩ = some (.int .i64 3) := (by rw [← hk]; exact (unhide v1x).fo.blk.cell 1); have v1y2 : v1w.cell? ⟨wo.heap.size, 2, none⟩ = some (.int .i64 r.t.num) := (unhide v1x).fo.blk.cell 2; have v1y3 : v1w.cell? ⟨wo.heap.size, 3, none⟩ = some (.string r.t.sym) := (unhide v1x).fo.blk.cell 3; have v1y4 : v1w.cell? ⟨wo.heap.size, 4, none⟩ = some (.int .i64 r.t.price) := (unhide v1x).fo.blk.cell 4; have v1y5 : v1w.cell? ⟨wo.heap.size, 5, none⟩ = some (.int .i64 r.t.qty) := (unhide v1x).fo.blk.cell 5; have v1y6 : v1w.cell? ⟨wo.heap.size, 6, none⟩ = some (.int .i64 r.t.buy) := (unhide v1x).fo.blk.cell 6; have v1y7 : v1w.cell? ⟨wo.heap.size, 7, none⟩ = some (.int .i64 r.t.sell) := (unhide v1x).fo.blk.cell 7; have v1y8 : v1w.cell? ⟨wo.heap.size, 8, none⟩ = some (.int .i64 r.t.day) := (unhide v1x).fo.blk.cell 8; obtain ⟨v1a, v1c, rfl⟩ := row_form v1o; clear v1o v1g)
                go_quiet (fail)
                by_cases hoc : oc = j + 1
                · obtain rfl : m = j + 1 := by omega
                  subst hoc
                  go_wp2_with (first | (at_builtin; refine wpList_append_own _ rfl _ _ 39 rfl (wo.heap.size + 1) 56 i0 z0 7 64 Tryz.underlying39 hi0 hz0 hz1 hz2 hz3 (by decide) _ (j + 1) (flatT (L.take j) ++ r.t.cells) rfl (unhide v2x).own ⟨g, 0, none⟩ (0) (0) ([]) rfl rfl (fun j u h => by simp at h) (fun u h => by simp at h) (by unfold maxLen; omega) (by omega) (unhide v2x).le ?_; intro v3 v3w v3o v3g v3n; clear v3n; have v3x := hide (Nx.grow (unhide v2x) hgH hwH v3g v3o); have v3y : v3w.cell? ⟨wo.heap.size, 1, none⟩ = some (.int .i64 3) := (by rw [← hk]; exact (unhide v3x).fo.blk.cell 1); obtain ⟨v3a, v3c, rfl⟩ := row_form v3o; clear v3o v3g) | (at_builtin; refine wpList_append_own _ rfl _ _ 39 rfl (wo.heap.size + 1) 56 i0 z0 7 64 Tryz.underlying39 hi0 hz0 hz1 hz2 hz3 (by decide) _ (j) (flatT (L.take j)) rfl (((unhide v1x).dr _).alloc hgH hwH _).own ⟨v1w.heap.size, 0, none⟩ (1) (1) (r.t.cells) rfl rfl (news7 _ r.t) (unhide HOne) (by unfold maxLen; omega) (by omega) (((unhide v1x).dr _).alloc hgH hwH _).le ?_; intro v2 v2w v2o v2g v2n; clear v2n; have v2x := hide (Nx.grow (((unhide v1x).dr _).alloc hgH hwH _) hgH hwH v2g v2o); have v2y : v2w.cell? ⟨wo.heap.size, 1, none⟩ = some (.int .i64 3) := (by rw [← hk]; exact (unhide v2x).fo.blk.cell 1); obtain ⟨v2a, v2c, rfl⟩ := row_form v2o; clear v2o v2g))
                  have hnl : L.drop (j + 1) = [] := List.drop_eq_nil_of_le (by rw [unhide HM]; omega)
                  rw [hnl] at HE
                  go_roundg (n - (i + 1))
                  case measure => omega
                  case rel =>
                    have hl3 : (L.take j ++ [r.t] ++ []).length = j + 1 + 0 := by
                      simp only [List.length_append, List.length_take, List.length_drop, List.length_singleton, List.length_nil, unhide HM]
                      omega
                    exact ⟨i + 1, v3c, v3a, (by rw [unhide HE, hl3]; try rfl), by push_cast; rfl, by omega, rfl, by rw [unhide HE]; exact (unhide v3x).fin hwH (by first | (rw [flatT_append, flatT_append, flatT_single]; done) | simp [flatT_append, flatT_single]) hl3, (unhide v3x).fo.chg⟩
                · go_wp2_with (first | (at_builtin; refine wpList_append_own _ rfl _ _ 39 rfl (wo.heap.size + 1) 56 i0 z0 7 64 Tryz.underlying39 hi0 hz0 hz1 hz2 hz3 (by decide) _ (j + 1) (flatT (L.take j) ++ r.t.cells) rfl (unhide v2x).own ⟨g, (j + 1) * 7, none⟩ (m - (j + 1)) (oc - (j + 1)) (flatT (L.drop (j + 1))) rfl (unhide HL2 (j + 1) (by omega)) ((unhide v2x).fo.row.tail (j + 1)) (flatT_one _) (by unfold maxLen; omega) (by omega) (unhide v2x).le ?_; intro v3 v3w v3o v3g v3n; clear v3n; have v3x := hide (Nx.grow (unhide v2x) hgH hwH v3g v3o); have v3y : v3w.cell? ⟨wo.heap.size, 1, none⟩ = some (.int .i64 3) := (by rw [← hk]; exact (unhide v3x).fo.blk.cell 1); obtain ⟨v3a, v3c, rfl⟩ := row_form v3o; clear v3o v3g) | (at_builtin; refine wpList_append_own _ rfl _ _ 39 rfl (wo.heap.size + 1) 56 i0 z0 7 64 Tryz.underlying39 hi0 hz0 hz1 hz2 hz3 (by decide) _ (j) (flatT (L.take j)) rfl (((unhide v1x).dr _).alloc hgH hwH _).own ⟨v1w.heap.size, 0, none⟩ (1) (1) (r.t.cells) rfl rfl (news7 _ r.t) (unhide HOne) (by unfold maxLen; omega) (by omega) (((unhide v1x).dr _).alloc hgH hwH _).le ?_; intro v2 v2w v2o v2g v2n; clear v2n; have v2x := hide (Nx.grow (((unhide v1x).dr _).alloc hgH hwH _) hgH hwH v2g v2o); have v2y : v2w.cell? ⟨wo.heap.size, 1, none⟩ = some (.int .i64 3) := (by rw [← hk]; exact (unhide v2x).fo.blk.cell 1); obtain ⟨v2a, v2c, rfl⟩ := row_form v2o; clear v2o v2g))
                  go_roundg (n - (i + 1))
                  case measure => omega
                  case rel =>
                    have hl3 : (L.take j ++ [r.t] ++ L.drop (j + 1)).length = j + 1 + (m - (j + 1)) := by
                      simp only [List.length_append, List.length_take, List.length_drop, List.length_singleton, List.length_nil, unhide HM]
                      omega
                    exact ⟨i + 1, v3c, v3a, (by rw [unhide HE, hl3]; try rfl), by push_cast; rfl, by omega, rfl, by rw [unhide HE]; exact (unhide v3x).fin hwH (by first | (rw [flatT_append, flatT_append, flatT_single]; done) | simp [flatT_append, flatT_single]) hl3, (unhide v3x).fo.chg⟩
    · obtain rfl : i = n := by omega
      have HFn' := unhide HFn
      rw [HFn'] at hrow ⊢
      go_wp2
      go_ret2
      exact ⟨_, _, rfl, hrow, kr⟩

end Go.Proofs.YtigaphnafnpfnaaGreatDoor

