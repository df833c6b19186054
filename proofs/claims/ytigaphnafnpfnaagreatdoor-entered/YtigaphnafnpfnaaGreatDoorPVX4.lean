import Derived.Test.YtigaphnafnpfnaaGreatDoorPVX2
import Derived.Test.YtigaphnafnpfnaaGreatDoorPVX3
import Derived.Test.YtigaphnafnpfnaaGreatDoorPVW
import Derived.Test.YtigaphnafnpfnaaGreatDoorPVB2
import Derived.Shelf.SlSortCmp.Whole1
import Derived.Laws.AppendOwn
import Derived.Test.YtigaphnafnpfnaaGreatDoorPVB5
import Derived.Deep.QuietTactic
import Derived.BigQuiet
import Derived.BigRegion
import Derived.Deep.RegionWith
import Derived.Deep.LoopGhost
import Derived.Deep.RegionHeld3
import Derived.Deep.DrawnRows
set_option linter.unusedVariables false
set_option linter.unusedSimpArgs false
namespace Go.Proofs.YtigaphnafnpfnaaGreatDoor
open Go.RowKit
attribute [local go_sem ↓] Go.wp_at_zero Go.wp_at_succ

/-- the first by rank of the good ones among the first i -/
def bestX (l : List Ord) (o : Ask) : Nat → Option Nat
  | 0 => none
  | i + 1 => if goodR o (nthO l i) then (match bestX l o i with
      | none => some i
      | some b => if lessB (nthO l i) (nthO l b) then some i else some b) else bestX l o i

theorem bestX_lt (l : List Ord) (o : Ask) : ∀ i b, bestX l o i = some b → b < i
  | 0, b, h => by simp [bestX] at h
  | i + 1, b, h => by
    unfold bestX at h
    split at h
    · split at h
      · simp at h; omega
      · rename_i b' hb'
        have := bestX_lt l o i b' hb'
        split at h <;> simp at h <;> omega
    · have := bestX_lt l o i b h; omega

def bestR (l : List Ord) (o : Ask) : Option Nat := bestX l o l.length

set_option maxHeartbeats 1000000 in
theorem rbest_any (base sb : Nat) (S : RS) (m : SM) (o : Ask) (w : World) (h : StV w base sb S m) (hlen : S.l.length ≤ 1000) :
    Calls Tryz.prog 199 #[.pointer (some ⟨sb, 0, none⟩), o.val] w fun e w' => e = .returned (.int .i64 (oi (bestR S.l o))) ∧ Chg Non w w' := by
  obtain ⟨n, hn⟩ : ∃ n, S.l.length = n := ⟨_, rfl⟩
  obtain ⟨a, c, hv⟩ := row_slice h.lrow
  have HG : Hid (∀ W, Chg Non w W → ∀ i, i < n → Calls Tryz.prog 224 #[.pointer (some ⟨sb, 0, none⟩), o.val, .int .i64 (i : Int)] W fun e w' => e = .returned (.bool (goodR o (nthO S.l i))) ∧ Chg Non W w') :=
    fun W k i hi => rgood_any base sb i S m o W (h.kept0 k) hlen (by omega)
  have HB : Hid (∀ W, Chg Non w W → ∀ i k, i < n → k < n → Calls Tryz.prog 225 #[.pointer (some ⟨sb, 0, none⟩), .int .i64 (i : Int), .int .i64 (k : Int)] W fun e w' => e = .returned (.bool (lessB (nthO S.l i) (nthO S.l k))) ∧ Chg Non W w') :=
    fun W k i j hi hj => rbefore_any base sb i j S m W (h.kept0 k) hlen (by omega) (by omega)
  rw [hn] at hv hlen
  have v1 : w.cell? ⟨sb, 1, none⟩ = some (.slice a n c) := by rw [← hv]; exact h.blk.cell 1
  have lsb := h.blk.lt
  have HR : Hid (bestR S.l o = bestX S.l o n) := by show _ = _; unfold bestR; rw [hn]
  obtain ⟨L, hL⟩ : ∃ L, S.l = L := ⟨_, rfl⟩
  rw [hL] at HR HG HB ⊢
  clear h hv hL hn
  obtain ⟨id, owner, sym, side, kind, price, qty⟩ := o
  simp only [Ask.val] at HG ⊢
  obtain ⟨w0, hw0⟩ : ∃ w0, w0 = w.alloc (.cells #[.int .i64 id, .int .i64 owner, .string sym, .int .i64 side, .int .i64 kind, .int .i64 price, .int .i64 qty] 52) := ⟨_, rfl⟩
  have HB0 : Hid (Blk w0 w.heap.size #[.int .i64 id, .int .i64 owner, .string sym, .int .i64 side, .int .i64 kind, .int .i64 price, .int .i64 qty] 52 ∧ Chg Non w w0) := ⟨by rw [hw0]; exact Blk.new _ _ _, by rw [hw0]; exact (Chg.refl _ _).alloc _⟩
  have HW := hide hw0
  clear hw0
  go_enter Tryz.func199, Tryz.ntmps199
  go_wp2
  rw [← unhide HW]
  go_loopg [5, 6] n (fun k bv iv wr => ∃ i : Nat, iv = .int .i64 (i : Int) ∧ i ≤ n ∧ k = n - i ∧ bv = .int .i64 (oi (bestX L ⟨id, owner, sym, side, kind, price, qty⟩ i)) ∧ Chg Non w0 wr)
  case atStart => exact ⟨0, rfl, Nat.zero_le _, rfl, rfl, Chg.refl _ _⟩
  case round =>
    obtain ⟨i, rfl, hi, hgk, rfl, kr⟩ := hrel
    obtain ⟨b0, k0⟩ := unhide HB0
    have v1r := (k0.trans kr).cell v1 (fun x => x)
    have br := kr.blk b0 (fun x => x)
    have b0r : wr.cell? ⟨w.heap.size, 0, none⟩ = some (.int .i64 id) := br.cell 0
    have b1r : wr.cell? ⟨w.heap.size, 1, none⟩ = some (.int .i64 owner) := br.cell 1
    have b2r : wr.cell? ⟨w.heap.size, 2, none⟩ = some (.string sym) := br.cell 2
    have b3r : wr.cell? ⟨w.heap.size, 3, none⟩ = some (.int .i64 side) := br.cell 3
    have b4r : wr.cell? ⟨w.heap.size, 4, none⟩ = some (.int .i64 kind) := br.cell 4
    have b5r : wr.cell? ⟨w.heap.size, 5, none⟩ = some (.int .i64 price) := br.cell 5
    have b6r : wr.cell? ⟨w.heap.size, 6, none⟩ = some (.int .i64 qty) := br.cell 6
    have HK0 := hide k0
    have HK := hide kr
    clear kr k0 b0 br
    by_cases hlt : i < n
    · have G1 := unhide HG _ ((unhide HK0).trans (unhide HK)) i hlt
      cases hg : goodR ⟨id, owner, sym, side, kind, price, qty⟩ (nthO L i)
      · rw [hg] at G1
        have HS : Hid (bestX L ⟨id, owner, sym, side, kind, price, qty⟩ (i + 1) = bestX L ⟨id, owner, sym, side, kind, price, qty⟩ i) := by show _ = _; conv => lhs; unfold bestX
                                                                                                                                            rw [hg]; rfl
        have HC := hide G1
        clear G1 hg
        go_wp2_with fail
        refine (unhide HC).mono ?_
        rintro e w2 ⟨rfl, k2⟩
        have HK2 := hide k2
        clear k2
        go_wp2
        go_roundg (n - (i + 1))
        case measure => omega
        case rel => exact ⟨i + 1, by push_cast; rfl, by omega, rfl, by rw [unhide HS], (unhide HK).trans (unhide HK2)⟩
      · rw [hg] at G1
        have HC := hide G1
        clear G1
        cases hb : bestX L ⟨id, owner, sym, side, kind, price, qty⟩ i with
        | none =>
          have HS : Hid (bestX L ⟨id, owner, sym, side, kind, price, qty⟩ (i + 1) = some i) := by
            show _ = _
            conv => lhs; unfold bestX
            rw [hg, hb]; rfl
          clear hg hb
          simp only [oi]
          go_wp2_with fail
          refine (unhide HC).mono ?_
          rintro e w2 ⟨rfl, k2⟩
          have HK2 := hide k2
          clear k2
          go_wp2
          go_roundg (n - (i + 1))
          case measure => omega
          case rel => exact ⟨i + 1, by push_cast; rfl, by omega, rfl, by rw [unhide HS]; rfl, (unhide HK).trans (unhide HK2)⟩
        | some b =>
          have hbi := bestX_lt _ _ _ _ hb
          cases hl : lessB (nthO L i) (nthO L b)
          · have HS : Hid (bestX L ⟨id, owner, sym, side, kind, price, qty⟩ (i + 1) = some b) := by
              show _ = _
              conv => lhs; unfold bestX
              rw [hg, hb]; simp [hl]
            have HL := hide hl
            clear hg hb hl
            simp only [oi]
            go_wp2_with fail
            refine (unhide HC).mono ?_
            rintro e w2 ⟨rfl, k2⟩
            have HC2 := hide (unhide HB w2 (((unhide HK0).trans (unhide HK)).trans k2) i b hlt (by omega))
            have HK2 := hide k2
            clear k2
            go_wp2_with fail
            refine (unhide HC2).mono ?_
            rintro e w3 ⟨rfl, k3⟩
            have HK3 := hide k3
            clear k3
            rw [unhide HL]
            go_wp2
            go_roundg (n - (i + 1))
            case measure => omega
            case rel => exact ⟨i + 1, by push_cast; rfl, by omega, rfl, by rw [unhide HS]; rfl, ((unhide HK).trans (unhide HK2)).trans (unhide HK3)⟩
          · have HS : Hid (bestX L ⟨id, owner, sym, side, kind, price, qty⟩ (i + 1) = some i) := by
              show _ = _
              conv => lhs; unfold bestX
              rw [hg, hb]; simp [hl]
            have HL := hide hl
            clear hg hb hl
            simp only [oi]
            go_wp2_with fail
            refine (unhide HC).mono ?_
            rintro e w2 ⟨rfl, k2⟩
            have HC2 := hide (unhide HB w2 (((unhide HK0).trans (unhide HK)).trans k2) i b hlt (by omega))
            have HK2 := hide k2
            clear k2
            go_wp2_with fail
            refine (unhide HC2).mono ?_
            rintro e w3 ⟨rfl, k3⟩
            have HK3 := hide k3
            clear k3
            rw [unhide HL]
            go_wp2
            go_roundg (n - (i + 1))
            case measure => omega
            case rel => exact ⟨i + 1, by push_cast; rfl, by omega, rfl, by rw [unhide HS]; rfl, ((unhide HK).trans (unhide HK2)).trans (unhide HK3)⟩
    · obtain rfl : i = n := by omega
      go_wp2
      go_ret
      exact ⟨by rw [unhide HR]; rfl, (unhide HK0).trans (unhide HK)⟩

end Go.Proofs.YtigaphnafnpfnaaGreatDoor

set_option linter.unusedVariables false
set_option linter.unusedSimpArgs false
namespace Go.Proofs.YtigaphnafnpfnaaGreatDoor
open Go.RowKit
attribute [local go_sem ↓] Go.wp_at_zero Go.wp_at_succ

theorem itoa_str (n : Int) (h0 : -9223372036854775808 ≤ n) (h1 : n ≤ 9223372036854775807) (w : World) (hT : Tab w) :
    Calls Tryz.prog 115 #[.int .i64 n] w fun e w' => ∃ s : ByteArray, e = .returned (.string s) ∧ s.size ≤ 21 ∧ (⟨#[32]⟩ ++ s : ByteArray) = numS n ∧ Chg Non w w' := by
  refine (itoa_any n h0 h1 w hT).mono ?_
  rintro e w' ⟨rfl, k⟩
  refine ⟨_, rfl, ?_, rfl, k⟩
  have := Lib.itoa_length_le n h0 h1
  have e : (ByteArray.mk (Lib.itoa n).toArray).size = (Lib.itoa n).length := by show (Lib.itoa n).toArray.size = _; simp
  omega

theorem cat_run {P : Program} (a b : ByteArray) (h : a.size + b.size ≤ 1000000) (W : World) : (Op.stringOp .add a b).run P W = .ok (.string (a ++ b)) W := run_string_add_sum W _ _ (by omega)

set_option maxRecDepth 100000 in
set_option maxHeartbeats 1000000 in
theorem lineOf_any (word : ByteArray) (f : Nat → Int) (sb m cap : Nat) (w : World) (hT : Tab w) (hm : m ≤ 100) (hw : word.size ≤ 1000)
    (hc : ∀ i, i < m → w.cell? ⟨sb, i, none⟩ = some (.int .i64 (f i))) (hf : ∀ i, i < m → -9223372036854775808 ≤ f i ∧ f i ≤ 9223372036854775807) :
    Calls Tryz.prog 65 #[.string word, .slice (some ⟨sb, 0, none⟩) m cap] w fun e w' => e = .returned (.string (lineF f word m)) ∧ Chg Non w w' := by
  have HT := hide hT
  have HC := hide hc
  have HF := hide hf
  clear hT hc hf
  go_enter Tryz.func65, Tryz.ntmps65
  go_wp2
  go_loopg [0, 6, 9] m (fun k sv _ iv wr => ∃ i : Nat, iv = .int .i64 (i : Int) ∧ i ≤ m ∧ k = m - i ∧ sv = .string (lineF f word i) ∧ Chg Non w wr)
  case atStart => exact ⟨0, rfl, Nat.zero_le _, rfl, rfl, Chg.refl _ _⟩
  case round =>
    obtain ⟨i, rfl, hi, hgk, rfl, hc⟩ := hrel
    by_cases hin : i < m
    · have hcell : wr.cell? ⟨sb, i, none⟩ = some (.int .i64 (f i)) := hc.cell (unhide HC i hin) (fun x => x)
      have hb := unhide HF i hin
      have HTr := hide ((unhide HT).kept0 hc)
      have HK := hide hc
      clear hc
      have hls : (lineF f word i).size ≤ 10000 := by
        have := lineF_size f word i (fun j hj => unhide HF j (by omega))
        omega
      have HX : Hid (lineF f word (i + 1) = lineF f word i ++ numS (f i)) := rfl
      generalize hv : f i = v at *
      generalize hsw : lineF f word i = sw at *
      clear hv hsw
      go_wp2_with (go_at_call 115; refine (itoa_str v hb.1 hb.2 _ (unhide HTr)).mono ?_; rintro e w' ⟨s, rfl, hs1, hs2, hk⟩; have HK2 := hide hk; have HS2 := hide hs2; clear hk hs2; have c1 := cat_run (P := Tryz.prog) ⟨#[32]⟩ s (by show 1 + s.size ≤ 1000000; omega); have c2 := cat_run (P := Tryz.prog) sw (⟨#[32]⟩ ++ s) (by rw [ByteArray.size_append]; show sw.size + (1 + s.size) ≤ 1000000; omega))
      go_roundg (m - (i + 1))
      case measure => omega
      case rel => exact ⟨i + 1, by push_cast; rfl, by omega, rfl, by rw [unhide HX, unhide HS2], (unhide HK).trans (unhide HK2)⟩
    · obtain rfl : i = m := by omega
      go_wp2
      go_ret
      exact ⟨rfl, hc⟩

end Go.Proofs.YtigaphnafnpfnaaGreatDoor

/- slices.SortedFunc(slices.Values(side), byRank) -/
set_option linter.unusedVariables false
set_option linter.unusedSimpArgs false
namespace Go.Proofs.YtigaphnafnpfnaaGreatDoor
open Go.RowKit Go.Sort
attribute [local go_sem ↓] Go.wp_at_zero Go.wp_at_succ

theorem sortFunc_any (blk cap len : Nat) (f : Nat → Nat) (om : Nat → Ord) (s : Int) (w : World) (h0 : 0 < len) (hlen : len ≤ 100000) (hl : ∀ j, j < len → Liv w om s (f j)) (cs : Array Value) (hb : Blk w blk cs 114) (hc : ∀ j, j < len → cs[j]? = some (ptrV (f j))) :
    Calls Tryz.prog 128 #[.slice (some ⟨blk, 0, none⟩) len cap, .func (.func 83) #[] #[]] w fun e w' => e = .returned (.tuple #[]) ∧
      ∃ ys : List Nat, ys.Perm (upto f len) ∧ ys.Pairwise (fun a b => ltB om b a = false) ∧ (∀ j, j < len → w'.cell? ⟨blk, j, none⟩ = some (ptrV (ys.getD j 0))) ∧ Chg (fun x => x = blk) w w' := by
  let inh : Inhabited { x : Nat // Liv w om s x } := ⟨⟨f 0, hl 0 h0⟩⟩
  obtain ⟨d, hd, hdf⟩ : ∃ d : Array { x : Nat // Liv w om s x }, d.size = len ∧ ∀ j, j < len → (d[j]!).1 = f j := by
    refine ⟨Array.ofFn (n := len) (fun j => ⟨f j, hl j j.2⟩), by simp, fun j hj => ?_⟩
    rw [getElem!_pos _ j (by simpa using hj)]
    simp
  have hH : Holds encL w blk 0 d := by
    intro j hj
    rw [hd] at hj
    rw [Nat.zero_add]
    refine ⟨(hb.cell j).trans ((hc j hj).trans ?_), hb.frozen j⟩
    unfold encL
    rw [hdf j hj]
  have eg : ∀ args w, (callFunc 83 args).run Tryz.prog w = .ok (.enter 83 args) w := enters_of Tryz.func83 (by kernel_rfl) rfl
  have hcon := Any.slices_SortFunc sortO (@encL w om s) (fun _ => rfl) cfL (swo_L w om s) 83 #[] blk 0 cap d w eg (cmp_L hb) hH hb.lt (by omega)
  change Calls Tryz.prog 128 _ _ _ at hcon
  rw [hd] at hcon
  refine hcon.mono ?_
  rintro e w' ⟨rfl, d', n, os, hp, hs, rfl⟩
  obtain ⟨ys, h1, h2, h3⟩ := sorted_L (n := n) (os := os) hb hd hdf hH (by rw [hd]; exact hp) (by rw [hd]; exact hs)
  exact ⟨rfl, ys, h1, h2, h3, chg_sortWorld _ _ _ _ _ _ _⟩

/-- v is a new slice of pointers to ys -/
def SliceL (n₀ : Nat) (w : World) (v : Value) (ys : List Nat) : Prop :=
  (v = .slice none 0 0 ∧ ys = []) ∨ ∃ b cap, v = .slice (some ⟨b, 0, none⟩) ys.length cap ∧ n₀ ≤ b ∧ ys.length ≤ cap ∧ ∀ j, j < ys.length → w.cell? ⟨b, j, none⟩ = some (ptrV (ys.getD j 0))

def SortedPost (len : Nat) (f : Nat → Nat) (om : Nat → Ord) (w : World) (v : Value) (w' : World) : Prop :=
  ∃ ys : List Nat, ys.Perm (upto f len) ∧ ys.Pairwise (fun a b => ltB om b a = false) ∧ SliceL w.heap.size w' v ys ∧ Below w.heap.size w w'

theorem sortV (len : Nat) (f : Nat → Nat) (om : Nat → Ord) (s : Int) (w W : World) (v : Value) (hlen : len ≤ 100000) (hl : ∀ j, j < len → Liv w om s (f j)) (hr : W.ownsRow w.heap.size 114 1 v len ((upto f len).map ptrV)) (hn : v = .slice none 0 0 ↔ upto f len = []) (hB : Below w.heap.size w W) :
    Calls Tryz.prog 128 #[v, .func (.func 83) #[] #[]] W fun e w' => e = .returned (.tuple #[]) ∧ SortedPost len f om w v w' := by
  obtain ⟨hr1, ⟨rfl, rfl⟩ | ⟨g, cap, cur, rfl, hg, hb, hcap, hcm, hsz, htk⟩⟩ := hr
  · refine (sortFunc_0 _ W).mono ?_
    rintro e w' ⟨rfl, rfl⟩
    exact ⟨rfl, [], by simp [upto], List.Pairwise.nil, .inl ⟨rfl, rfl⟩, hB⟩
  · have h0 : 0 < len := by
      rcases Nat.eq_zero_or_pos len with h | h
      · subst h
        have := hn.2 (by simp [upto])
        cases this
      · exact h
    have hl' : ∀ j, j < len → Liv W om s (f j) := fun j hj => by
      obtain ⟨⟨ix, ho⟩, hs⟩ := hl j hj
      exact ⟨⟨ix, (hB.block (f j) ho.lt).trans ho⟩, hs⟩
    have hc : ∀ j, j < len → cur[j]? = some (ptrV (f j)) := fun j hj => by
      have h1 : (cur.toList.take (len * 1))[j]? = ((upto f len).map ptrV)[j]? := by rw [htk]
      rw [List.getElem?_take, if_pos (by omega)] at h1
      rw [← Array.getElem?_toList, h1]
      simp [upto, hj]
    refine (sortFunc_any g cap len f om s W h0 hlen hl' cur hb hc).mono ?_
    rintro e w' ⟨rfl, ys, h1, h2, h3, h4⟩
    have hy : ys.length = len := by rw [h1.length_eq, upto_length]
    refine ⟨rfl, ys, h1, h2, .inr ⟨g, cap, by rw [hy], hg, by omega, fun j hj => h3 j (by omega)⟩, ?_⟩
    exact hB.trans (h4.belowOf hB.size (fun k e => by omega))

set_option maxHeartbeats 1000000 in
theorem sortedFunc_any (Bs : Nat) (a : Option Addr) (len cap : Nat) (f : Nat → Nat) (om : Nat → Ord) (s : Int) (hlen : len ≤ 100000) (w : World) (hBs : Bs < w.heap.size)
    (hcB : w.cell? ⟨Bs, 0, none⟩ = some (.slice a len cap)) (hI : Ptrs w.heap.size w a len cap f) (hl : ∀ j, j < len → Liv w om s (f j)) :
    Calls Tryz.prog 81 #[.func (.func 129) #[] #[.pointer (some ⟨Bs, 0, none⟩)], .func (.func 83) #[] #[]] w fun e w' => ∃ v, e = .returned v ∧ SortedPost len f om w v w' := by
  have hcol := collect_any Bs a len cap f hlen w hBs hcB hI
  have hsort := fun (W : World) (v : Value) hr hn hB => sortV len f om s w W v hlen hl hr hn hB
  clear hcB hI hl
  go_enter Tryz.func81, Tryz.ntmps81
  go_wp2_with (first | (go_at_call 127; refine hcol.mono ?_; clear hcol; rintro e w1 ⟨v, rfl, hr, hn, hB⟩; have hs := hsort w1 v hr hn hB; clear hsort hr hn hB) | (go_at_call 128; refine hs.mono ?_; clear hs; rintro e w2 ⟨rfl, hp⟩))
  go_ret
  exact ⟨v, rfl, hp⟩

#print axioms sortedFunc_any
end Go.Proofs.YtigaphnafnpfnaaGreatDoor

/- Levels -/
set_option linter.unusedVariables false
set_option linter.unusedSimpArgs false
namespace Go.Proofs.YtigaphnafnpfnaaGreatDoor
open Go.RowKit Go.Sort
attribute [local go_sem ↓] Go.wp_at_zero Go.wp_at_succ

structure Lvl where
  price : Int
  qty : Int
  num : Int

def Lvl.cells (l : Lvl) : List Value := [.int .i64 l.price, .int .i64 l.qty, .int .i64 l.num]
def flat (ls : List Lvl) : List Value := ls.flatMap Lvl.cells

theorem flat_length (ls : List Lvl) : (flat ls).length = 3 * ls.length := by
  induction ls with
  | nil => rfl
  | cons l ls ih => simp only [flat, List.flatMap_cons, List.length_append, List.length_cons] at *; simp only [Lvl.cells, List.length_cons, List.length_nil]; omega

theorem lvf_at (ls : List Lvl) (k c : Nat) (hk : k < ls.length) (hc : c < 3) : (flat ls)[3 * k + c]? = (ls[k].cells)[c]? := by
  induction ls generalizing k with
  | nil => exact absurd hk (by simp)
  | cons l ls ih =>
    have hl : (Lvl.cells l).length = 3 := rfl
    cases k with
    | zero =>
      simp only [flat, List.flatMap_cons]
      rw [List.getElem?_append_left (by omega)]
      simp
    | succ k =>
      have := ih k (by simpa using hk)
      simp only [flat, List.flatMap_cons] at *
      rw [List.getElem?_append_right (by omega), hl, show 3 * (k + 1) + c - 3 = 3 * k + c from by omega, this]
      simp

/-- one more order comes to the levels -/
def lvStep (ls : List Lvl) (o : Ord) : List Lvl :=
  match ls.getLast? with
  | some l => if l.price = o.price then ls.dropLast ++ [⟨l.price, wrap64 (l.qty + o.opn), wrap64 (l.num + 1)⟩] else ls ++ [⟨o.price, wrap64 o.opn, 1⟩]
  | none => [⟨o.price, wrap64 o.opn, 1⟩]

def levelsOf (os : List Ord) : List Lvl := os.foldl lvStep []

/-- v is a new slice of levels -/
def LevV (n₀ : Nat) (W : World) (v : Value) (ls : List Lvl) : Prop :=
  (v = .slice none 0 0 ∧ ls = []) ∨ ∃ g cap cs, v = .slice (some ⟨g, 0, none⟩) ls.length cap ∧ n₀ ≤ g ∧ Blk W g cs 93 ∧ ls.length ≤ cap ∧ cap ≤ maxLen ∧ cs.size = cap * 3 ∧ cs.toList.take (ls.length * 3) = flat ls ∧ 0 < ls.length

theorem LevV.owns {n₀ : Nat} {W : World} {v : Value} {ls : List Lvl} (h : LevV n₀ W v ls) : W.ownsRow n₀ 93 3 v ls.length (flat ls) := by
  refine ⟨by rw [flat_length]; omega, ?_⟩
  rcases h with ⟨rfl, rfl⟩ | ⟨g, cap, cs, rfl, h1, h2, h3, h4, h5, h6⟩
  · exact .inl ⟨rfl, rfl⟩
  · exact .inr ⟨g, cap, cs, rfl, h1, h2, h3, h4, h5, h6.1⟩

theorem info68 : (Tryz.prog.info? 93).map (fun i => (i.zero, i.size, i.bytes)) = some (some (.agg #[.int .i64 0, .int .i64 0, .int .i64 0]), 3, 24) := by kernel_rfl

/-- the orders that the slice points to -/
def ordsOf (om : Nat → Ord) (ys : List Nat) : List Ord := ys.map om

def LevPost (om : Nat → Ord) (ys : List Nat) (n₀ : Nat) (w : World) (v : Value) (w' : World) : Prop := LevV n₀ w' v (levelsOf (ordsOf om ys)) ∧ Below n₀ w w'

/-- the world in a round: the sorted slice, the orders -/
structure LW (om : Nat → Ord) (ys : List Nat) (n₀ b : Nat) (W : World) : Prop where
  ptr : ∀ j, j < ys.length → W.cell? ⟨b, j, none⟩ = some (ptrV (ys.getD j 0))
  ord : ∀ x, x ∈ ys → ∃ ix, IsOrd W x (om x) ix

#print axioms lvf_at
end Go.Proofs.YtigaphnafnpfnaaGreatDoor

/- Levels: the walk -/
set_option linter.unusedVariables false
set_option linter.unusedSimpArgs false
namespace Go.Proofs.YtigaphnafnpfnaaGreatDoor
open Go.RowKit Go.Sort
attribute [local go_sem ↓] Go.wp_at_zero Go.wp_at_succ

/-- the sorted orders of a side -/
def SortYs (om : Nat → Ord) (n : Nat) (h : Nat → Nat) (ys : List Nat) : Prop := ys.Perm (upto h n) ∧ ys.Pairwise (fun a b => ltB om b a = false)

def LevelsPost (om : Nat → Ord) (n : Nat) (h : Nat → Nat) (w : World) (v : Value) (w' : World) : Prop :=
  ∃ ys : List Nat, SortYs om n h ys ∧ LevV w.heap.size w' v (levelsOf (ordsOf om ys)) ∧ Below w.heap.size w w'

theorem SideV.ptrs {w : World} {a : Option Addr} {n cap : Nat} {h : Nat → Nat} {om : Nat → Ord} (hs : SideV w a n cap h om) : Ptrs w.heap.size w a n cap h ∧ (∀ j, j < n → ∃ ix, IsOrd w (h j) (om (h j)) ix) ∧ n ≤ 1000 := by
  rcases hs with ⟨rfl, rfl, rfl⟩ | ⟨ab, rfl, hs⟩
  · exact ⟨.inl ⟨rfl, rfl, rfl⟩, fun j hj => absurd hj (Nat.not_lt_zero j), by omega⟩
  · obtain ⟨cs, hb, _, hc⟩ := hs.arr
    exact ⟨.inr ⟨ab, rfl, hb.lt, fun j hj => (hb.cell j).trans (hc j hj)⟩, fun j hj => ⟨_, hs.ord j hj⟩, hs.small⟩

def SliceF (n₀ : Nat) (w : World) (a : Option Addr) (ys : List Nat) : Prop :=
  (a = none ∧ ys = []) ∨ ∃ b, a = some ⟨b, 0, none⟩ ∧ n₀ ≤ b ∧ ∀ j, j < ys.length → w.cell? ⟨b, j, none⟩ = some (ptrV (ys.getD j 0))

theorem SliceL.form {n₀ : Nat} {w : World} {v : Value} {ys : List Nat} (h : SliceL n₀ w v ys) : ∃ a c, v = .slice a ys.length c ∧ SliceF n₀ w a ys := by
  rcases h with ⟨rfl, rfl⟩ | ⟨b, cap, rfl, h1, h2, h3⟩
  · exact ⟨none, 0, rfl, .inl ⟨rfl, rfl⟩⟩
  · exact ⟨_, cap, rfl, .inr ⟨b, rfl, h1, h3⟩⟩

theorem LevV.base {n₀ n₁ : Nat} {W : World} {v : Value} {ls : List Lvl} (h : LevV n₀ W v ls) (hn : n₁ ≤ n₀) : LevV n₁ W v ls := by
  rcases h with h | ⟨g, cap, cs, e, h1, h2⟩
  · exact .inl h
  · exact .inr ⟨g, cap, cs, e, by omega, h2⟩

theorem levels_take (om : Nat → Ord) (ys : List Nat) (i : Nat) (hi : i < ys.length) : levelsOf (ordsOf om (ys.take (i + 1))) = lvStep (levelsOf (ordsOf om (ys.take i))) (om (ys.getD i 0)) := by
  unfold levelsOf ordsOf
  rw [List.take_succ_eq_append_getElem hi, List.map_append, List.foldl_append]
  simp [List.getD_eq_getElem?_getD, hi]

theorem lvStep_length (ls : List Lvl) (o : Ord) : (lvStep ls o).length ≤ ls.length + 1 := by
  unfold lvStep
  split
  · split <;> simp <;> omega
  · simp

theorem levels_length (os : List Ord) (ls : List Lvl) : (os.foldl lvStep ls).length ≤ ls.length + os.length := by
  induction os generalizing ls with
  | nil => simp
  | cons o os ih =>
    have h1 := ih (lvStep ls o)
    have h2 := lvStep_length ls o
    simp only [List.foldl_cons, List.length_cons]
    omega

theorem flat_cells {W : World} {g k : Nat} {cs : Array Value} {ini : List Lvl} {l : Lvl} (hb : Blk W g cs 93) (hk : ini.length = k) (h6 : cs.toList.take ((k + 1) * 3) = flat (ini ++ [l])) (c : Nat) (hc : c < 3) :
    W.cell? ⟨g, k * 3 + c, none⟩ = (l.cells)[c]? := by
  rw [hb.cell]
  have h := lvf_at (ini ++ [l]) k c (by simp; omega) hc
  rw [← h6, List.getElem?_take, if_pos (by omega), Array.getElem?_toList] at h
  rw [show k * 3 + c = 3 * k + c from by omega, h]
  simp [← hk]

theorem lvf_snoc (ini : List Lvl) (l : Lvl) : flat (ini ++ [l]) = flat ini ++ l.cells := by
  simp [flat, List.flatMap_append]

theorem lvf_set {cs : Array Value} {k : Nat} {ini : List Lvl} {l : Lvl} (hk : ini.length = k) (h6 : cs.toList.take ((k + 1) * 3) = flat (ini ++ [l])) (q n : Int) :
    ((cs.setIfInBounds (k * 3 + 1) (.int .i64 q)).setIfInBounds (k * 3 + 2) (.int .i64 n)).toList.take ((k + 1) * 3) = flat (ini ++ [⟨l.price, q, n⟩]) := by
  have hl : (flat ini).length = k * 3 := by rw [flat_length, hk]; omega
  rw [Array.toList_setIfInBounds, Array.toList_setIfInBounds, List.take_set, List.take_set, h6, lvf_snoc, lvf_snoc]
  rw [List.set_append_right _ _ (by omega), List.set_append_right _ _ (by omega), hl, show k * 3 + 1 - k * 3 = 1 from by omega, show k * 3 + 2 - k * 3 = 2 from by omega]
  rfl

theorem lvStep_same (ini : List Lvl) (l : Lvl) (o : Ord) (h : l.price = o.price) : lvStep (ini ++ [l]) o = ini ++ [⟨l.price, wrap64 (l.qty + o.opn), wrap64 (l.num + 1)⟩] := by
  unfold lvStep
  rw [List.getLast?_concat]
  simp [h]

theorem lvStep_other (ini : List Lvl) (l : Lvl) (o : Ord) (h : ¬ l.price = o.price) : lvStep (ini ++ [l]) o = (ini ++ [l]) ++ [⟨o.price, wrap64 o.opn, 1⟩] := by
  unfold lvStep
  rw [List.getLast?_concat]
  simp [h]

/-- two cells of the last level are written -/
theorem LevV.write {n₀ : Nat} {W : World} {g cap k : Nat} {cs : Array Value} {ini : List Lvl} {l : Lvl} (hk : ini.length = k) (h1 : n₀ ≤ g) (h2 : Blk W g cs 93) (h3 : k + 1 ≤ cap) (h4 : cap ≤ maxLen) (h5 : cs.size = cap * 3) (h6 : cs.toList.take ((k + 1) * 3) = flat (ini ++ [l])) (q n : Int) :
    LevV n₀ ((W.setCell ⟨g, k * 3 + 1, none⟩ (.int .i64 q)).setCell ⟨g, k * 3 + 2, none⟩ (.int .i64 n)) (.slice (some ⟨g, 0, none⟩) (k + 1) cap) (ini ++ [⟨l.price, q, n⟩]) := by
  have hl : (ini ++ [(⟨l.price, q, n⟩ : Lvl)]).length = k + 1 := by simp [hk]
  refine .inr ⟨g, cap, _, by rw [hl], h1, (h2.set _ _).set _ _, by rw [hl]; exact h3, h4, by simpa using h5, ?_, by rw [hl]; omega⟩
  rw [hl]
  exact lvf_set hk h6 q n

theorem LevV.drew {n₀ : Nat} {W : World} {v : Value} {ls : List Lvl} (h : LevV n₀ W v ls) : LevV n₀ W.drew v ls := by
  rcases h with h | ⟨g, cap, cs, e, h1, h2, h3⟩
  · exact .inl h
  · exact .inr ⟨g, cap, cs, e, h1, h2.drew, h3⟩

theorem own_pos {W : World} {base e size n : Nat} {v : Value} {xs : List Value} (h : W.ownsRow base e size v n xs) (h0 : 0 < n) : ∃ g cap, v = .slice (some ⟨g, 0, none⟩) n cap := by
  rcases h.2 with ⟨_, h0⟩ | ⟨g, cap, _, rfl, _⟩
  · omega
  · exact ⟨g, cap, rfl⟩

theorem news3 (w : World) (p : Int) : ∀ j u, ([Value.int .i64 p, .int .i64 0, .int .i64 0] : List Value)[j]? = some u → (w.alloc (.cells #[.int .i64 p, .int .i64 0, .int .i64 0] 93)).cell? (Addr.add ⟨w.heap.size, 0, none⟩ j) = some u := by
  intro j u hj
  have hb := Blk.new w #[.int .i64 p, .int .i64 0, .int .i64 0] 93
  match j, hj with
  | 0, hj => rw [← hj]; exact hb.cell 0
  | 1, hj => rw [← hj]; exact hb.cell 1
  | 2, hj => rw [← hj]; exact hb.cell 2
  | j + 3, hj => simp at hj

set_option maxRecDepth 100000 in
set_option maxHeartbeats 4000000 in
theorem levels_any (bb s : Nat) (B : Bk) (om : Nat → Ord) (w : World) (hb : IsBook w bb B om) (hs : s < 2) (hside : ∀ j, j < B.n s → (om (B.h s j)).side = (s : Int)) :
    Calls Tryz.prog 48 #[.pointer (some ⟨bb, 0, none⟩), .int .i64 s] w fun e w' => ∃ v, e = .returned v ∧ LevelsPost om (B.n s) (B.h s) w v w' := by
  obtain ⟨hP, hO, hn⟩ := (hb.side s hs).ptrs
  have hlt := hb.blk.lt
  have hcs := hb.cellSide hs
  clear hb
  have HS := hide (show ∀ w1, w1 = w.alloc (.cells #[.slice (B.sl s) (B.n s) (B.cap s)] 155) → Calls Tryz.prog 81 #[.func (.func 129) #[] #[.pointer (some ⟨w.heap.size, 0, none⟩)], .func (.func 83) #[] #[]] w1 fun e w' => ∃ v, e = .returned v ∧ SortedPost (B.n s) (B.h s) om w1 v w' from by
    rintro w1 rfl
    have hB : Below w.heap.size w (w.alloc (.cells #[.slice (B.sl s) (B.n s) (B.cap s)] 155)) := (Below.refl _ w).alloc (Nat.le_refl _) _
    refine sortedFunc_any w.heap.size (B.sl s) (B.n s) (B.cap s) (B.h s) om s (by omega) _ (by simp) ((Blk.new _ _ _).cell 0) ?_ ?_
    · rcases hP with h | ⟨b, h1, h2, h3⟩
      · exact .inl h
      · exact .inr ⟨b, h1, by simp; omega, fun j hj => (hB.cell (p := ⟨b, j, none⟩) h2).trans (h3 j hj)⟩
    · intro j hj
      obtain ⟨ix, ho⟩ := hO j hj
      exact ⟨⟨ix, Blk.alloc ho _⟩, hside j hj⟩)
  clear hP
  generalize B.sl s = sl at *
  generalize B.cap s = cap at *
  generalize hnn : B.n s = n at *
  generalize hhh : B.h s = h at *
  clear hnn hhh
  have hs0 : (0 : Int) ≤ s := by omega
  have hs2 : (s : Int) < 2 := by omega
  go_enter Tryz.func48, Tryz.ntmps48
  go_wp2_with (first | (go_at_call 82; refine (values_any _ _ _ _).mono ?_; rintro e w1 ⟨rfl, rfl⟩) | (go_at_call 81; refine (unhide HS _ rfl).mono ?_; clear HS; rintro e w2 ⟨v, rfl, ys, hp1, hp2, hp3, hp4⟩; obtain ⟨va, vc, rfl, hp5⟩ := hp3.form))
  have HB : Hid (Below w.heap.size w w2) := ((Below.refl _ w).alloc (Nat.le_refl _) _).trans (hp4.mono (by simp))
  have HY : Hid (SortYs om n h ys) := ⟨hp1, hp2⟩
  have HO : Hid (∀ x, x ∈ ys → ∃ ix, IsOrd w2 x (om x) ix) := by
    intro x hx
    have := hp1.mem_iff.1 hx
    simp only [upto, List.mem_map, List.mem_range] at this
    obtain ⟨j, hj, rfl⟩ := this
    obtain ⟨ix, ho⟩ := hO j hj
    exact ⟨ix, (HB.out.block (h j) ho.lt).trans ho⟩
  have hyn : ys.length ≤ 1000 := by rw [hp1.length_eq, upto_length]; exact hn
  have HP := hide hp5
  clear hp1 hp2 hp3 hp4 hp5 hO hside hcs
  go_loopg [6, 8, 9, 20] ys.length (fun k lv _ _ iv wr => ∃ i : Nat, iv = .int .i64 (i : Int) ∧ i ≤ ys.length ∧ k = ys.length - i ∧ LevV (w2.heap.size) wr lv (levelsOf (ordsOf om (ys.take i))) ∧ Below w2.heap.size w2 wr)
  case atStart => exact ⟨0, rfl, Nat.zero_le _, rfl, .inl ⟨rfl, by simp [ordsOf, levelsOf]⟩, Below.refl _ _⟩
  case round =>
    obtain ⟨i, rfl, hi, hgk, hlv, hbw⟩ := hrel
    by_cases hlt : i < ys.length
    · have hx : ys.getD i 0 ∈ ys := by rw [List.getD_eq_getElem?_getD, List.getElem?_eq_getElem hlt]; exact List.getElem_mem hlt
      obtain ⟨b, rfl, hb1, hb3⟩ : ∃ b, va = some ⟨b, 0, none⟩ ∧ b < w2.heap.size ∧ w2.cell? ⟨b, i, none⟩ = some (ptrV (ys.getD i 0)) := by
        rcases unhide HP with ⟨_, rfl⟩ | ⟨b, e, _, hc⟩
        · exact absurd hlt (by simp)
        · exact ⟨b, e, World.block_lt_of_cell? w2 ⟨b, i, none⟩ (hc i hlt), hc i hlt⟩
      have hptr : wr.cell? ⟨b, i, none⟩ = some (.pointer (some ⟨ys.getD i 0, 0, none⟩)) := (hbw.cell (p := ⟨b, i, none⟩) hb1).trans hb3
      obtain ⟨ix, ho2⟩ := unhide HO _ hx
      have hxl : ys.getD i 0 < w2.heap.size := ho2.lt
      have ho : IsOrd wr (ys.getD i 0) (om (ys.getD i 0)) ix := (hbw.block _ hxl).trans ho2
      have HT := hide (levels_take om ys i hlt)
      generalize ys.getD i 0 = x at *
      generalize hls : levelsOf (ordsOf om (ys.take i)) = ls at *
      have o5 := ho.cell 5
      have o8 := ho.cell 8
      simp only [Ord.cells] at o5 o8
      simp at o5 o8
      clear hb3 ho2 hx
      have HI := hide ho
      clear ho
      have hll : ls.length ≤ 1000 := by
        have := levels_length (ordsOf om (ys.take i)) []
        rw [show (ordsOf om (ys.take i)).foldl lvStep [] = ls from hls] at this
        simp [ordsOf] at this
        omega
      clear hls
      rcases List.eq_nil_or_concat ls with rfl | ⟨ini, l, rfl⟩
      · obtain rfl : u6 = .slice none 0 0 := by
          rcases hlv with ⟨h, _⟩ | ⟨g, capL, cs, e, h1, h2, h3, h4, h5, h6, h7⟩
          · exact h
          · simp at h7
        clear hlv hll
        go_wp2
        go_quiet (fail)
        have hmx : 0 + 1 ≤ maxLen := by unfold maxLen; omega
        have hbs : w2.heap.size ≤ wr.heap.size := hbw.size
        obtain ⟨w3, hw3⟩ : ∃ w3, w3 = wr.drewN nq := ⟨_, rfl⟩
        rw [← hw3]
        have o53 : w3.cell? ⟨x, 5, none⟩ = some (.int .i64 (om x).price) := by rw [hw3]; exact o5
        have hbs3 : w2.heap.size ≤ w3.heap.size := by rw [hw3]; exact hbs
        have HI3 : Hid (IsOrd w3 x (om x) ix) := by rw [hw3]; exact (unhide HI).drewN _
        have HB3 : Hid (Below w2.heap.size w2 w3) := by rw [hw3]; exact ⟨hbw.os, hbw.tape, hbw.output, hbw.size, hbw.block⟩
        clear hw3 hbs o5 o8 hptr
        obtain ⟨i0, hi0, hz0, hz1, hz2⟩ := info_parts info68
        go_wp2_with (at_builtin; refine wpList_append_own _ rfl _ _ 63 rfl w2.heap.size 93 i0 (.agg #[.int .i64 0, .int .i64 0, .int .i64 0]) 3 24 Tryz.underlying63 hi0 hz0 hz1 hz2 rfl (by decide) _ 0 [] rfl (World.ownsRow_nil _ _ _ _) ⟨w3.heap.size, 0, none⟩ 1 1 [.int .i64 (om x).price, .int .i64 0, .int .i64 0] rfl rfl (news3 _ _) (by simp [Value.oneCell']) hmx (by omega) (by simp; omega) ?_; intro v' w4 hown' hgrow hnil; clear hnil; obtain ⟨g', cap', rfl⟩ := own_pos hown' (by omega))
        change (w3.alloc _).grownBy w4 none at hgrow
        have ho4 : IsOrd w4 x (om x) ix := (hgrow.block x (by simp; omega) (by simp)).trans (Blk.alloc (unhide HI3) _)
        have HB4 : Hid (Below w2.heap.size w2 w4) := ((unhide HB3).alloc hbs3 _).grown hgrow (by simp; omega) (fun k e => by cases e)
        have o84 := ho4.cell 8
        simp only [Ord.cells] at o84
        simp at o84
        obtain ⟨cs2, hh1, hh2, hh3, hh4, hh5, hh6⟩ : ∃ cs2, w2.heap.size ≤ g' ∧ Blk w4 g' cs2 93 ∧ 0 + 1 ≤ cap' ∧ cap' ≤ maxLen ∧ cs2.size = cap' * 3 ∧ cs2.toList.take ((0 + 1) * 3) = flat ([] ++ [⟨(om x).price, 0, 0⟩]) := by
          rcases hown'.2 with ⟨h, _⟩ | ⟨g2, cap2, cs2, e2, h1, h2, h3, h4, h5, h6⟩
          · cases h
          · cases e2
            exact ⟨cs2, h1, h2, h3, h4, h5, h6⟩
        have c1 := flat_cells (k := 0) (ini := []) (l := ⟨(om x).price, 0, 0⟩) hh2 rfl hh6 1 (by omega)
        have c2 := flat_cells (k := 0) (ini := []) (l := ⟨(om x).price, 0, 0⟩) hh2 rfl hh6 2 (by omega)
        simp only [Lvl.cells] at c1 c2
        simp at c1 c2
        have f1 := hh2.frozen 1
        have f2 := hh2.frozen 2
        have hgx' : x ≠ g' := by omega
        have G2' := hide hh2
        have G6' := hide hh6
        have HH5 := hide hh5
        clear hown' hgrow ho4 hh2 hh6 HI3 hi0 hz0 hz1 hz2 o53 hh5 hmx
        go_region
        go_wp2
        go_roundg (ys.length - (i + 1))
        case measure => omega
        case rel =>
          refine ⟨i + 1, by push_cast; rfl, by omega, rfl, ?_, ?_⟩
          · rw [unhide HT]
            exact (LevV.write (k := 0) (ini := []) rfl hh1 (unhide G2') hh3 hh4 (unhide HH5) (unhide G6') (wrap64 (om x).opn) 1).drew
          · have h8 := ((unhide HB4).setCell (p := ⟨g', 1, none⟩) hh1 (.int .i64 (wrap64 (om x).opn))).setCell (p := ⟨g', 2, none⟩) hh1 (.int .i64 1)
            exact ⟨h8.os, h8.tape, h8.output, h8.size, h8.block⟩
      · obtain ⟨g, capL, cs, rfl, hg1, hg2, hg3, hg4, hg5, hg6⟩ : ∃ g capL cs, u6 = .slice (some ⟨g, 0, none⟩) (ini.length + 1) capL ∧ w2.heap.size ≤ g ∧ Blk wr g cs 93 ∧ ini.length + 1 ≤ capL ∧ capL ≤ maxLen ∧ cs.size = capL * 3 ∧ cs.toList.take ((ini.length + 1) * 3) = flat (ini ++ [l]) := by
          rw [List.concat_eq_append] at hlv
          rcases hlv with ⟨_, h⟩ | ⟨g, capL, cs, e, h1, h2, h3, h4, h5, h6, _⟩
          · simp at h
          · simp only [List.length_append, List.length_cons, List.length_nil] at e h3 h6
            exact ⟨g, capL, cs, e, h1, h2, h3, h4, h5, h6⟩
        rw [List.concat_eq_append] at HT hll
        simp only [List.length_append, List.length_cons, List.length_nil] at hll
        obtain ⟨k, hk⟩ : ∃ k, ini.length = k := ⟨_, rfl⟩
        obtain ⟨m, hm⟩ : ∃ m, ini.length + 1 = m := ⟨_, rfl⟩
        have hkm : k < m := by omega
        have hm1 : m ≤ 1000 := by omega
        rw [hm] at hg3 hg6 ⊢
        rw [← hm, hk] at hg6
        have c0 := flat_cells hg2 hk hg6 0 (by omega)
        have c1 := flat_cells hg2 hk hg6 1 (by omega)
        have c2 := flat_cells hg2 hk hg6 2 (by omega)
        simp only [Lvl.cells, Nat.add_zero] at c0 c1 c2
        simp at c0 c1 c2
        have hw : (m : Int) - 1 = k := by omega
        have hk0 : decide ((k : Int) < 0) = false := by simp
        have f1 := hg2.frozen (k * 3 + 1)
        have f2 := hg2.frozen (k * 3 + 2)
        have hgx : x ≠ g := by omega
        have hrow : wr.ownsRow w2.heap.size 93 3 (.slice (some ⟨g, 0, none⟩) m capL) m (flat (ini ++ [l])) := ⟨by rw [flat_length]; simp; omega, .inr ⟨g, capL, cs, rfl, hg1, hg2, hg3, hg4, hg5, by rw [← hg6]; congr 1; omega⟩⟩
        have G2 := hide hg2
        have G5 := hide hg5
        have G6 := hide hg6
        clear hg2 hg5 hg6 hlv
        by_cases hpr : l.price = (om x).price
        · clear hrow
          go_wp2
          have hne : (l.price != (om x).price) = false := by simp [hpr]
          have HPR := hide hpr
          clear hpr
          go_quiet (fail)
          go_wp2
          go_region
          go_wp2
          go_roundg (ys.length - (i + 1))
          case measure => omega
          case rel =>
            have hkk : k + 1 = m := by omega
            refine ⟨i + 1, by push_cast; rfl, by omega, rfl, ?_, ?_⟩
            · rw [unhide HT, lvStep_same ini l _ (unhide HPR), ← hkk]
              exact LevV.write hk hg1 ((unhide G2).drewN _) (by omega) hg4 (unhide G5) (unhide G6) _ _
            · have h9 : Below w2.heap.size w2 (wr.drewN (nq + 1)) := ⟨hbw.os, hbw.tape, hbw.output, hbw.size, hbw.block⟩
              exact (h9.setCell (p := ⟨g, k * 3 + 1, none⟩) hg1 _).setCell (p := ⟨g, k * 3 + 2, none⟩) hg1 _
        · have hne : (l.price != (om x).price) = true := by simp [hpr]
          have HPR := hide hpr
          have HR := hide hrow
          clear hpr hrow
          go_wp2
          go_quiet (fail)
          have hm24 : (m + 1) * 24 ≤ 140737488355328 := by omega
          have hmx : m + 1 ≤ maxLen := by unfold maxLen; omega
          have hbs : w2.heap.size ≤ wr.heap.size := hbw.size
          obtain ⟨w3, hw3⟩ : ∃ w3, w3 = wr.drewN nq := ⟨_, rfl⟩
          rw [← hw3]
          have o53 : w3.cell? ⟨x, 5, none⟩ = some (.int .i64 (om x).price) := by rw [hw3]; exact o5
          have o83 : w3.cell? ⟨x, 8, none⟩ = some (.int .i64 (om x).opn) := by rw [hw3]; exact o8
          have HR3 : Hid (w3.ownsRow w2.heap.size 93 3 (.slice (some ⟨g, 0, none⟩) m capL) m (flat (ini ++ [l]))) := by rw [hw3]; exact unhide HR
          have hbs3 : w2.heap.size ≤ w3.heap.size := by rw [hw3]; exact hbs
          have HI3 : Hid (IsOrd w3 x (om x) ix) := by rw [hw3]; exact (unhide HI).drewN _
          have HB3 : Hid (Below w2.heap.size w2 w3) := by rw [hw3]; exact ⟨hbw.os, hbw.tape, hbw.output, hbw.size, hbw.block⟩
          clear hw3 hbs o5 o8 c0 c1 c2 f1 f2 hptr
          have hk1 : (k : Int) + 1 = m := by omega
          obtain ⟨i0, hi0, hz0, hz1, hz2⟩ := info_parts info68
          go_wp2_with (at_builtin; refine wpList_append_own _ rfl _ _ 63 rfl w2.heap.size 93 i0 (.agg #[.int .i64 0, .int .i64 0, .int .i64 0]) 3 24 Tryz.underlying63 hi0 hz0 hz1 hz2 rfl (by decide) _ m _ rfl ((unhide HR3).alloc _) ⟨w3.heap.size, 0, none⟩ 1 1 [.int .i64 (om x).price, .int .i64 0, .int .i64 0] rfl rfl (news3 _ _) (by simp [Value.oneCell']) hmx hm24 (by simp; omega) ?_; intro v' w4 hown' hgrow hnil; clear hnil; obtain ⟨m', hm'⟩ : ∃ m', m + 1 = m' := ⟨_, rfl⟩; rw [hm'] at hown'; obtain ⟨g', cap', rfl⟩ := own_pos hown' (by omega); have hmm : m < m' := by omega)
          change (w3.alloc _).grownBy w4 (some g) at hgrow
          have ho4 : IsOrd w4 x (om x) ix := (hgrow.block x (by simp; omega) (by simp; omega)).trans (Blk.alloc (unhide HI3) _)
          have HB4 : Hid (Below w2.heap.size w2 w4) := ((unhide HB3).alloc hbs3 _).grown hgrow (by simp; omega) (fun k e => by cases e; exact hg1)
          have o84 := ho4.cell 8
          simp only [Ord.cells] at o84
          simp at o84
          obtain ⟨cs2, hh1, hh2, hh3, hh4, hh5, hh6⟩ : ∃ cs2, w2.heap.size ≤ g' ∧ Blk w4 g' cs2 93 ∧ m' ≤ cap' ∧ cap' ≤ maxLen ∧ cs2.size = cap' * 3 ∧ cs2.toList.take ((m + 1) * 3) = flat ((ini ++ [l]) ++ [⟨(om x).price, 0, 0⟩]) := by
            rcases hown'.2 with ⟨h, _⟩ | ⟨g2, cap2, cs2, e2, h1, h2, h3, h4, h5, h6⟩
            · cases h
            · cases e2
              exact ⟨cs2, h1, h2, h3, h4, h5, by rw [lvf_snoc, hm']; exact h6⟩
          have hil : (ini ++ [l]).length = m := by simp; omega
          have c1 := flat_cells hh2 hil hh6 1 (by omega)
          have c2 := flat_cells hh2 hil hh6 2 (by omega)
          simp only [Lvl.cells] at c1 c2
          simp at c1 c2
          have f1 := hh2.frozen (m * 3 + 1)
          have f2 := hh2.frozen (m * 3 + 2)
          have hgx' : x ≠ g' := by omega
          have G2' := hide hh2
          have G6' := hide hh6
          have HM := hide hm'
          have HH5 := hide hh5
          have HM1 := hide hm
          clear hown' hgrow ho4 hh2 hh6 HI3 HR3 HR hi0 hz0 hz1 hz2 o53 o83 hne hk0 hk1 hw hm' hm hh5 hm24 hmx hk hil
          go_region
          go_wp2
          go_roundg (ys.length - (i + 1))
          case measure => omega
          case rel =>
            refine ⟨i + 1, by push_cast; rfl, by omega, rfl, ?_, ?_⟩
            · rw [unhide HT, lvStep_other ini l _ (unhide HPR), ← unhide HM]
              exact (LevV.write (by have := unhide HM1; simp; omega) hh1 (unhide G2') (by have := unhide HM; omega) hh4 (unhide HH5) (unhide G6') _ _).drew
            · have h8 := ((unhide HB4).setCell (p := ⟨g', m * 3 + 1, none⟩) hh1 (.int .i64 (wrap64 (om x).opn))).setCell (p := ⟨g', m * 3 + 2, none⟩) hh1 (.int .i64 1)
              exact ⟨h8.os, h8.tape, h8.output, h8.size, h8.block⟩
    · obtain rfl : i = ys.length := by omega
      go_wp2
      go_ret
      exact ⟨_, rfl, ys, unhide HY, (by rw [List.take_length] at hlv; exact hlv.base (unhide HB).size), (unhide HB).trans (hbw.mono (unhide HB).size)⟩

#print axioms levels_any
end Go.Proofs.YtigaphnafnpfnaaGreatDoor

