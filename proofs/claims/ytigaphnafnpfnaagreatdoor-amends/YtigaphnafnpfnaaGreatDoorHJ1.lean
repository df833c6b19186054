import Derived.Test.YtigaphnafnpfnaaGreatDoorRows
import Derived.Test.YtigaphnafnpfnaaGreatDoorHW
import Derived.Deep.QuietTactic
import Derived.BigQuiet
import Derived.BigRegion
import Derived.Deep.RegionWith
import Derived.Deep.LoopGhost
import Derived.Deep.RegionHeld3
import Derived.Deep.DrawnRows
import Derived.Shelf.LaysM
import Derived.Shelf.Strconv.Itoa3
import Derived.Lib.ItoaLen
import Derived.ProofKit
import Derived.LaidMore
import Derived.LaidSub
import Derived.OpenShut
import Derived.Stop.Joined
import Derived.Lib.LaidTab
set_option linter.unusedVariables false
set_option linter.unusedSimpArgs false
/- Lines of the journal: numbers in decimals, a word and numbers. -/
namespace Go.Proofs.YtigaphnafnpfnaaGreatDoor
open Go.RowKit
open Go.Shelf
attribute [local go_sem ↓] Go.wp_at_zero Go.wp_at_succ

def laysM171_ren : Go.Shelf.Ren := ⟨fun | 171 => 115 | 243 => 148 | 246 => 174 | 283 => 207 | 284 => 208 | 285 => 209 | 286 => 210 | 129 => 188 | 317 => 226 | 318 => 227 | 319 => 228 | 320 => 229 | 337 => 237 | 338 => 238 | n => n, fun | 3 => 3 | 9 => 9 | 2 => 2 | 4 => 4 | 171 => 268 | 0 => 0 | 53 => 253 | 37 => 98 | 5 => 5 | 173 => 270 | 212 => 287 | 51 => 251 | 20 => 20 | 213 => 288 | 46 => 223 | 232 => 301 | 233 => 302 | n => n, fun | 17 => 3 | 18 => 6 | 19 => 7 | n => n⟩
theorem laysM171 : Go.Proofs.LaysM.n171 Tryz.prog laysM171_ren :=
  { mixed := by kernel_rfl,
    f129 := Tryz.func188.trans (congrArg some (by kernel_rfl)),
    f171 := Tryz.func115.trans (congrArg some (by kernel_rfl)),
    f243 := Tryz.func148.trans (congrArg some (by kernel_rfl)),
    f246 := Tryz.func174.trans (congrArg some (by kernel_rfl)),
    f283 := Tryz.func207.trans (congrArg some (by kernel_rfl)),
    f284 := Tryz.func208.trans (congrArg some (by kernel_rfl)),
    f285 := Tryz.func209.trans (congrArg some (by kernel_rfl)),
    f286 := Tryz.func210.trans (congrArg some (by kernel_rfl)),
    f317 := Tryz.func226.trans (congrArg some (by kernel_rfl)),
    f318 := Tryz.func227.trans (congrArg some (by kernel_rfl)),
    f319 := Tryz.func228.trans (congrArg some (by kernel_rfl)),
    f320 := Tryz.func229.trans (congrArg some (by kernel_rfl)),
    f337 := Tryz.func237.trans (congrArg some (by kernel_rfl)),
    f338 := Tryz.func238.trans (congrArg some (by kernel_rfl)),
    t0 := Tryz.underlying0,
    a0 := Tryz.isAgg0,
    z0 := Tryz.sizeOf0,
    v0 := Tryz.zeroValue0,
    t2 := Tryz.underlying2,
    a2 := Tryz.isAgg2,
    z2 := Tryz.sizeOf2,
    v2 := Tryz.zeroValue2,
    t3 := Tryz.underlying3,
    a3 := Tryz.isAgg3,
    z3 := Tryz.sizeOf3,
    v3 := Tryz.zeroValue3,
    t4 := Tryz.underlying4,
    a4 := Tryz.isAgg4,
    z4 := Tryz.sizeOf4,
    v4 := Tryz.zeroValue4,
    t5 := Tryz.underlying5,
    a5 := Tryz.isAgg5,
    z5 := Tryz.sizeOf5,
    v5 := Tryz.zeroValue5,
    t9 := Tryz.underlying9,
    a9 := Tryz.isAgg9,
    z9 := Tryz.sizeOf9,
    v9 := Tryz.zeroValue9,
    t20 := Tryz.underlying20,
    a20 := Tryz.isAgg20,
    z20 := Tryz.sizeOf20,
    v20 := Tryz.zeroValue20,
    t37 := Tryz.underlying98,
    a37 := Tryz.isAgg98,
    z37 := Tryz.sizeOf98,
    v37 := Tryz.zeroValue98,
    t46 := Tryz.underlying223,
    a46 := Tryz.isAgg223,
    z46 := Tryz.sizeOf223,
    v46 := Tryz.zeroValue223,
    t51 := Tryz.underlying251,
    a51 := Tryz.isAgg251,
    z51 := Tryz.sizeOf251,
    v51 := Tryz.zeroValue251,
    t53 := Tryz.underlying253,
    a53 := Tryz.isAgg253,
    z53 := Tryz.sizeOf253,
    v53 := Tryz.zeroValue253,
    t171 := Tryz.underlying268,
    a171 := Tryz.isAgg268,
    z171 := Tryz.sizeOf268,
    v171 := Tryz.zeroValue268,
    t173 := Tryz.underlying270,
    a173 := Tryz.isAgg270,
    z173 := Tryz.sizeOf270,
    v173 := Tryz.zeroValue270,
    t212 := Tryz.underlying287,
    a212 := Tryz.isAgg287,
    z212 := Tryz.sizeOf287,
    v212 := Tryz.zeroValue287,
    t213 := Tryz.underlying288,
    a213 := Tryz.isAgg288,
    z213 := Tryz.sizeOf288,
    t232 := Tryz.underlying301,
    a232 := Tryz.isAgg301,
    z232 := Tryz.sizeOf301,
    v232 := Tryz.zeroValue301,
    t233 := Tryz.underlying302,
    a233 := Tryz.isAgg302,
    z233 := Tryz.sizeOf302,
    v233 := Tryz.zeroValue302,
    g17 := by kernel_rfl,
    g18 := by kernel_rfl,
    g19 := by kernel_rfl,
    i0 := by kernel_rfl,
    i2 := by kernel_rfl,
    i3 := by kernel_rfl,
    i4 := by kernel_rfl,
    i5 := by kernel_rfl,
    i9 := by kernel_rfl,
    i20 := by kernel_rfl,
    i37 := by kernel_rfl,
    i46 := by kernel_rfl,
    i51 := by kernel_rfl,
    i53 := by kernel_rfl,
    i171 := by kernel_rfl,
    i173 := by kernel_rfl,
    i212 := by kernel_rfl,
    i232 := by kernel_rfl,
    i233 := by kernel_rfl,
    m17 := by kernel_rfl,
    m18 := by kernel_rfl,
    m19 := by kernel_rfl }

/-- the table that strconv reads -/
def Tab (w : World) : Prop := Lib.TabIs Tryz.prog w "internal/strconv.uint64pow10" .u64 Lib.pow10Tab

/-- its block -/
def tabAt : Nat := 3

theorem tab_at : Tryz.prog.globalNamed "internal/strconv.uint64pow10" = some tabAt := by kernel_rfl

theorem Tab.kept {S : Nat → Prop} {w w' : World} (h : Tab w) (k : Chg S w w') (hS : ¬ S tabAt) : Tab w' := by
  unfold Tab Lib.TabIs World.var? at h ⊢
  rw [tab_at] at h ⊢
  simp only [Option.bind_some] at h ⊢
  have hlt : tabAt < w.heap.size := by
    rcases Nat.lt_or_ge tabAt w.heap.size with h' | h'
    · exact h'
    · rw [Array.getElem?_eq_none h'] at h; simp at h
  rw [k.block tabAt hlt hS]
  exact h

theorem Tab.lt {w : World} (h : Tab w) : tabAt < w.heap.size := by
  unfold Tab Lib.TabIs World.var? at h
  rw [tab_at] at h
  simp only [Option.bind_some] at h
  rcases Nat.lt_or_ge tabAt w.heap.size with h' | h'
  · exact h'
  · rw [Array.getElem?_eq_none h'] at h; simp at h

theorem Tab.kept0 {w w' : World} (h : Tab w) (k : Chg Non w w') : Tab w' := h.kept k (fun x => x)

theorem itoa_any (n : Int) (h0 : -9223372036854775808 ≤ n) (h1 : n ≤ 9223372036854775807) (w : World) (hT : Tab w) :
    Calls Tryz.prog 115 #[.int .i64 n] w fun e w' => e = .returned (.string ⟨(Lib.itoa n).toArray⟩) ∧ Chg Non w w' := by
  refine (Any.strconv_Itoa laysM171 n h0 h1 w hT).mono ?_
  rintro e w' ⟨rfl, k, os, rfl⟩
  refine ⟨rfl, rfl, rfl, rfl, ?_, ?_⟩
  · show w.heap.size ≤ (w.heap ++ os).size
    rw [Array.size_append]; omega
  · intro j hj _
    show (w.heap ++ os)[j]? = w.heap[j]?
    rw [Array.getElem?_append_left hj]

/-- a blank and a number -/
def numS (n : Int) : ByteArray := ⟨#[32]⟩ ++ ⟨(Lib.itoa n).toArray⟩

def lineF (f : Nat → Int) (word : ByteArray) : Nat → ByteArray
  | 0 => word
  | i + 1 => lineF f word i ++ numS (f i)

theorem numS_size (n : Int) (h0 : -9223372036854775808 ≤ n) (h1 : n ≤ 9223372036854775807) : (numS n).size ≤ 22 := by
  have := Lib.itoa_length_le n h0 h1
  have e : (numS n).size = 1 + (Lib.itoa n).length := by simp [numS, ByteArray.size_append]; rfl
  omega

theorem lineF_size (f : Nat → Int) (word : ByteArray) : ∀ k, (∀ i, i < k → -9223372036854775808 ≤ f i ∧ f i ≤ 9223372036854775807) → (lineF f word k).size ≤ word.size + 22 * k
  | 0, _ => by simp [lineF]
  | k + 1, h => by
    have h1 := lineF_size f word k (fun i hi => h i (by omega))
    have h2 := numS_size (f k) (h k (by omega)).1 (h k (by omega)).2
    simp only [lineF, ByteArray.size_append]
    omega

end Go.Proofs.YtigaphnafnpfnaaGreatDoor

set_option linter.unusedVariables false
set_option linter.unusedSimpArgs false
namespace Go.Proofs.YtigaphnafnpfnaaGreatDoor
open Go.RowKit
attribute [local go_sem ↓] Go.wp_at_zero Go.wp_at_succ

theorem itoa_str (n : Int) (h0 : -9223372036854775808 ≤ n) (h1 : n ≤ 9223372036854775807) (w : World) (hT : Tab w) :
    Calls Tryz.prog 115 #[.int .i64 n] w fun e w' => ∃ s : ByteArray, e = .returned (.string s) ∧ s.size ≤ 21 ∧ (⟨#[32]⟩ ++ s : ByteArray) = numS n ∧ Chg Non w w' := by
  refine (itoa_any n h0 h1 w hT).mono ?_
  rintro e w' ⟨rfl, k⟩
  refine ⟨_, rfl, ?_, rfl, k⟩
  have := Lib.itoa_length_le n h0 h1
  have e : (ByteArray.mk (Lib.itoa n).toArray).size = (Lib.itoa n).length := by show (Lib.itoa n).toArray.size = _; simp
  omega

theorem cat_run {P : Program} (a b : ByteArray) (h : a.size + b.size ≤ 1000000) (W : World) : (Op.stringOp .add a b).run P W = .ok (.string (a ++ b)) W := run_string_add_sum W _ _ (by omega)

set_option maxRecDepth 100000 in
set_option maxHeartbeats 1000000 in
theorem lineOf_any (word : ByteArray) (f : Nat → Int) (sb m cap : Nat) (w : World) (hT : Tab w) (hm : m ≤ 100) (hw : word.size ≤ 1000)
    (hc : ∀ i, i < m → w.cell? ⟨sb, i, none⟩ = some (.int .i64 (f i))) (hf : ∀ i, i < m → -9223372036854775808 ≤ f i ∧ f i ≤ 9223372036854775807) :
    Calls Tryz.prog 65 #[.string word, .slice (some ⟨sb, 0, none⟩) m cap] w fun e w' => e = .returned (.string (lineF f word m)) ∧ Chg Non w w' := by
  have HT := hide hT
  have HC := hide hc
  have HF := hide hf
  clear hT hc hf
  go_enter Tryz.func65, Tryz.ntmps65
  go_wp2
  go_loopg [0, 6, 9] m (fun k sv _ iv wr => ∃ i : Nat, iv = .int .i64 (i : Int) ∧ i ≤ m ∧ k = m - i ∧ sv = .string (lineF f word i) ∧ Chg Non w wr)
  case atStart => exact ⟨0, rfl, Nat.zero_le _, rfl, rfl, Chg.refl _ _⟩
  case round =>
    obtain ⟨i, rfl, hi, hgk, rfl, hc⟩ := hrel
    by_cases hin : i < m
    · have hcell : wr.cell? ⟨sb, i, none⟩ = some (.int .i64 (f i)) := hc.cell (unhide HC i hin) (fun x => x)
      have hb := unhide HF i hin
      have HTr := hide ((unhide HT).kept0 hc)
      have HK := hide hc
      clear hc
      have hls : (lineF f word i).size ≤ 10000 := by
        have := lineF_size f word i (fun j hj => unhide HF j (by omega))
        omega
      have HX : Hid (lineF f word (i + 1) = lineF f word i ++ numS (f i)) := rfl
      generalize hv : f i = v at *
      generalize hsw : lineF f word i = sw at *
      clear hv hsw
      go_wp2_with (go_at_call 115; refine (itoa_str v hb.1 hb.2 _ (unhide HTr)).mono ?_; rintro e w' ⟨s, rfl, hs1, hs2, hk⟩; have HK2 := hide hk; have HS2 := hide hs2; clear hk hs2; have c1 := cat_run (P := Tryz.prog) ⟨#[32]⟩ s (by show 1 + s.size ≤ 1000000; omega); have c2 := cat_run (P := Tryz.prog) sw (⟨#[32]⟩ ++ s) (by rw [ByteArray.size_append]; show sw.size + (1 + s.size) ≤ 1000000; omega))
      go_roundg (m - (i + 1))
      case measure => omega
      case rel => exact ⟨i + 1, by push_cast; rfl, by omega, rfl, by rw [unhide HX, unhide HS2], (unhide HK).trans (unhide HK2)⟩
    · obtain rfl : i = m := by omega
      go_wp2
      go_ret
      exact ⟨rfl, hc⟩

end Go.Proofs.YtigaphnafnpfnaaGreatDoor

set_option linter.unusedVariables false
set_option linter.unusedSimpArgs false
namespace Go.Proofs.YtigaphnafnpfnaaGreatDoor
open Go.RowKit
attribute [local go_sem ↓] Go.wp_at_zero Go.wp_at_succ

def two (a b : Int) (i : Nat) : Int := if i = 0 then a else b
def four (a b c d : Int) (i : Nat) : Int := if i = 0 then a else if i = 1 then b else if i = 2 then c else d

def wEnter : ByteArray := ⟨#[101, 110, 116, 101, 114]⟩
def wBust : ByteArray := ⟨#[98, 117, 115, 116]⟩

/-- the line of an order that is entered -/
def enterL (id owner : Int) (sym : ByteArray) (side kind price qty : Int) : ByteArray := (lineF (two id owner) wEnter 2 ++ ⟨#[32]⟩) ++ lineF (four side kind price qty) sym 4

def i64B (n : Int) : Prop := -9223372036854775808 ≤ n ∧ n ≤ 9223372036854775807

def Want (W : World) (w1 : ByteArray) (a b : Int) (s1 w2 : ByteArray) (c d e f : Int) (s2 : ByteArray) (word : ByteArray) (sb m : Nat) (s : ByteArray) : Prop :=
  (m = 2 ∧ word = w1 ∧ W.cell? ⟨sb, 0, none⟩ = some (.int .i64 a) ∧ W.cell? ⟨sb, 1, none⟩ = some (.int .i64 b) ∧ s = s1) ∨
  (m = 4 ∧ word = w2 ∧ W.cell? ⟨sb, 0, none⟩ = some (.int .i64 c) ∧ W.cell? ⟨sb, 1, none⟩ = some (.int .i64 d) ∧ W.cell? ⟨sb, 2, none⟩ = some (.int .i64 e) ∧ W.cell? ⟨sb, 3, none⟩ = some (.int .i64 f) ∧ s = s2)

theorem want_any (w1 w2 : ByteArray) (a b c d e f : Int) (h1 : w1.size ≤ 1000) (h2 : w2.size ≤ 1000) (ha : i64B a) (hb : i64B b) (hc : i64B c) (hd : i64B d) (he : i64B e) (hf : i64B f) (w0 : World) (hT : Tab w0) :
    ∀ W, Chg Non w0 W → ∀ word sb m cap s, Want W w1 a b (lineF (two a b) w1 2) w2 c d e f (lineF (four c d e f) w2 4) word sb m s →
      Calls Tryz.prog 65 #[.string word, .slice (some ⟨sb, 0, none⟩) m cap] W fun e w' => e = .returned (.string s) ∧ Chg Non w0 w' ∧ Chg Non W w' := by
  intro W k word sb m cap s hw
  have hTW := hT.kept0 k
  rcases hw with ⟨rfl, rfl, c0, c1, rfl⟩ | ⟨rfl, rfl, c0, c1, c2, c3, rfl⟩
  · refine (lineOf_any word (two a b) sb 2 cap W hTW (by omega) h1 ?_ ?_).mono ?_
    · intro i hi
      match i, hi with
      | 0, _ => exact c0
      | 1, _ => exact c1
    · intro i hi
      match i, hi with
      | 0, _ => exact ha
      | 1, _ => exact hb
    · rintro e w' ⟨rfl, k2⟩
      exact ⟨rfl, k.trans k2, k2⟩
  · refine (lineOf_any word (four c d e f) sb 4 cap W hTW (by omega) h2 ?_ ?_).mono ?_
    · intro i hi
      match i, hi with
      | 0, _ => exact c0
      | 1, _ => exact c1
      | 2, _ => exact c2
      | 3, _ => exact c3
    · intro i hi
      match i, hi with
      | 0, _ => exact hc
      | 1, _ => exact hd
      | 2, _ => exact he
      | 3, _ => exact hf
    · rintro e w' ⟨rfl, k2⟩
      exact ⟨rfl, k.trans k2, k2⟩

set_option maxRecDepth 100000 in
set_option maxHeartbeats 2000000 in
theorem lineOfEnter_any (id owner : Int) (sym : ByteArray) (side kind price qty : Int) (w : World) (hT : Tab w) (hs : sym.size ≤ 1000) (h1 : i64B id) (h2 : i64B owner) (h3 : i64B side) (h4 : i64B kind) (h5 : i64B price) (h6 : i64B qty) :
    Calls Tryz.prog 113 #[.agg #[.int .i64 id, .int .i64 owner, .string sym, .int .i64 side, .int .i64 kind, .int .i64 price, .int .i64 qty]] w fun e w' => e = .returned (.string (enterL id owner sym side kind price qty)) ∧ Chg Non w w' := by
  obtain ⟨w1, hw1⟩ : ∃ w1, w1 = w.alloc (.cells #[.int .i64 id, .int .i64 owner, .string sym, .int .i64 side, .int .i64 kind, .int .i64 price, .int .i64 qty] 52) := ⟨_, rfl⟩
  have k0 : Chg Non w w1 := by rw [hw1]; exact (Chg.refl Non w).alloc _
  have b0 : Blk w1 w.heap.size #[.int .i64 id, .int .i64 owner, .string sym, .int .i64 side, .int .i64 kind, .int .i64 price, .int .i64 qty] 52 := by rw [hw1]; exact Blk.new _ _ _
  have hT1 := hT.kept0 k0
  have HW := want_any wEnter sym id owner side kind price qty (by decide) hs h1 h2 h3 h4 h5 h6 w1 hT1
  have z1 := lineF_size (two id owner) wEnter 2 (fun i hi => by match i, hi with | 0, _ => exact h1 | 1, _ => exact h2)
  have z2 := lineF_size (four side kind price qty) sym 4 (fun i hi => by match i, hi with | 0, _ => exact h3 | 1, _ => exact h4 | 2, _ => exact h5 | 3, _ => exact h6)
  unfold enterL
  have zE : wEnter.size = 5 := by decide
  rw [zE] at z1
  generalize lineF (two id owner) wEnter 2 = s1 at *
  generalize lineF (four side kind price qty) sym 4 = s2 at *
  have c1 := cat_run (P := Tryz.prog) s1 ⟨#[32]⟩ (by show s1.size + 1 ≤ 1000000; omega)
  have c2 := cat_run (P := Tryz.prog) (s1 ++ ⟨#[32]⟩) s2 (by rw [ByteArray.size_append]; show (s1.size + 1) + s2.size ≤ 1000000; omega)
  obtain ⟨H, hH⟩ : ∃ H, w.heap.size = H := ⟨_, rfl⟩
  rw [hH] at b0
  have x0 : w1.cell? ⟨H, 0, none⟩ = some (.int .i64 id) := b0.cell 0
  have x1 : w1.cell? ⟨H, 1, none⟩ = some (.int .i64 owner) := b0.cell 1
  have x2 : w1.cell? ⟨H, 2, none⟩ = some (.string sym) := b0.cell 2
  have x3 : w1.cell? ⟨H, 3, none⟩ = some (.int .i64 side) := b0.cell 3
  have x4 : w1.cell? ⟨H, 4, none⟩ = some (.int .i64 kind) := b0.cell 4
  have x5 : w1.cell? ⟨H, 5, none⟩ = some (.int .i64 price) := b0.cell 5
  have x6 : w1.cell? ⟨H, 6, none⟩ = some (.int .i64 qty) := b0.cell 6
  have lH : H < w1.heap.size := b0.lt
  have HWW := hide HW
  have HK0 := hide k0
  have HW1 := hide hw1
  clear HW k0 hw1 hT1 hT b0 h1 h2 h3 h4 h5 h6 z1 z2 zE hs
  go_enter Tryz.func113, Tryz.ntmps113
  go_wp2
  rw [← unhide HW1]
  go_region_held3 (fun w' => w'.cell? ⟨H, 0, none⟩ = some (.int .i64 id) ∧ w'.cell? ⟨H, 1, none⟩ = some (.int .i64 owner) ∧ w'.cell? ⟨H, 2, none⟩ = some (.string sym) ∧ w'.cell? ⟨H, 3, none⟩ = some (.int .i64 side) ∧ w'.cell? ⟨H, 4, none⟩ = some (.int .i64 kind) ∧ w'.cell? ⟨H, 5, none⟩ = some (.int .i64 price) ∧ w'.cell? ⟨H, 6, none⟩ = some (.int .i64 qty)) (go_keep)
    (first
      | (go_at_call 65; refine (unhide HWW _ ?cc _ _ _ _ s1 ?wt).mono ?_; (case wt => exact Or.inl ⟨rfl, rfl, by go_keep, by go_keep, rfl⟩); (case cc => repeat (first | exact unhide HKn | exact Chg.refl _ _ | refine Chg.drew ?_ | refine Chg.alloc ?_ _)); rintro e w3 ⟨rfl, hk, hkW⟩; have HKW := hide hkW; clear hkW; have k0 := hk.cell (p := ⟨H, 0, none⟩) x0 (fun x => x); have k1 := hk.cell (p := ⟨H, 1, none⟩) x1 (fun x => x); have k2 := hk.cell (p := ⟨H, 2, none⟩) x2 (fun x => x); have k3 := hk.cell (p := ⟨H, 3, none⟩) x3 (fun x => x); have k4 := hk.cell (p := ⟨H, 4, none⟩) x4 (fun x => x); have k5 := hk.cell (p := ⟨H, 5, none⟩) x5 (fun x => x); have k6 := hk.cell (p := ⟨H, 6, none⟩) x6 (fun x => x); have HKn := hide hk; clear hk)
      | (go_at_call 65; refine (unhide HWW _ ?cc _ _ _ _ s2 ?wt).mono ?_; (case wt => exact Or.inr ⟨rfl, rfl, (by first | go_keep | exact (unhide HKW).cell (by go_keep) (fun x => x)), (by first | go_keep | exact (unhide HKW).cell (by go_keep) (fun x => x)), (by first | go_keep | exact (unhide HKW).cell (by go_keep) (fun x => x)), (by first | go_keep | exact (unhide HKW).cell (by go_keep) (fun x => x)), rfl⟩); (case cc => repeat (first | exact unhide HKn | exact Chg.refl _ _ | refine Chg.drew ?_ | refine Chg.alloc ?_ _)); rintro e w3 ⟨rfl, hk, hkW⟩; have HKW := hide hkW; clear hkW; have k0 := hk.cell (p := ⟨H, 0, none⟩) x0 (fun x => x); have k1 := hk.cell (p := ⟨H, 1, none⟩) x1 (fun x => x); have k2 := hk.cell (p := ⟨H, 2, none⟩) x2 (fun x => x); have k3 := hk.cell (p := ⟨H, 3, none⟩) x3 (fun x => x); have k4 := hk.cell (p := ⟨H, 4, none⟩) x4 (fun x => x); have k5 := hk.cell (p := ⟨H, 5, none⟩) x5 (fun x => x); have k6 := hk.cell (p := ⟨H, 6, none⟩) x6 (fun x => x); have HKn := hide hk; clear hk))
  all_goals
    go_wp2
    go_ret
    exact ⟨rfl, (unhide HK0).trans (by repeat (first | exact unhide HKn | exact Chg.refl _ _ | refine Chg.drew ?_ | refine Chg.drewN ?_ _ | refine Chg.alloc ?_ _))⟩

end Go.Proofs.YtigaphnafnpfnaaGreatDoor

set_option linter.unusedVariables false
/- What the rows list of package-level variables, and what the walks need of it. -/
namespace Go.Proofs.YtigaphnafnpfnaaGreatDoor
open Go.RowKit

def laid3 : List (String × DataW Unit) := [("math/bits.deBruijn32tab", Rows.laid_math_bits_deBruijn32tab), ("math/bits.deBruijn64tab", Rows.laid_math_bits_deBruijn64tab), ("internal/strconv.uint64pow10", Rows.laid_internal_strconv_uint64pow10)]

theorem tab_type : (Tryz.prog.globals[tabAt]?).map (·.type) = some 287 := by kernel_rfl

set_option maxRecDepth 100000 in
theorem tab_of_laid {W : World} (h : laidMetH Tryz.prog laid3 W) : Tab W := by
  have h1 : laidMetH Tryz.prog [("internal/strconv.uint64pow10", Lib.tabData .u64 Lib.pow10Tab)] W := h.filter (fun x => x.1 == "internal/strconv.uint64pow10")
  rw [MakeChecks.laidMetH_plain _ _ _ (by kernel_rfl)] at h1
  exact Lib.tabIs_of_head tab_at tab_type Tryz.underlying287 Tryz.underlying253 (by kernel_rfl) (by kernel_rfl) h1


set_option maxRecDepth 100000 in
theorem door_met (os : Os) (args : Array Value) : laidMetH Tryz.prog laid3 ((World.doorLaid Tryz.prog 400 os).forCall (fun _ _ => 0) ⟨#[], args, []⟩).memory :=
  laidMetH_of_parts3 (fuel := 8) (laidMet_of_run' 8 (by kernel_rfl) (by kernel_rfl)) (by kernel_rfl) (by kernel_rfl)

end Go.Proofs.YtigaphnafnpfnaaGreatDoor

