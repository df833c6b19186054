import Derived.Test.YtigaphnafnpfnaaGreatDoorPVB6
import Derived.Test.YtigaphnafnpfnaaGreatDoorPVX4
import Derived.Deep.RegionLaw
import Derived.Deep.AppendLies
set_option linter.unusedVariables false
set_option linter.unusedSimpArgs false
namespace Go.Proofs.YtigaphnafnpfnaaGreatDoor
open Go.RowKit Go.Maps

def ptrElem (v : Value) : Option (DataW Unit × List MemPlace) :=
  match v with
  | .pointer none => some (.nil, [])
  | .pointer (some ⟨b, 0, none⟩) => some (.lit (.int .i64 b), [])
  | _ => none

def ptrD : Option Nat → DataW Unit
  | none => .nil
  | some b => .lit (.int .i64 b)

theorem ptrElem_mk (x : Option Nat) : ptrElem (ptrO x) = some (ptrD x, []) := by cases x <;> rfl

theorem ptrElem_inv {v : Value} {x : Option Nat} {ps : List MemPlace} (h : ptrElem v = some (ptrD x, ps)) : v = ptrO x := by
  unfold ptrElem at h
  split at h
  · cases x
    · rfl
    · simp [ptrD] at h
  · cases x
    · simp [ptrD] at h
    · simp [ptrD] at h
      obtain ⟨h, _⟩ := h
      simp [ptrO, h]
  · simp at h

/-- block b is a map of n pointers: by a key's reading -/
def MapP (w : World) (k : TypeId) (b : Nat) (f : Lit → Option Nat) (n : Nat) : Prop :=
  ∃ D : DataW Unit, w.ownsMap Tryz.prog k ptrElem b n D ∧ Maps.size D = n ∧ (∀ kl, D.atKey kl .nil = ptrD (f kl)) ∧ (∀ kl, Maps.has D kl = (f kl).isSome)

theorem MapP.kept {w w' : World} {k : TypeId} {b : Nat} {f : Lit → Option Nat} {n : Nat} (h : MapP w k b f n) {S : Nat → Prop} (c : Chg S w w') (hS : ¬ S b) : MapP w' k b f n := by
  obtain ⟨D, ⟨es, clock, hb, r⟩, h2⟩ := h
  refine ⟨D, ⟨es, clock, ?_, r⟩, h2⟩
  rw [c.block b (Array.getElem?_eq_some_iff.1 hb).1 hS]
  exact hb

theorem MapP.lt {w : World} {k : TypeId} {b : Nat} {f : Lit → Option Nat} {n : Nat} (h : MapP w k b f n) : b < w.heap.size := by
  obtain ⟨D, h1, _⟩ := h
  exact h1.lt

theorem MapP.ne {w : World} {k : TypeId} {b : Nat} {f : Lit → Option Nat} {n : Nat} (h : MapP w k b f n) {b' : Nat} {c : Array Value} {t : TypeId} (hb : Blk w b' c t) : b ≠ b' := by
  rintro rfl
  obtain ⟨D, ⟨es, clock, h1, _⟩, _⟩ := h
  unfold Blk at hb
  rw [h1] at hb
  simp at hb

theorem zero70 (w : World) : (zeroValue 111).run Tryz.prog w = .ok (.pointer none) w := by kernel_rfl
theorem zero80 (w : World) : (zeroValue 114).run Tryz.prog w = .ok (.pointer none) w := by kernel_rfl
theorem law9 : Keyed Tryz.prog 9 := string_keyed Tryz.underlying9
theorem law3 : Keyed Tryz.prog 3 := int_keyed Tryz.underlying3

theorem MapP.look {w : World} {k t e : TypeId} {b : Nat} {f : Lit → Option Nat} {n : Nat} (h : MapP w k b f n) (K : Keyed Tryz.prog k) (ht : Tryz.prog.underlying t = some (.map k e)) (hz : (zeroValue e).run Tryz.prog w = .ok (.pointer none) w) {key : Value} {kl : Lit} (hkey : keyOf Tryz.prog k key = some kl) :
    (Instr.lookup t (.map (some b)) key false).run Tryz.prog w = .ok (ptrO (f kl)) w := by
  obtain ⟨D, h1, _, h3, _⟩ := h
  obtain ⟨v, ps, hrun, hv⟩ := h1.lookup K ht hz (zd := .nil) (zp := []) rfl hkey
  rw [h3 kl] at hv
  rw [hrun, ptrElem_inv hv]

theorem MapP.len {w : World} {k t e : TypeId} {b : Nat} {f : Lit → Option Nat} {n : Nat} (h : MapP w k b f n) (ht : Tryz.prog.underlying t = some (.map k e)) (ty : TypeId) :
    (Builtin.len_ #[t] ty #[.map (some b)]).run Tryz.prog w = .ok (.int .i64 n) w := by
  obtain ⟨D, h1, h2, _⟩ := h
  rw [h1.len ht ty, h2]

def putF (f : Lit → Option Nat) (kl : Lit) (x : Nat) : Lit → Option Nat := fun k => if k.sameKey kl then some x else f k

theorem MapP.put {w : World} {k t e : TypeId} {b : Nat} {f : Lit → Option Nat} {n x : Nat} (h : MapP w k b f n) (K : Keyed Tryz.prog k) (ht : Tryz.prog.underlying t = some (.map k e)) (hn : n < maxLen) {key : Value} {kl : Lit} (hkey : keyOf Tryz.prog k key = some kl) (hk : WideAt.IsKeyLit kl) (hf : f kl = none) :
    ∃ w', (Instr.mapUpdate t (.map (some b)) key (.pointer (some ⟨x, 0, none⟩))).run Tryz.prog w = .ok () w' ∧ MapP w' k b (putF f kl x) (n + 1) ∧ Chg (fun i => i = b) w w' := by
  obtain ⟨D, h1, h2, h3, h4⟩ := h
  obtain ⟨w', hrun, h5, h6⟩ := h1.update K ht hn hkey (ptrElem_mk (some x))
  refine ⟨w', hrun, ⟨_, h5, ?_, ?_, ?_⟩, ?_⟩
  · rw [size_put (h1.tidy K), h4 kl, hf]
    simp [h2]
  · intro k'
    unfold putF
    by_cases e : k' = kl
    · subst e
      rw [atKey_put_same h1.isMap hk, if_pos (WideAt.sameKey_self hk)]
    · rw [atKey_put_other e, if_neg (fun h => e ((WideAt.sameKey_iff hk).1 h)), h3]
  · intro k'
    unfold putF
    by_cases e : k' = kl
    · subst e
      rw [has_put_same h1.isMap hk, if_pos (WideAt.sameKey_self hk)]; rfl
    · rw [has_put_other e, if_neg (fun h => e ((WideAt.sameKey_iff hk).1 h)), h4]
  · exact ⟨h6.os, h6.tape, h6.output, h6.size, fun i hi hs => h6.block i hi (fun h => hs (by simpa using h))⟩

theorem MapP.made (w : World) (k : TypeId) : MapP (w.alloc (.map #[] 0)) k w.heap.size (fun _ => none) 0 :=
  ⟨.map [], World.ownsMap_made w Tryz.prog k ptrElem, rfl, fun _ => rfl, fun _ => rfl⟩

/- the checks -/
def numB (n : Int) : Bool := decide (1 ≤ n) && decide (n ≤ 1000000)
def ownB' (n : Int) : Bool := decide (0 ≤ n) && decide (n ≤ 9)
def sideB (n : Int) : Bool := (n == 0) || (n == 1)
def kindB (n : Int) : Bool := decide (0 ≤ n) && decide (n ≤ 5)
def priceB (kind p : Int) : Bool := if kind = 5 then p == 0 else numB p

theorem isNumber_any (n : Int) (w : World) : Calls Tryz.prog 68 #[.int .i64 n] w fun e w' => e = .returned (.bool (numB n)) ∧ w' = w := by
  by_cases h1 : 1 ≤ n
  · have HR : Hid (numB n = decide (n ≤ 1000000)) := by show _ = _; simp [numB, h1]
    go_enter Tryz.func68, Tryz.ntmps68
    go_wp2
    go_ret
    exact ⟨by rw [HR.out]; rfl, rfl⟩
  · have HR : Hid (numB n = false) := by show _ = _; simp [numB, h1]
    go_enter Tryz.func68, Tryz.ntmps68
    go_wp2
    go_ret
    exact ⟨by rw [HR.out]; rfl, rfl⟩

theorem isOwner_any (n : Int) (w : World) : Calls Tryz.prog 144 #[.int .i64 n] w fun e w' => e = .returned (.bool (ownB' n)) ∧ w' = w := by
  by_cases h1 : 0 ≤ n
  · have HR : Hid (ownB' n = decide (n ≤ 9)) := by show _ = _; simp [ownB', h1]
    go_enter Tryz.func144, Tryz.ntmps144
    go_wp2
    go_ret
    exact ⟨by rw [HR.out]; rfl, rfl⟩
  · have HR : Hid (ownB' n = false) := by show _ = _; simp [ownB', h1]
    go_enter Tryz.func144, Tryz.ntmps144
    go_wp2
    go_ret
    exact ⟨by rw [HR.out]; rfl, rfl⟩

theorem isSide_any (n : Int) (w : World) : Calls Tryz.prog 47 #[.int .i64 n] w fun e w' => e = .returned (.bool (sideB n)) ∧ w' = w := by
  cases h1 : (n == 0)
  · have HR : Hid (sideB n = (n == 1)) := by show _ = _; simp [sideB, h1]
    go_enter Tryz.func47, Tryz.ntmps47
    go_wp2
    go_ret
    exact ⟨by rw [HR.out]; rfl, rfl⟩
  · have HR : Hid (sideB n = true) := by show _ = _; simp [sideB, h1]
    go_enter Tryz.func47, Tryz.ntmps47
    go_wp2
    go_ret
    exact ⟨by rw [HR.out]; rfl, rfl⟩

theorem isKind_any (n : Int) (w : World) : Calls Tryz.prog 145 #[.int .i64 n] w fun e w' => e = .returned (.bool (kindB n)) ∧ w' = w := by
  by_cases h1 : 0 ≤ n
  · have HR : Hid (kindB n = decide (n ≤ 5)) := by show _ = _; simp [kindB, h1]
    go_enter Tryz.func145, Tryz.ntmps145
    go_wp2
    go_ret
    exact ⟨by rw [HR.out]; rfl, rfl⟩
  · have HR : Hid (kindB n = false) := by show _ = _; simp [kindB, h1]
    go_enter Tryz.func145, Tryz.ntmps145
    go_wp2
    go_ret
    exact ⟨by rw [HR.out]; rfl, rfl⟩

theorem isPriceOf_any (k n : Int) (w : World) : Calls Tryz.prog 146 #[.int .i64 k, .int .i64 n] w fun e w' => e = .returned (.bool (priceB k n)) ∧ w' = w := by
  by_cases h1 : k = 5
  · have e1 : (k == 5) = true := by simp [h1]
    have HR : Hid (priceB k n = (n == 0)) := by show _ = _; simp [priceB, h1]
    clear h1
    go_enter Tryz.func146, Tryz.ntmps146
    go_wp2
    go_ret
    exact ⟨by rw [HR.out]; rfl, rfl⟩
  · have e1 : (k == 5) = false := by simp [h1]
    have HR : Hid (priceB k n = numB n) := by show _ = _; simp [priceB, h1]
    clear h1
    go_enter Tryz.func146, Tryz.ntmps146
    go_wp2_with (go_at_call 68; refine (isNumber_any _ _).mono ?_; rintro e w' ⟨rfl, rfl⟩)
    go_ret
    exact ⟨by rw [HR.out]; rfl, rfl⟩

theorem putF_same {f : Lit → Option Nat} {kl : Lit} {x : Nat} (hk : WideAt.IsKeyLit kl) : putF f kl x kl = some x := by unfold putF; rw [if_pos (WideAt.sameKey_self hk)]
theorem putF_other {f : Lit → Option Nat} {kl k : Lit} {x : Nat} (hk : WideAt.IsKeyLit kl) (h : k ≠ kl) : putF f kl x k = f k := by unfold putF; rw [if_neg (fun e => h ((WideAt.sameKey_iff hk).1 e))]

def newOrd (o : Ask) : Ord := ⟨o.id, o.owner, o.sym, o.side, o.kind, o.price, o.qty, o.qty, o.qty, 0, 0, 0, 0⟩

set_option maxHeartbeats 1000000 in
theorem newOrder_any (o : Ask) (w : World) : Calls Tryz.prog 112 #[o.val] w fun e w' => ∃ b, e = .returned (.pointer (some ⟨b, 0, none⟩)) ∧ w.heap.size ≤ b ∧ IsOrd w' b (newOrd o) 0 ∧ Chg Non w w' := by
  obtain ⟨id, owner, sym, side, kind, price, qty⟩ := o
  simp only [Ask.val]
  go_enter Tryz.func112, Tryz.ntmps112
  go_wp2
  go_ret
  refine ⟨_, rfl, ?_, ?_, ?_⟩
  · simp
  · exact Blk.new1 _ _ _ _
  · exact ((Chg.refl Non w).alloc _).alloc _

end Go.Proofs.YtigaphnafnpfnaaGreatDoor

set_option linter.unusedVariables false
set_option linter.unusedSimpArgs false
namespace Go.Proofs.YtigaphnafnpfnaaGreatDoor
open Go.RowKit
attribute [local go_sem ↓] Go.wp_at_zero Go.wp_at_succ

theorem rnumber_any (n : Int) (w : World) : Calls Tryz.prog 198 #[.int .i64 n] w fun e w' => e = .returned (.bool (numB n)) ∧ w' = w := by
  by_cases h1 : 1 ≤ n
  · have HR : Hid (numB n = decide (n ≤ 1000000)) := by show _ = _; simp [numB, h1]
    go_enter Tryz.func198, Tryz.ntmps198
    go_wp2
    go_ret
    exact ⟨by rw [HR.out]; rfl, rfl⟩
  · have HR : Hid (numB n = false) := by show _ = _; simp [numB, h1]
    have h2 : decide (1 ≤ n) = false := by simpa using h1
    go_enter Tryz.func198, Tryz.ntmps198
    go_wp2
    go_ret
    exact ⟨by rw [HR.out]; rfl, rfl⟩

/-- how much the good ones of other owners among the first i have open -/
def offX (l : List Ord) (o : Ask) : Nat → Int
  | 0 => 0
  | i + 1 => offX l o i + (if goodR o (nthO l i) = true ∧ (nthO l i).owner ≠ o.owner then (nthO l i).opn else 0)

theorem offX_b (l : List Ord) (o : Ask) (n : Nat) (hb : ∀ k, k < n → 0 ≤ (nthO l k).opn ∧ (nthO l k).opn ≤ 1000000000000000) : ∀ i, i ≤ n → 0 ≤ offX l o i ∧ offX l o i ≤ i * 1000000000000000
  | 0, _ => by simp [offX]
  | i + 1, h => by
    have := offX_b l o n hb i (by omega)
    have := hb i (by omega)
    unfold offX
    split <;> (push_cast; omega)

set_option maxHeartbeats 1000000 in
theorem roffered_any (base sb : Nat) (S : RS) (m : SM) (o : Ask) (w : World) (h : StV w base sb S m) (hlen : S.l.length ≤ 1000) (hop : ∀ k, k < S.l.length → 0 ≤ (nthO S.l k).opn ∧ (nthO S.l k).opn ≤ 1000000000000000) :
    Calls Tryz.prog 200 #[.pointer (some ⟨sb, 0, none⟩), o.val] w fun e w' => e = .returned (.int .i64 (offX S.l o S.l.length)) ∧ Chg Non w w' := by
  obtain ⟨n, hn⟩ : ∃ n, S.l.length = n := ⟨_, rfl⟩
  obtain ⟨a, c, hv⟩ := row_slice h.lrow
  have HG : Hid (∀ W, Chg Non w W → ∀ i, i < n → Calls Tryz.prog 224 #[.pointer (some ⟨sb, 0, none⟩), o.val, .int .i64 (i : Int)] W fun e w' => e = .returned (.bool (goodR o (nthO S.l i))) ∧ Chg Non W w') :=
    fun W k i hi => rgood_any base sb i S m o W (h.kept0 k) hlen (by omega)
  have HX : Hid (∀ i, i < n → ∃ (g : Nat), a = some ⟨g, 0, none⟩ ∧ w.cell? ⟨g, i * 13 + 1, none⟩ = some (.int .i64 (nthO S.l i).owner) ∧ w.cell? ⟨g, i * 13 + 8, none⟩ = some (.int .i64 (nthO S.l i).opn)) := fun i hi => by
    obtain ⟨g, e, _, hc, _⟩ := h.ordc hv (i := i) (by omega)
    exact ⟨g, e, hc 1 _ rfl, hc 8 _ rfl⟩
  rw [hn] at hv hlen hop
  have v1 : w.cell? ⟨sb, 1, none⟩ = some (.slice a n c) := by rw [← hv]; exact h.blk.cell 1
  have lsb := h.blk.lt
  rw [hn]
  have HO := hide (offX_b S.l o n hop)
  have HOP := hide hop
  obtain ⟨L, hL⟩ : ∃ L, S.l = L := ⟨_, rfl⟩
  rw [hL] at HG HX HO HOP ⊢
  clear h hv hL hn hop
  obtain ⟨id, owner, sym, side, kind, price, qty⟩ := o
  simp only [Ask.val] at HG ⊢
  obtain ⟨w0, hw0⟩ : ∃ w0, w0 = w.alloc (.cells #[.int .i64 id, .int .i64 owner, .string sym, .int .i64 side, .int .i64 kind, .int .i64 price, .int .i64 qty] 52) := ⟨_, rfl⟩
  have HB0 : Hid (Blk w0 w.heap.size #[.int .i64 id, .int .i64 owner, .string sym, .int .i64 side, .int .i64 kind, .int .i64 price, .int .i64 qty] 52 ∧ Chg Non w w0) := ⟨by rw [hw0]; exact Blk.new _ _ _, by rw [hw0]; exact (Chg.refl _ _).alloc _⟩
  have HW := hide hw0
  clear hw0
  go_enter Tryz.func200, Tryz.ntmps200
  go_wp2
  rw [← unhide HW]
  go_loopg [5, 6] n (fun k bv iv wr => ∃ i : Nat, iv = .int .i64 (i : Int) ∧ i ≤ n ∧ k = n - i ∧ bv = .int .i64 (offX L ⟨id, owner, sym, side, kind, price, qty⟩ i) ∧ Chg Non w0 wr)
  case atStart => exact ⟨0, rfl, Nat.zero_le _, rfl, rfl, Chg.refl _ _⟩
  case round =>
    obtain ⟨i, rfl, hi, hgk, rfl, kr⟩ := hrel
    obtain ⟨b0, k0⟩ := unhide HB0
    have v1r := (k0.trans kr).cell v1 (fun x => x)
    have br := kr.blk b0 (fun x => x)
    have b0r : wr.cell? ⟨w.heap.size, 0, none⟩ = some (.int .i64 id) := br.cell 0
    have b1r : wr.cell? ⟨w.heap.size, 1, none⟩ = some (.int .i64 owner) := br.cell 1
    have b2r : wr.cell? ⟨w.heap.size, 2, none⟩ = some (.string sym) := br.cell 2
    have b3r : wr.cell? ⟨w.heap.size, 3, none⟩ = some (.int .i64 side) := br.cell 3
    have b4r : wr.cell? ⟨w.heap.size, 4, none⟩ = some (.int .i64 kind) := br.cell 4
    have b5r : wr.cell? ⟨w.heap.size, 5, none⟩ = some (.int .i64 price) := br.cell 5
    have b6r : wr.cell? ⟨w.heap.size, 6, none⟩ = some (.int .i64 qty) := br.cell 6
    have HBR := hide br
    have HK0 := hide k0
    have HK := hide kr
    clear kr k0 b0 br
    by_cases hlt : i < n
    · have G1 := unhide HG _ ((unhide HK0).trans (unhide HK)) i hlt
      obtain ⟨g, rfl, x1, x8⟩ := unhide HX i hlt
      have ob := unhide HO i hi
      have ob2 := unhide HOP i hlt
      obtain ⟨x, hx⟩ : ∃ x, nthO L i = x := ⟨_, rfl⟩
      rw [hx] at x1 x8 G1 ob2
      have HS : Hid (offX L ⟨id, owner, sym, side, kind, price, qty⟩ (i + 1) = offX L ⟨id, owner, sym, side, kind, price, qty⟩ i + (if goodR ⟨id, owner, sym, side, kind, price, qty⟩ x = true ∧ x.owner ≠ owner then x.opn else 0)) := by show _ = _; rw [← hx]; rfl
      clear hx
      obtain ⟨y, hy⟩ : ∃ y, offX L ⟨id, owner, sym, side, kind, price, qty⟩ i = y := ⟨_, rfl⟩
      rw [hy] at HS ob ⊢
      clear hy
      have HC := hide G1
      clear G1
      have hn63 : y + x.opn ≤ 9223372036854775807 := by omega
      cases hg : goodR ⟨id, owner, sym, side, kind, price, qty⟩ x
      · have HS2 : Hid (offX L ⟨id, owner, sym, side, kind, price, qty⟩ (i + 1) = y) := by show _ = _; rw [unhide HS, hg]; simp
        rw [hg] at HC
        clear hg
        go_wp2_with fail
        refine (unhide HC).mono ?_
        rintro e w2 ⟨rfl, k2⟩
        have HK2 := hide k2
        clear k2
        go_wp2
        go_quiet (fail)
        go_wp2
        go_roundg (n - (i + 1))
        case measure => omega
        case rel => exact ⟨i + 1, by push_cast; rfl, by omega, rfl, by rw [unhide HS2], ((unhide HK).trans (unhide HK2)).drewN _⟩
      · rw [hg] at HC
        by_cases ho : x.owner = owner
        · have HS2 : Hid (offX L ⟨id, owner, sym, side, kind, price, qty⟩ (i + 1) = y) := by show _ = _; rw [unhide HS, if_neg (fun h => h.2 ho)]; omega
          have e1 : (x.owner == owner) = true := by simpa using ho
          clear hg ho
          go_wp2_with fail
          refine (unhide HC).mono ?_
          rintro e w2 ⟨rfl, k2⟩
          have v1s := k2.cell v1r (fun x => x)
          have x1s := k2.cell (((unhide HK0).trans (unhide HK)).cell x1 (fun x => x)) (fun x => x)
          have b1s := k2.cell b1r (fun x => x)
          have HK2 := hide k2
          clear k2
          go_wp2
          go_quiet (fail)
          go_wp2
          go_roundg (n - (i + 1))
          case measure => omega
          case rel => exact ⟨i + 1, by push_cast; rfl, by omega, rfl, by rw [unhide HS2], ((unhide HK).trans (unhide HK2)).drewN _⟩
        · have HS2 : Hid (offX L ⟨id, owner, sym, side, kind, price, qty⟩ (i + 1) = y + x.opn) := by show _ = _; rw [unhide HS, if_pos ⟨hg, ho⟩]
          have e1 : (x.owner == owner) = false := by simpa using ho
          clear hg ho
          go_wp2_with fail
          refine (unhide HC).mono ?_
          rintro e w2 ⟨rfl, k2⟩
          have v1s := k2.cell v1r (fun x => x)
          have x1s := k2.cell (((unhide HK0).trans (unhide HK)).cell x1 (fun x => x)) (fun x => x)
          have x8s := k2.cell (((unhide HK0).trans (unhide HK)).cell x8 (fun x => x)) (fun x => x)
          have b1s := k2.cell b1r (fun x => x)
          have HK2 := hide k2
          clear k2
          go_wp2
          go_quiet (fail)
          go_wp2
          go_roundg (n - (i + 1))
          case measure => omega
          case rel => exact ⟨i + 1, by push_cast; rfl, by omega, rfl, by rw [unhide HS2], ((unhide HK).trans (unhide HK2)).drewN _⟩
    · obtain rfl : i = n := by omega
      go_wp2
      go_ret
      exact ⟨rfl, (unhide HK0).trans (unhide HK)⟩

/-- what open says of an order: where, and why not -/
def openE (l : List Ord) (id : Int) : Int := match ordX l id with
  | none => 6
  | some k => if (nthO l k).opn = 0 then 10 else 0

theorem ordX_lt {l : List Ord} {id : Int} {k : Nat} (h : ordX l id = some k) : k < l.length ∧ (nthO l k).id = id := by
  unfold ordX at h
  obtain ⟨hk, h1, _⟩ := List.findIdx?_eq_some_iff_getElem.1 h
  refine ⟨hk, ?_⟩
  rw [nthO_eq (List.getElem?_eq_getElem hk)]
  simpa using h1

theorem ropen_any (base sb : Nat) (S : RS) (m : SM) (id : Int) (w : World) (h : StV w base sb S m) (hlen : S.l.length ≤ 1000) :
    Calls Tryz.prog 169 #[.pointer (some ⟨sb, 0, none⟩), .int .i64 id] w fun e w' => e = .returned (.tuple #[.int .i64 (oi (ordX S.l id)), .int .i64 (openE S.l id)]) ∧ w' = w := by
  have HO := hide (rorder_any base sb S m id w h hlen)
  obtain ⟨n, hn⟩ : ∃ n, S.l.length = n := ⟨_, rfl⟩
  obtain ⟨a, c, hv⟩ := row_slice h.lrow
  cases hx : ordX S.l id with
  | none =>
    have HE : Hid (openE S.l id = 6) := by show _ = _; unfold openE; rw [hx]
    rw [hx] at HO
    simp only [oi] at HO ⊢
    clear hx
    go_enter Tryz.func169, Tryz.ntmps169
    go_wp2_with fail
    refine (unhide HO).mono ?_
    rintro e w2 ⟨rfl, rfl⟩
    go_wp2
    go_ret2
    exact ⟨by rw [unhide HE]; rfl, rfl⟩
  | some k =>
    obtain ⟨hk, _⟩ := ordX_lt hx
    obtain ⟨g, rfl, _, hc, _⟩ := h.ordc hv hk
    rw [hn] at hv hk hlen
    have v1 : w.cell? ⟨sb, 1, none⟩ = some (.slice (some ⟨g, 0, none⟩) n c) := by rw [← hv]; exact h.blk.cell 1
    have c8 : w.cell? ⟨g, k * 13 + 8, none⟩ = some (.int .i64 (nthO S.l k).opn) := hc 8 _ rfl
    rw [hx] at HO
    simp only [oi] at HO ⊢
    by_cases h0 : (nthO S.l k).opn = 0
    · have HE : Hid (openE S.l id = 10) := by show _ = _; unfold openE; rw [hx]; simp [h0]
      have e0 : ((nthO S.l k).opn == 0) = true := by simp [h0]
      clear hx hc h hv hn h0
      go_enter Tryz.func169, Tryz.ntmps169
      go_wp2_with fail
      refine (unhide HO).mono ?_
      rintro e w2 ⟨rfl, rfl⟩
      go_wp2
      go_ret2
      exact ⟨by rw [unhide HE]; rfl, rfl⟩
    · have HE : Hid (openE S.l id = 0) := by show _ = _; unfold openE; rw [hx]; simp [h0]
      have e0 : ((nthO S.l k).opn == 0) = false := by simp [h0]
      clear hx hc h hv hn h0
      go_enter Tryz.func169, Tryz.ntmps169
      go_wp2_with fail
      refine (unhide HO).mono ?_
      rintro e w2 ⟨rfl, rfl⟩
      go_wp2
      go_ret2
      exact ⟨by rw [unhide HE]; rfl, rfl⟩

end Go.Proofs.YtigaphnafnpfnaaGreatDoor

set_option linter.unusedVariables false
set_option linter.unusedSimpArgs false
/- The document's state, written. -/
namespace Go.Proofs.YtigaphnafnpfnaaGreatDoor
open Go.RowKit
attribute [local go_sem ↓] Go.wp_at_zero Go.wp_at_succ

/-- the blocks of a state -/
def SF (sb : Nat) (m : SM) (b : Nat) : Prop := b = sb ∨ m.yv.ownBlock = some b ∨ m.lv.ownBlock = some b ∨ m.tv.ownBlock = some b ∨ m.ov.ownBlock = some b

theorem StV.typ {w : World} {base sb : Nat} {S : RS} {m : SM} (h : StV w base sb S m) {b : Nat} (hb : SF sb m b) : ∃ cs t, Blk w b cs t ∧ (t = 207 ∨ t = 9 ∨ t = 212 ∨ t = 210 ∨ t = 62) := by
  rcases hb with rfl | hb | hb | hb | hb
  · exact ⟨_, _, h.blk, .inl rfl⟩
  · obtain ⟨cs, hc⟩ := own_blk h.yrow hb; exact ⟨cs, _, hc, .inr (.inl rfl)⟩
  · obtain ⟨cs, hc⟩ := own_blk h.lrow hb; exact ⟨cs, _, hc, .inr (.inr (.inl rfl))⟩
  · obtain ⟨cs, hc⟩ := own_blk h.trow hb; exact ⟨cs, _, hc, .inr (.inr (.inr (.inl rfl)))⟩
  · obtain ⟨cs, hc⟩ := own_blk h.orow hb; exact ⟨cs, _, hc, .inr (.inr (.inr (.inr rfl)))⟩

theorem StV.lt {w : World} {base sb : Nat} {S : RS} {m : SM} (h : StV w base sb S m) {b : Nat} (hb : SF sb m b) : base ≤ b ∧ b < w.heap.size := by
  obtain ⟨cs, t, hc, _⟩ := h.typ hb
  refine ⟨?_, hc.lt⟩
  rcases hb with rfl | hb | hb | hb | hb
  · exact h.ge
  · exact (h.yrow.lt _ hb).1
  · exact (h.lrow.lt _ hb).1
  · exact (h.trow.lt _ hb).1
  · exact (h.orow.lt _ hb).1

/-- a block of another type is none of them -/
theorem StV.ne {w : World} {base sb : Nat} {S : RS} {m : SM} (h : StV w base sb S m) {b : Nat} {c : Array Value} {t : TypeId} (hb : Blk w b c t) (ht : t ≠ 207 ∧ t ≠ 9 ∧ t ≠ 212 ∧ t ≠ 210 ∧ t ≠ 62) : ¬ SF sb m b := by
  intro hf
  obtain ⟨cs, t', hc, h'⟩ := h.typ hf
  unfold Blk at hb hc
  rw [hb] at hc
  simp only [Option.some.injEq, Obj.cells.injEq] at hc
  obtain ⟨_, e, _⟩ := hc
  subst e
  rcases h' with e | e | e | e | e
  · exact ht.1 e
  · exact ht.2.1 e
  · exact ht.2.2.1 e
  · exact ht.2.2.2.1 e
  · exact ht.2.2.2.2 e

/-- what has become of a state -/
def StN (base sb : Nat) (S' : RS) (m : SM) (w w' : World) : Prop := ∃ m', StV w' base sb S' m' ∧ (∀ b, SF sb m' b → SF sb m b ∨ w.heap.size ≤ b) ∧ Chg (SF sb m) w w'

theorem StN.refl {base sb : Nat} {S : RS} {m : SM} {w : World} (h : StV w base sb S m) : StN base sb S m w w := ⟨m, h, fun b hb => .inl hb, Chg.refl _ _⟩
theorem StN.ext {base sb : Nat} {S : RS} {m : SM} {w w' w'' : World} (h : StN base sb S m w w') (k : Chg Non w' w'') : StN base sb S m w w'' := by
  obtain ⟨m', h1, h2, h3⟩ := h
  exact ⟨m', h1.kept0 k, h2, h3.trans k.of_non⟩
theorem StN.trans {base sb : Nat} {S S' : RS} {m : SM} {w w' w'' : World} (h : StN base sb S m w w') (k : ∀ m', StV w' base sb S m' → StN base sb S' m' w' w'') : StN base sb S' m w w'' := by
  obtain ⟨m', h1, h2, h3⟩ := h
  obtain ⟨m'', k1, k2, k3⟩ := k m' h1
  refine ⟨m'', k1, fun b hb => ?_, h3.from (k3.mono (fun b hb => h2 b hb))⟩
  rcases k2 b hb with hb | hb
  · exact h2 b hb
  · exact .inr (Nat.le_trans h3.size hb)

/-- one row of a state has turned, and perhaps a cell of its block -/
theorem own_typ {w w' : World} {base e size n : Nat} {v : Value} {xs : List Value} {S : Nat → Prop} {t : TypeId} (h : w.ownsRow base e size v n xs) (k : Chg S w w') (hS : ∀ b, S b → ∃ c t', Blk w b c t' ∧ t' ≠ e) : w'.ownsRow base e size v n xs :=
  own_kept h k (fun b hb hs => by
    obtain ⟨c, t', hc, ht⟩ := hS b hs
    obtain ⟨cs, hcs⟩ := own_blk h hb
    exact Blk.ne hc hcs ht rfl)

theorem ordL_set_opn (o : Ord) (v : Int) : ordL { o with opn := v } = (ordL o).set 8 (.int .i64 v) := rfl
theorem ordL_set_filled (o : Ord) (v : Int) : ordL { o with filled := v } = (ordL o).set 9 (.int .i64 v) := rfl
theorem ordL_set_canc (o : Ord) (v : Int) : ordL { o with canc := v } = (ordL o).set 10 (.int .i64 v) := rfl
theorem ordL_set_exp (o : Ord) (v : Int) : ordL { o with exp := v } = (ordL o).set 11 (.int .i64 v) := rfl
theorem ordL_set_place (o : Ord) (v : Int) : ordL { o with place := v } = (ordL o).set 12 (.int .i64 v) := rfl
theorem ordL_set_entered (o : Ord) (v : Int) : ordL { o with entered := v } = (ordL o).set 7 (.int .i64 v) := rfl
theorem ordL_set_price (o : Ord) (v : Int) : ordL { o with price := v } = (ordL o).set 5 (.int .i64 v) := rfl

/-- a field of an order of the list is set -/
theorem StV.setOrd {w : World} {base sb g c i j : Nat} {S : RS} {m : SM} (h : StV w base sb S m) (hv : m.lv = .slice (some ⟨g, 0, none⟩) S.l.length c) (hi : i < S.l.length) (hj : j < 13) (u : Value) (y : Ord) (hy : ordL y = (ordL (nthO S.l i)).set j u) :
    StV (w.setCell ⟨g, i * 13 + j, none⟩ u) base sb { S with l := S.l.set i y } m ∧ Chg (SF sb m) w (w.setCell ⟨g, i * 13 + j, none⟩ u) := by
  have r := h.lrow
  rw [hv] at r
  have hg : Blk w g _ 212 := (own_blk r (b := g) rfl).choose_spec
  have kg : Chg (fun b => b = g) w (w.setCell ⟨g, i * 13 + j, none⟩ u) := (Chg.refl (fun b => b = g) w).setCell (p := ⟨g, i * 13 + j, none⟩) (.inl rfl) _
  have ty : ∀ e, e ≠ 212 → ∀ b, b = g → ∃ c t', Blk w b c t' ∧ t' ≠ e := fun e he b hb => by subst hb; exact ⟨_, _, hg, fun x => he x.symm⟩
  refine ⟨⟨h.ge, kg.blk h.blk (fun e => Blk.ne h.blk hg (by decide) e), own_typ (t := 0) h.yrow kg (ty _ (by decide)), ?_, own_typ (t := 0) h.trow kg (ty _ (by decide)), own_typ (t := 0) h.orow kg (ty _ (by decide))⟩, kg.mono (fun b hb => by subst hb; exact .inr (.inr (.inl (by rw [hv]; rfl))))⟩
  have r2 := (r.stored (i * 13 + j) u).1
  have e2 : (flatO S.l).set (i * 13 + j) u = flatO (S.l.set i y) := flat_set ordL 13 ordL_len S.l i j _ y u (nthO_some hi) hj hy
  rw [e2] at r2
  rw [hv]
  simp only [List.length_set]
  exact r2

/-- a record more is told -/
def RS.tell (S : RS) (kind : Int) (t : Tr) : RS := { S with told := S.told ++ [⟨0, kind, t⟩] }

theorem StV.toldGrown {w1 w2 : World} {base sb n H g cap : Nat} {S : RS} {m : SM} {r : Rc} (h : StV w1 base sb S m) (hn : S.told.length = n) (hown : w2.ownsRow base 62 9 (.slice (some ⟨g, 0, none⟩) (n + 1) cap) (n + 1) (flatR S.told ++ r.cells)) (hgrow : w1.grownBy w2 m.ov.ownBlock) (hat : m.ov.ownBlock = some g ∨ g = H) (hH : w1.heap.size = H) :
    StN base sb { S with told := S.told ++ [r] } m w1 (w2.setCell ⟨sb, 5, none⟩ (.slice (some ⟨g, 0, none⟩) (n + 1) cap)) := by
  have hne : m.ov.ownBlock ≠ some sb := fun e => by obtain ⟨cs, hc⟩ := own_blk h.orow e; exact Blk.ne hc h.blk (by decide) rfl
  have hb2 : Blk w2 sb _ 207 := (hgrow.block sb h.blk.lt (fun e => hne e.symm)).trans h.blk
  have k1 : Chg (fun b => m.ov.ownBlock = some b) w1 w2 := (Chg.refl _ w1).grown hgrow (fun k e => .inl e)
  have k2 : Chg (fun b => b = sb) w2 (w2.setCell ⟨sb, 5, none⟩ (.slice (some ⟨g, 0, none⟩) (n + 1) cap)) := (Chg.refl (fun b => b = sb) w2).setCell (p := ⟨sb, 5, none⟩) (.inl rfl) _
  have keep2 : ∀ {e size n' : Nat} {v : Value} {xs : List Value}, w1.ownsRow base e size v n' xs → e ≠ 62 → e ≠ 207 → (w2.setCell ⟨sb, 5, none⟩ (.slice (some ⟨g, 0, none⟩) (n + 1) cap)).ownsRow base e size v n' xs := fun {e size n' v xs} r h1 h2 => by
    have r1 := own_typ (t := 0) r k1 (fun b hb => by obtain ⟨cs, hc⟩ := own_blk h.orow hb; exact ⟨cs, _, hc, fun x => h1 x.symm⟩)
    exact own_typ (t := 0) r1 k2 (fun b hb => by subst hb; exact ⟨_, _, hb2, fun x => h2 x.symm⟩)
  refine ⟨{ m with ov := .slice (some ⟨g, 0, none⟩) (n + 1) cap }, ⟨h.ge, hb2.set 5 _, keep2 h.yrow (by decide) (by decide), keep2 h.lrow (by decide) (by decide), keep2 h.trow (by decide) (by decide), ?_⟩, ?_, ?_⟩
  · simp only [List.length_append, List.length_cons, List.length_nil, hn, flatR_snoc]
    exact own_typ (t := 0) hown k2 (fun b hb => by subst hb; exact ⟨_, _, hb2, by decide⟩)
  · rintro b (rfl | hb | hb | hb | hb)
    · exact .inl (.inl rfl)
    · exact .inl (.inr (.inl hb))
    · exact .inl (.inr (.inr (.inl hb)))
    · exact .inl (.inr (.inr (.inr (.inl hb))))
    · simp only [Value.ownBlock, Option.some.injEq] at hb
      rcases hat with e | e
      · exact .inl (.inr (.inr (.inr (.inr (by rw [e, hb])))))
      · right; omega
  · exact (k1.mono (fun b hb => .inr (.inr (.inr (.inr hb))))).trans (k2.mono (fun b hb => .inl hb))

set_option maxRecDepth 100000 in
set_option maxHeartbeats 1000000 in
theorem rtells_any (base sb : Nat) (S : RS) (m : SM) (kind : Int) (t : Tr) (w : World) (h : StV w base sb S m) (hlen : S.told.length < 1000000000) :
    Calls Tryz.prog 205 #[.pointer (some ⟨sb, 0, none⟩), .int .i64 kind, t.val] w fun e w' => e = .returned (.tuple #[]) ∧ StN base sb (S.tell kind t) m w w' := by
  obtain ⟨n, hn⟩ : ∃ n, S.told.length = n := ⟨_, rfl⟩
  have hprow := h.orow
  rw [hn] at hprow hlen
  obtain ⟨pa, pcap, hpv⟩ := row_slice hprow
  rw [hpv] at hprow
  have hv := h.blk
  have v5 : w.cell? ⟨sb, 5, none⟩ = some (.slice pa n pcap) := (hv.cell 5).trans (by rw [← hpv]; rfl)
  have lv := hv.lt
  have hge := h.ge
  have hmx : n + 1 ≤ maxLen := by unfold maxLen; omega
  have hm24 : (n + 1) * 80 ≤ 140737488355328 := by omega
  obtain ⟨i0, z0, hi0, hz0, hz1, hz2, hz3⟩ := info96_parts
  obtain ⟨tn, ts, tp, tq, tbu, tse, td⟩ := t
  simp only [Tr.val]
  obtain ⟨w0, hw0⟩ : ∃ w0, w0 = w.alloc (.cells #[.int .i64 tn, .string ts, .int .i64 tp, .int .i64 tq, .int .i64 tbu, .int .i64 tse, .int .i64 td] 56) := ⟨_, rfl⟩
  have k0 : Chg Non w w0 := by rw [hw0]; exact (Chg.refl Non w).alloc _
  have b0 : Blk w0 w.heap.size #[.int .i64 tn, .string ts, .int .i64 tp, .int .i64 tq, .int .i64 tbu, .int .i64 tse, .int .i64 td] 56 := by rw [hw0]; exact Blk.new _ _ _
  have hs0 : w0.heap.size = w.heap.size + 1 := by rw [hw0]; simp
  have hrow0 := own_kept hprow k0 (fun _ _ x => x)
  have v5' : w0.cell? ⟨sb, 5, none⟩ = some (.slice pa n pcap) := k0.cell v5 (fun x => x)
  have t0 : w0.cell? ⟨w.heap.size, 0, none⟩ = some (.int .i64 tn) := b0.cell 0
  have t1 : w0.cell? ⟨w.heap.size, 1, none⟩ = some (.string ts) := b0.cell 1
  have t2 : w0.cell? ⟨w.heap.size, 2, none⟩ = some (.int .i64 tp) := b0.cell 2
  have t3 : w0.cell? ⟨w.heap.size, 3, none⟩ = some (.int .i64 tq) := b0.cell 3
  have t4 : w0.cell? ⟨w.heap.size, 4, none⟩ = some (.int .i64 tbu) := b0.cell 4
  have t5 : w0.cell? ⟨w.heap.size, 5, none⟩ = some (.int .i64 tse) := b0.cell 5
  have t6 : w0.cell? ⟨w.heap.size, 6, none⟩ = some (.int .i64 td) := b0.cell 6
  obtain ⟨w1, hw1⟩ : ∃ w1, w1 = (w0.alloc (.cells #[.int .i64 0, .int .i64 kind, .int .i64 tn, .string ts, .int .i64 tp, .int .i64 tq, .int .i64 tbu, .int .i64 tse, .int .i64 td] 62)).drew := ⟨_, rfl⟩
  have k1 : Chg Non w0 w1 := by rw [hw1]; exact ((Chg.refl Non w0).alloc _).drew
  have hrow1 := own_kept hrow0 k1 (fun _ _ x => x)
  have hsz1 : w1.heap.size = w.heap.size + 2 := by rw [hw1]; simp [hs0]
  have hnews : ∀ j u, (Rc.cells ⟨0, kind, ⟨tn, ts, tp, tq, tbu, tse, td⟩⟩)[j]? = some u → w1.cell? (Addr.add ⟨w.heap.size + 1, 0, none⟩ j) = some u := by
    intro j u hj
    have := news9 w0 ⟨0, kind, ⟨tn, ts, tp, tq, tbu, tse, td⟩⟩ j u hj
    rw [hs0] at this
    rw [hw1]
    exact this
  have hone : ∀ u ∈ Rc.cells ⟨0, kind, ⟨tn, ts, tp, tq, tbu, tse, td⟩⟩, u.oneCell' = true := by simp [Rc.cells, Value.oneCell']
  have h1 := (h.kept0 k0).kept0 k1
  have HR := hide hrow1
  have HNW := hide hnews
  have HON := hide hone
  have HSZ := hide hsz1
  have HL1 := hide h1
  have HPV := hide hpv
  have HW := hide hw0
  have HW1 := hide hw1
  have hne : w.heap.size ≠ sb := by omega
  have HK := hide (k0.trans k1)
  have HN := hide hn
  clear hprow h hpv hrow0 hw0 b0 v5 hrow1 hnews hone hw1 hsz1 h1 k0 k1 hn hv
  go_enter Tryz.func205, Tryz.ntmps205
  go_wp2
  rw [← unhide HW]
  go_region_law (first | (rw [← unhide HW1]; refine step_append_lies _ rfl (.tmp 10) (.tmp 14) 34 rfl base 62 i0 z0 9 80 Tryz.underlying34 hi0 hz0 hz1 hz2 hz3 (by decide) (.slice pa n pcap) n (flatR S.told) rfl (unhide HR) ⟨w.heap.size + 1, 0, none⟩ 1 1 (Rc.cells ⟨0, kind, ⟨tn, ts, tp, tq, tbu, tse, td⟩⟩) rfl rfl (unhide HNW) (unhide HON) (by omega) hmx hm24 (by have := unhide HSZ; omega) (w.heap.size + 2) (unhide HSZ) ?_; intro g cap w2 hown2 hgrow hat hlt; have HO2 := hide hown2; have HG2 := hide hgrow; have HA2 := hide hat; have b2 : Blk w2 sb _ 207 := (hgrow.block sb (unhide HL1).blk.lt (fun e => by obtain ⟨cs, hc⟩ := own_blk (unhide HL1).orow (b := sb) (by rw [unhide HPV]; exact e.symm); exact Blk.ne hc (unhide HL1).blk (by decide) rfl)).trans (unhide HL1).blk; have v52 := b2.cell 5; have f52 := b2.frozen 5; simp at v52; clear hown2 hgrow hat b2))
  all_goals
    go_end0
    have a1 := (unhide HL1).toldGrown (r := ⟨0, kind, ⟨tn, ts, tp, tq, tbu, tse, td⟩⟩) (unhide HN) (unhide HO2) (by rw [unhide HPV]; exact unhide HG2) (by rw [unhide HPV]; exact unhide HA2) (unhide HSZ)
    obtain ⟨m', a1, a2, a3⟩ := a1
    exact ⟨rfl, m', a1, fun b hb => (a2 b hb).imp_right (fun h => by have := unhide HSZ; omega), (unhide HK).of_non.trans a3⟩

end Go.Proofs.YtigaphnafnpfnaaGreatDoor

