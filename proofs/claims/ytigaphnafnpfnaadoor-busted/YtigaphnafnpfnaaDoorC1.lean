import Derived.Test.YtigaphnafnpfnaaDoorB6
set_option linter.unusedVariables false
set_option linter.unusedSimpArgs false
namespace Go.Proofs.YtigaphnafnpfnaaDoor
open Go.RowKit Go.Maps

def ptrElem (v : Value) : Option (DataW Unit × List MemPlace) :=
  match v with
  | .pointer none => some (.nil, [])
  | .pointer (some ⟨b, 0, none⟩) => some (.lit (.int .i64 b), [])
  | _ => none

def ptrD : Option Nat → DataW Unit
  | none => .nil
  | some b => .lit (.int .i64 b)

theorem ptrElem_mk (x : Option Nat) : ptrElem (ptrO x) = some (ptrD x, []) := by cases x <;> rfl

theorem ptrElem_inv {v : Value} {x : Option Nat} {ps : List MemPlace} (h : ptrElem v = some (ptrD x, ps)) : v = ptrO x := by
  unfold ptrElem at h
  split at h
  · cases x
    · rfl
    · simp [ptrD] at h
  · cases x
    · simp [ptrD] at h
    · simp [ptrD] at h
      obtain ⟨h, _⟩ := h
      simp [ptrO, h]
  · simp at h

/-- block b is a map of n pointers: by a key's reading -/
def MapP (w : World) (k : TypeId) (b : Nat) (f : Lit → Option Nat) (n : Nat) : Prop :=
  ∃ D : DataW Unit, w.ownsMap Tryd.prog k ptrElem b n D ∧ Maps.size D = n ∧ (∀ kl, D.atKey kl .nil = ptrD (f kl)) ∧ (∀ kl, Maps.has D kl = (f kl).isSome)

theorem MapP.kept {w w' : World} {k : TypeId} {b : Nat} {f : Lit → Option Nat} {n : Nat} (h : MapP w k b f n) {S : Nat → Prop} (c : Chg S w w') (hS : ¬ S b) : MapP w' k b f n := by
  obtain ⟨D, ⟨es, clock, hb, r⟩, h2⟩ := h
  refine ⟨D, ⟨es, clock, ?_, r⟩, h2⟩
  rw [c.block b (Array.getElem?_eq_some_iff.1 hb).1 hS]
  exact hb

theorem MapP.lt {w : World} {k : TypeId} {b : Nat} {f : Lit → Option Nat} {n : Nat} (h : MapP w k b f n) : b < w.heap.size := by
  obtain ⟨D, h1, _⟩ := h
  exact h1.lt

theorem MapP.ne {w : World} {k : TypeId} {b : Nat} {f : Lit → Option Nat} {n : Nat} (h : MapP w k b f n) {b' : Nat} {c : Array Value} {t : TypeId} (hb : Blk w b' c t) : b ≠ b' := by
  rintro rfl
  obtain ⟨D, ⟨es, clock, h1, _⟩, _⟩ := h
  unfold Blk at hb
  rw [h1] at hb
  simp at hb

theorem zero70 (w : World) : (zeroValue 54).run Tryd.prog w = .ok (.pointer none) w := by kernel_rfl
theorem zero80 (w : World) : (zeroValue 68).run Tryd.prog w = .ok (.pointer none) w := by kernel_rfl
theorem law9 : Keyed Tryd.prog 9 := string_keyed Tryd.underlying9
theorem law3 : Keyed Tryd.prog 3 := int_keyed Tryd.underlying3

theorem MapP.look {w : World} {k t e : TypeId} {b : Nat} {f : Lit → Option Nat} {n : Nat} (h : MapP w k b f n) (K : Keyed Tryd.prog k) (ht : Tryd.prog.underlying t = some (.map k e)) (hz : (zeroValue e).run Tryd.prog w = .ok (.pointer none) w) {key : Value} {kl : Lit} (hkey : keyOf Tryd.prog k key = some kl) :
    (Instr.lookup t (.map (some b)) key false).run Tryd.prog w = .ok (ptrO (f kl)) w := by
  obtain ⟨D, h1, _, h3, _⟩ := h
  obtain ⟨v, ps, hrun, hv⟩ := h1.lookup K ht hz (zd := .nil) (zp := []) rfl hkey
  rw [h3 kl] at hv
  rw [hrun, ptrElem_inv hv]

theorem MapP.len {w : World} {k t e : TypeId} {b : Nat} {f : Lit → Option Nat} {n : Nat} (h : MapP w k b f n) (ht : Tryd.prog.underlying t = some (.map k e)) (ty : TypeId) :
    (Builtin.len_ #[t] ty #[.map (some b)]).run Tryd.prog w = .ok (.int .i64 n) w := by
  obtain ⟨D, h1, h2, _⟩ := h
  rw [h1.len ht ty, h2]

def putF (f : Lit → Option Nat) (kl : Lit) (x : Nat) : Lit → Option Nat := fun k => if k.sameKey kl then some x else f k

theorem MapP.put {w : World} {k t e : TypeId} {b : Nat} {f : Lit → Option Nat} {n x : Nat} (h : MapP w k b f n) (K : Keyed Tryd.prog k) (ht : Tryd.prog.underlying t = some (.map k e)) (hn : n < maxLen) {key : Value} {kl : Lit} (hkey : keyOf Tryd.prog k key = some kl) (hk : WideAt.IsKeyLit kl) (hf : f kl = none) :
    ∃ w', (Instr.mapUpdate t (.map (some b)) key (.pointer (some ⟨x, 0, none⟩))).run Tryd.prog w = .ok () w' ∧ MapP w' k b (putF f kl x) (n + 1) ∧ Chg (fun i => i = b) w w' := by
  obtain ⟨D, h1, h2, h3, h4⟩ := h
  obtain ⟨w', hrun, h5, h6⟩ := h1.update K ht hn hkey (ptrElem_mk (some x))
  refine ⟨w', hrun, ⟨_, h5, ?_, ?_, ?_⟩, ?_⟩
  · rw [size_put (h1.tidy K), h4 kl, hf]
    simp [h2]
  · intro k'
    unfold putF
    by_cases e : k' = kl
    · subst e
      rw [atKey_put_same h1.isMap hk, if_pos (WideAt.sameKey_self hk)]
    · rw [atKey_put_other e, if_neg (fun h => e ((WideAt.sameKey_iff hk).1 h)), h3]
  · intro k'
    unfold putF
    by_cases e : k' = kl
    · subst e
      rw [has_put_same h1.isMap hk, if_pos (WideAt.sameKey_self hk)]; rfl
    · rw [has_put_other e, if_neg (fun h => e ((WideAt.sameKey_iff hk).1 h)), h4]
  · exact ⟨h6.os, h6.tape, h6.output, h6.size, fun i hi hs => h6.block i hi (fun h => hs (by simpa using h))⟩

theorem MapP.made (w : World) (k : TypeId) : MapP (w.alloc (.map #[] 0)) k w.heap.size (fun _ => none) 0 :=
  ⟨.map [], World.ownsMap_made w Tryd.prog k ptrElem, rfl, fun _ => rfl, fun _ => rfl⟩

/- the checks -/
def numB (n : Int) : Bool := decide (1 ≤ n) && decide (n ≤ 1000000)
def ownB' (n : Int) : Bool := decide (0 ≤ n) && decide (n ≤ 9)
def sideB (n : Int) : Bool := (n == 0) || (n == 1)
def kindB (n : Int) : Bool := decide (0 ≤ n) && decide (n ≤ 5)
def priceB (kind p : Int) : Bool := if kind = 5 then p == 0 else numB p

theorem isNumber_any (n : Int) (w : World) : Calls Tryd.prog 28 #[.int .i64 n] w fun e w' => e = .returned (.bool (numB n)) ∧ w' = w := by
  by_cases h1 : 1 ≤ n
  · have HR : Hid (numB n = decide (n ≤ 1000000)) := by show _ = _; simp [numB, h1]
    go_enter Tryd.func28, Tryd.ntmps28
    go_wp2
    go_ret
    exact ⟨by rw [HR.out]; rfl, rfl⟩
  · have HR : Hid (numB n = false) := by show _ = _; simp [numB, h1]
    go_enter Tryd.func28, Tryd.ntmps28
    go_wp2
    go_ret
    exact ⟨by rw [HR.out]; rfl, rfl⟩

theorem isOwner_any (n : Int) (w : World) : Calls Tryd.prog 36 #[.int .i64 n] w fun e w' => e = .returned (.bool (ownB' n)) ∧ w' = w := by
  by_cases h1 : 0 ≤ n
  · have HR : Hid (ownB' n = decide (n ≤ 9)) := by show _ = _; simp [ownB', h1]
    go_enter Tryd.func36, Tryd.ntmps36
    go_wp2
    go_ret
    exact ⟨by rw [HR.out]; rfl, rfl⟩
  · have HR : Hid (ownB' n = false) := by show _ = _; simp [ownB', h1]
    go_enter Tryd.func36, Tryd.ntmps36
    go_wp2
    go_ret
    exact ⟨by rw [HR.out]; rfl, rfl⟩

theorem isSide_any (n : Int) (w : World) : Calls Tryd.prog 37 #[.int .i64 n] w fun e w' => e = .returned (.bool (sideB n)) ∧ w' = w := by
  cases h1 : (n == 0)
  · have HR : Hid (sideB n = (n == 1)) := by show _ = _; simp [sideB, h1]
    go_enter Tryd.func37, Tryd.ntmps37
    go_wp2
    go_ret
    exact ⟨by rw [HR.out]; rfl, rfl⟩
  · have HR : Hid (sideB n = true) := by show _ = _; simp [sideB, h1]
    go_enter Tryd.func37, Tryd.ntmps37
    go_wp2
    go_ret
    exact ⟨by rw [HR.out]; rfl, rfl⟩

theorem isKind_any (n : Int) (w : World) : Calls Tryd.prog 38 #[.int .i64 n] w fun e w' => e = .returned (.bool (kindB n)) ∧ w' = w := by
  by_cases h1 : 0 ≤ n
  · have HR : Hid (kindB n = decide (n ≤ 5)) := by show _ = _; simp [kindB, h1]
    go_enter Tryd.func38, Tryd.ntmps38
    go_wp2
    go_ret
    exact ⟨by rw [HR.out]; rfl, rfl⟩
  · have HR : Hid (kindB n = false) := by show _ = _; simp [kindB, h1]
    go_enter Tryd.func38, Tryd.ntmps38
    go_wp2
    go_ret
    exact ⟨by rw [HR.out]; rfl, rfl⟩

theorem isPriceOf_any (k n : Int) (w : World) : Calls Tryd.prog 39 #[.int .i64 k, .int .i64 n] w fun e w' => e = .returned (.bool (priceB k n)) ∧ w' = w := by
  by_cases h1 : k = 5
  · have e1 : (k == 5) = true := by simp [h1]
    have HR : Hid (priceB k n = (n == 0)) := by show _ = _; simp [priceB, h1]
    clear h1
    go_enter Tryd.func39, Tryd.ntmps39
    go_wp2
    go_ret
    exact ⟨by rw [HR.out]; rfl, rfl⟩
  · have e1 : (k == 5) = false := by simp [h1]
    have HR : Hid (priceB k n = numB n) := by show _ = _; simp [priceB, h1]
    clear h1
    go_enter Tryd.func39, Tryd.ntmps39
    go_wp2_with (go_at_call 28; refine (isNumber_any _ _).mono ?_; rintro e w' ⟨rfl, rfl⟩)
    go_ret
    exact ⟨by rw [HR.out]; rfl, rfl⟩

theorem putF_same {f : Lit → Option Nat} {kl : Lit} {x : Nat} (hk : WideAt.IsKeyLit kl) : putF f kl x kl = some x := by unfold putF; rw [if_pos (WideAt.sameKey_self hk)]
theorem putF_other {f : Lit → Option Nat} {kl k : Lit} {x : Nat} (hk : WideAt.IsKeyLit kl) (h : k ≠ kl) : putF f kl x k = f k := by unfold putF; rw [if_neg (fun e => h ((WideAt.sameKey_iff hk).1 e))]

def newOrd (o : Ask) : Ord := ⟨o.id, o.owner, o.sym, o.side, o.kind, o.price, o.qty, o.qty, o.qty, 0, 0, 0, 0⟩

set_option maxHeartbeats 1000000 in
theorem newOrder_any (o : Ask) (w : World) : Calls Tryd.prog 16 #[o.val] w fun e w' => ∃ b, e = .returned (.pointer (some ⟨b, 0, none⟩)) ∧ w.heap.size ≤ b ∧ IsOrd w' b (newOrd o) 0 ∧ Chg Non w w' := by
  obtain ⟨id, owner, sym, side, kind, price, qty⟩ := o
  simp only [Ask.val]
  go_enter Tryd.func16, Tryd.ntmps16
  go_wp2
  go_ret
  refine ⟨_, rfl, ?_, ?_, ?_⟩
  · simp
  · exact Blk.new1 _ _ _ _
  · exact ((Chg.refl Non w).alloc _).alloc _

end Go.Proofs.YtigaphnafnpfnaaDoor
