import Derived.Test.YtigaphnafnpfnaaGreatDoorGE4
import Derived.Test.YtigaphnafnpfnaaGreatDoorGA2
import Derived.Shelf.SlSortCmp.Kit1
import Derived.Shelf.GgSortFunc.Compose
/- the orders of one side, ranked; what the sort asks and gives -/
set_option linter.unusedVariables false
set_option linter.unusedSimpArgs false
namespace Go.Proofs.YtigaphnafnpfnaaGreatDoor
open Go.RowKit Go.Sort

theorem lessB_iff (a b : Ord) : lessB a b = true ↔ ((if a.side = 0 then b.price < a.price else a.price < b.price) ∨ (a.price = b.price ∧ a.place < b.place)) := by
  unfold lessB rankI orI cmpI
  simp only [decide_eq_true_eq]
  by_cases hs : a.side = 0 <;> simp only [hs, if_true, if_false] <;> (repeat' split) <;> omega

theorem lessB_iff' (a b : Ord) : lessB a b = false ↔ ¬ ((if a.side = 0 then b.price < a.price else a.price < b.price) ∨ (a.price = b.price ∧ a.place < b.place)) := by
  rw [← lessB_iff, Bool.not_eq_true]

theorem pre_side (om : Nat → Ord) (s : Int) : Pre (ltB om) (fun x => (om x).side = s) := by
  refine ⟨?_, ?_, ?_⟩
  · intro x y hx hy h
    unfold ltB at *
    rw [lessB_iff] at h
    rw [lessB_iff']
    rw [hx] at h
    rw [hy]
    split at h <;> simp_all <;> omega
  · intro x y z hx hy hz h1 h2
    unfold ltB at *
    rw [lessB_iff'] at *
    rw [hy] at h1
    rw [hz] at h2
    rw [hz]
    by_cases hs : s = 0 <;> simp only [hs, if_true, if_false] at * <;> omega
  · intro x hx
    unfold ltB at *
    rw [lessB_iff']
    split <;> omega

/-- an order of side s that lies in w -/
def Liv (w : World) (om : Nat → Ord) (s : Int) (x : Nat) : Prop := (∃ ix, IsOrd w x (om x) ix) ∧ (om x).side = s

def encL {w : World} {om : Nat → Ord} {s : Int} (x : { x : Nat // Liv w om s x }) : Value := ptrV x.1
def cfL {w : World} {om : Nat → Ord} {s : Int} (x y : { x : Nat // Liv w om s x }) : Int := rankI (om x.1) (om y.1)

theorem ltOf_L {w : World} {om : Nat → Ord} {s : Int} (x y : { x : Nat // Liv w om s x }) : ltOf cfL x y = ltB om x.1 y.1 := rfl

theorem swo_L (w : World) (om : Nat → Ord) (s : Int) : SWO (ltOf (@cfL w om s)) := by
  have pre := pre_side om s
  refine ⟨fun x => ?_, fun x y z h1 h2 => ?_, fun x y z h1 h2 => ?_⟩
  · rw [ltOf_L]; exact pre.irr _ x.2.2
  · rw [ltOf_L] at *
    cases h : ltB om x.1 z.1 with
    | true => rfl
    | false =>
      have h3 := pre.trans y.1 z.1 x.1 y.2.2 z.2.2 x.2.2 (pre.asym _ _ y.2.2 z.2.2 h2) h
      rw [h3] at h1
      exact h1
  · rw [ltOf_L] at *
    exact pre.trans z.1 y.1 x.1 z.2.2 y.2.2 x.2.2 h2 h1


theorem heap_sortWorld {α : Type} [Inhabited α] (enc : α → Value) (w : World) (blk off m : Nat) (dk : Array α) (os : Array Obj) {k : Nat} (hk : k < w.heap.size) (hne : k ≠ blk) : (sortWorld enc w blk off m dk os).heap[k]? = w.heap[k]? := by
  unfold sortWorld putRow mapBlock grow
  simp only [Array.getElem?_append, Array.size_modify, Array.getElem?_modify]
  rw [if_pos (by simpa [Sort.ahead] using hk), if_neg (fun e => hne e.symm)]
  rfl

theorem chg_sortWorld {α : Type} [Inhabited α] (enc : α → Value) (w : World) (blk off m : Nat) (dk : Array α) (os : Array Obj) : Chg (fun x => x = blk) w (sortWorld enc w blk off m dk os) :=
  ⟨rfl, rfl, rfl, by simp [sortWorld, putRow, mapBlock, grow, Sort.ahead], fun k hk hne => heap_sortWorld enc w blk off m dk os hk hne⟩

theorem cmp_L {w : World} {om : Nat → Ord} {s : Int} [Inhabited { x : Nat // Liv w om s x }] {blk size : Nat} {cs : Array Value} (hb : Blk w blk cs 114) : CmpLays1 Tryz.prog 83 #[] (@encL w om s) cfL blk 0 size w := by
  intro m os dk hs x y
  obtain ⟨ix, hx⟩ := x.2.1
  obtain ⟨iy, hy⟩ := y.2.1
  have k := chg_sortWorld (@encL w om s) w blk 0 m dk os
  exact byRank_g x.1 y.1 _ _ ix iy _ (k.blk hx (Blk.ne hx hb (by decide))) (k.blk hy (Blk.ne hy hb (by decide)))

/-- what the sort has left -/
theorem sorted_L {w : World} {om : Nat → Ord} {s : Int} [Inhabited { x : Nat // Liv w om s x }] {blk len n : Nat} {f : Nat → Nat} {cs : Array Value} (hb : Blk w blk cs 114) {d d' : Array { x : Nat // Liv w om s x }} {os : Array Obj}
    (hd : d.size = len) (hdf : ∀ j, j < len → (d[j]!).1 = f j) (hH : Holds encL w blk 0 d) (hp : PermIn 0 d.size d d') (hs : SortedIn (ltOf cfL) 0 d.size d') :
    ∃ ys : List Nat, ys.Perm (upto f len) ∧ ys.Pairwise (fun a b => ltB om b a = false) ∧ (∀ j, j < len → (sortWorld encL w blk 0 n d' os).cell? ⟨blk, j, none⟩ = some (ptrV (ys.getD j 0))) := by
  have hd' : d'.size = len := hp.1.trans hd
  refine ⟨d'.toList.map Subtype.val, ?_, ?_, ?_⟩
  · have h3 := hp.2.2
    rw [hd, Array.extract_eq_self_of_le (by omega), Array.extract_eq_self_of_le (by omega)] at h3
    have h4 := h3.map Subtype.val
    have : d.toList.map Subtype.val = upto f len := by
      apply List.ext_getElem
      · simp [upto, hd]
      · intro i h1 h2
        have hi : i < len := by simpa [upto] using h2
        have := hdf i hi
        rw [getElem!_pos d i (by omega)] at this
        simp [upto, this]
    rw [← this]
    exact h4
  · rw [List.pairwise_map, List.pairwise_iff_getElem]
    intro i j hi hj hij
    have hi' : i < d'.size := by simpa using hi
    have hj' : j < d'.size := by simpa using hj
    have := hs i j (Nat.zero_le _) hij (by omega)
    rw [getElem!_pos d' i hi', getElem!_pos d' j hj', ltOf_L] at this
    simpa using this
  · intro j hj
    have := (holds_sortWorld encL w blk 0 n d d' os hb.lt hH hp.1 j (by omega)).1
    rw [Nat.zero_add, getElem!_pos d' j (by omega)] at this
    rw [this]
    have hj' : j < d'.toList.length := by simpa [hd'] using hj
    simp [encL, List.getD_eq_getElem?_getD, hj', hd', hj]

#print axioms sorted_L
end Go.Proofs.YtigaphnafnpfnaaGreatDoor

