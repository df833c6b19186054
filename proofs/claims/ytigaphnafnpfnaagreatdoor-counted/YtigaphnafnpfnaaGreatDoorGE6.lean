import Derived.Test.YtigaphnafnpfnaaGreatDoorGE1
import Derived.Test.YtigaphnafnpfnaaGreatDoorGE5
import Derived.Shelf.SlSortCmp.Whole1
/- slices.SortedFunc(slices.Values(side), byRank) -/
set_option linter.unusedVariables false
set_option linter.unusedSimpArgs false
namespace Go.Proofs.YtigaphnafnpfnaaGreatDoor
open Go.RowKit Go.Sort
attribute [local go_sem ↓] Go.wp_at_zero Go.wp_at_succ

theorem sortFunc_any (blk cap len : Nat) (f : Nat → Nat) (om : Nat → Ord) (s : Int) (w : World) (h0 : 0 < len) (hlen : len ≤ 100000) (hl : ∀ j, j < len → Liv w om s (f j)) (cs : Array Value) (hb : Blk w blk cs 114) (hc : ∀ j, j < len → cs[j]? = some (ptrV (f j))) :
    Calls Tryz.prog 128 #[.slice (some ⟨blk, 0, none⟩) len cap, .func (.func 83) #[] #[]] w fun e w' => e = .returned (.tuple #[]) ∧
      ∃ ys : List Nat, ys.Perm (upto f len) ∧ ys.Pairwise (fun a b => ltB om b a = false) ∧ (∀ j, j < len → w'.cell? ⟨blk, j, none⟩ = some (ptrV (ys.getD j 0))) ∧ Chg (fun x => x = blk) w w' := by
  let inh : Inhabited { x : Nat // Liv w om s x } := ⟨⟨f 0, hl 0 h0⟩⟩
  obtain ⟨d, hd, hdf⟩ : ∃ d : Array { x : Nat // Liv w om s x }, d.size = len ∧ ∀ j, j < len → (d[j]!).1 = f j := by
    refine ⟨Array.ofFn (n := len) (fun j => ⟨f j, hl j j.2⟩), by simp, fun j hj => ?_⟩
    rw [getElem!_pos _ j (by simpa using hj)]
    simp
  have hH : Holds encL w blk 0 d := by
    intro j hj
    rw [hd] at hj
    rw [Nat.zero_add]
    refine ⟨(hb.cell j).trans ((hc j hj).trans ?_), hb.frozen j⟩
    unfold encL
    rw [hdf j hj]
  have eg : ∀ args w, (callFunc 83 args).run Tryz.prog w = .ok (.enter 83 args) w := enters_of Tryz.func83 (by kernel_rfl) rfl
  have hcon := Any.slices_SortFunc sortO (@encL w om s) (fun _ => rfl) cfL (swo_L w om s) 83 #[] blk 0 cap d w eg (cmp_L hb) hH hb.lt (by omega)
  change Calls Tryz.prog 128 _ _ _ at hcon
  rw [hd] at hcon
  refine hcon.mono ?_
  rintro e w' ⟨rfl, d', n, os, hp, hs, rfl⟩
  obtain ⟨ys, h1, h2, h3⟩ := sorted_L (n := n) (os := os) hb hd hdf hH (by rw [hd]; exact hp) (by rw [hd]; exact hs)
  exact ⟨rfl, ys, h1, h2, h3, chg_sortWorld _ _ _ _ _ _ _⟩

/-- v is a new slice of pointers to ys -/
def SliceL (n₀ : Nat) (w : World) (v : Value) (ys : List Nat) : Prop :=
  (v = .slice none 0 0 ∧ ys = []) ∨ ∃ b cap, v = .slice (some ⟨b, 0, none⟩) ys.length cap ∧ n₀ ≤ b ∧ ys.length ≤ cap ∧ ∀ j, j < ys.length → w.cell? ⟨b, j, none⟩ = some (ptrV (ys.getD j 0))

def SortedPost (len : Nat) (f : Nat → Nat) (om : Nat → Ord) (w : World) (v : Value) (w' : World) : Prop :=
  ∃ ys : List Nat, ys.Perm (upto f len) ∧ ys.Pairwise (fun a b => ltB om b a = false) ∧ SliceL w.heap.size w' v ys ∧ Below w.heap.size w w'

theorem sortV (len : Nat) (f : Nat → Nat) (om : Nat → Ord) (s : Int) (w W : World) (v : Value) (hlen : len ≤ 100000) (hl : ∀ j, j < len → Liv w om s (f j)) (hr : W.ownsRow w.heap.size 114 1 v len ((upto f len).map ptrV)) (hn : v = .slice none 0 0 ↔ upto f len = []) (hB : Below w.heap.size w W) :
    Calls Tryz.prog 128 #[v, .func (.func 83) #[] #[]] W fun e w' => e = .returned (.tuple #[]) ∧ SortedPost len f om w v w' := by
  obtain ⟨hr1, ⟨rfl, rfl⟩ | ⟨g, cap, cur, rfl, hg, hb, hcap, hcm, hsz, htk⟩⟩ := hr
  · refine (sortFunc_0 _ W).mono ?_
    rintro e w' ⟨rfl, rfl⟩
    exact ⟨rfl, [], by simp [upto], List.Pairwise.nil, .inl ⟨rfl, rfl⟩, hB⟩
  · have h0 : 0 < len := by
      rcases Nat.eq_zero_or_pos len with h | h
      · subst h
        have := hn.2 (by simp [upto])
        cases this
      · exact h
    have hl' : ∀ j, j < len → Liv W om s (f j) := fun j hj => by
      obtain ⟨⟨ix, ho⟩, hs⟩ := hl j hj
      exact ⟨⟨ix, (hB.block (f j) ho.lt).trans ho⟩, hs⟩
    have hc : ∀ j, j < len → cur[j]? = some (ptrV (f j)) := fun j hj => by
      have h1 : (cur.toList.take (len * 1))[j]? = ((upto f len).map ptrV)[j]? := by rw [htk]
      rw [List.getElem?_take, if_pos (by omega)] at h1
      rw [← Array.getElem?_toList, h1]
      simp [upto, hj]
    refine (sortFunc_any g cap len f om s W h0 hlen hl' cur hb hc).mono ?_
    rintro e w' ⟨rfl, ys, h1, h2, h3, h4⟩
    have hy : ys.length = len := by rw [h1.length_eq, upto_length]
    refine ⟨rfl, ys, h1, h2, .inr ⟨g, cap, by rw [hy], hg, by omega, fun j hj => h3 j (by omega)⟩, ?_⟩
    exact hB.trans (h4.belowOf hB.size (fun k e => by omega))

set_option maxHeartbeats 1000000 in
theorem sortedFunc_any (Bs : Nat) (a : Option Addr) (len cap : Nat) (f : Nat → Nat) (om : Nat → Ord) (s : Int) (hlen : len ≤ 100000) (w : World) (hBs : Bs < w.heap.size)
    (hcB : w.cell? ⟨Bs, 0, none⟩ = some (.slice a len cap)) (hI : Ptrs w.heap.size w a len cap f) (hl : ∀ j, j < len → Liv w om s (f j)) :
    Calls Tryz.prog 81 #[.func (.func 129) #[] #[.pointer (some ⟨Bs, 0, none⟩)], .func (.func 83) #[] #[]] w fun e w' => ∃ v, e = .returned v ∧ SortedPost len f om w v w' := by
  have hcol := collect_any Bs a len cap f hlen w hBs hcB hI
  have hsort := fun (W : World) (v : Value) hr hn hB => sortV len f om s w W v hlen hl hr hn hB
  clear hcB hI hl
  go_enter Tryz.func81, Tryz.ntmps81
  go_wp2_with (first | (go_at_call 127; refine hcol.mono ?_; clear hcol; rintro e w1 ⟨v, rfl, hr, hn, hB⟩; have hs := hsort w1 v hr hn hB; clear hsort hr hn hB) | (go_at_call 128; refine hs.mono ?_; clear hs; rintro e w2 ⟨rfl, hp⟩))
  go_ret
  exact ⟨v, rfl, hp⟩

#print axioms sortedFunc_any
end Go.Proofs.YtigaphnafnpfnaaGreatDoor

