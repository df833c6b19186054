import Derived.Test.YtigaphnafnpfnaaGreatDoorPVM2
import Derived.Test.YtigaphnafnpfnaaGreatDoorPVF1
import Derived.Test.YtigaphnafnpfnaaGreatDoorPVC3
import Derived.Test.YtigaphnafnpfnaaGreatDoorPVM1
import Derived.Deep.LoopGhost
import Derived.Deep.QuietTactic
import Derived.BigQuiet
set_option linter.unusedVariables false
set_option linter.unusedSimpArgs false
/- The market's run, to its end. Without memory. -/
namespace Go.Proofs.YtigaphnafnpfnaaGreatDoor
open Go.RowKit

theorem set_place {l : List Ord} {k : Nat} {o : Ord} (h : o.place = (nthO l k).place) (a : Nat) : (nthO (l.set k o) a).place = (nthO l a).place := by
  by_cases e : k = a
  · subst e
    by_cases hk : k < l.length
    · rw [nthO_set_same hk, h]
    · rw [List.set_eq_of_length_le (by omega)]
  · rw [nthO_set_ne e]

theorem step_place (c : RC) (i k a : Nat) : (nthO (c.step i k).S.l a).place = (nthO c.S.l a).place := by
  unfold RC.step
  split
  · simp only [RS.setO]
    exact set_place (by rfl) a
  · simp only [RS.trades, RS.fills, RS.setO]
    rw [set_place, set_place]
    · rfl
    · rw [set_place]
      rfl

theorem SimR.ends {p : Nat → Nat} {oc i s : Nat} {sym : ByteArray} {R0 : List Rc} {tr0 f0 M : Int} (hM : M ≤ 1000000000000000) (hs : s < 2) (htr0 : 0 ≤ tr0) : ∀ (f : Nat) (st : MS) (c : RC), SimR p oc i s sym R0 tr0 f0 st c → Inv oc s st → HeapOK (ltB st.om) (st.B.n s) (st.B.h s) → (∀ x, (x = oc ∨ MemS st s x) → Qo M (st.om x)) → mu oc s st ≤ f → st.tr + f < 1000000000 →
    ∃ c', Ends i f c c' ∧ SimR p oc i s sym R0 tr0 f0 (matchF oc s f st) c' ∧ c'.S.sy = c.S.sy ∧ c'.S.places = c.S.places ∧ c'.S.l.length = c.S.l.length ∧ (∀ a, (nthO c'.S.l a).place = (nthO c.S.l a).place) ∧ c'.S.t.length ≤ c.S.t.length + f ∧ c'.S.told.length ≤ c.S.told.length + f := by
  intro f
  induction f with
  | zero =>
    intro st c h iv hh hq hmu htr
    refine ⟨c, Ends.stop 0 c (.inr ?_), h, rfl, rfl, rfl, fun _ => rfl, by omega, by omega⟩
    have hn : st.B.n s = 0 := by unfold mu at hmu; omega
    have hb := h.sim.best hs hh
    unfold firstG at hb
    rw [if_pos hn] at hb
    show bestR c.S.l (askOf (nthO c.S.l i)) = none
    simpa using hb
  | succ f ih =>
    intro st c h iv hh hq hmu htr
    have hb := h.sim.best hs hh
    rw [matchF]
    by_cases hst : stops oc s st = true
    · rw [if_pos hst]
      refine ⟨c, Ends.stop _ c ?_, h, rfl, rfl, rfl, fun _ => rfl, by omega, by omega⟩
      unfold stops at hst
      simp only [Bool.or_eq_true, Bool.not_eq_true', decide_eq_false_iff_not] at hst
      rcases hst with e | e
      · left; rw [h.left]; exact e
      · right
        have : firstG st.B st.om (askOf (st.om oc)) s = none := by simpa using e
        rw [this] at hb
        show bestR c.S.l (askOf (nthO c.S.l i)) = none
        simpa using hb
    · rw [if_neg hst]
      obtain ⟨hn, hp⟩ := stops_false hst
      have hso : ∃ k, c.best i = some k := by
        cases hbk : c.best i with
        | some k => exact ⟨k, rfl⟩
        | none =>
          have e : bestR c.S.l (askOf (nthO c.S.l i)) = none := hbk
          rw [e] at hb
          exfalso
          apply hst
          unfold stops
          rw [← hb]
          simp
      obtain ⟨k, hk⟩ := hso
      have h1 := h.step hM hs iv hh hq hp hk (by omega) htr0
      have r1 := mstep_run hM iv hn hp hh hq
      obtain ⟨iv', hmu', _⟩ := mstep_ok iv hn hp
      have htr' : (mstep oc s st).tr ≤ st.tr + 1 := by
        have a := h1.tr
        have b := h.tr
        have := step_t c i k
        unfold MS.tr
        rw [a, b]
        omega
      obtain ⟨c', he, hs', sy, pl, ln, pc, tl, ol⟩ := ih (mstep oc s st) (c.step i k) h1 r1.inv r1.heap (fun x hx => r1.q x (hx.imp_right (r1.mem x))) (by omega) (by omega)
      have q1 : (c.step i k).S.sy = c.S.sy ∧ (c.step i k).S.places = c.S.places := by
        unfold RC.step
        split
        · exact ⟨rfl, rfl⟩
        · exact ⟨rfl, rfl⟩
      exact ⟨c', Ends.go f k c c' (by rw [h.left]; exact hp) hk he, hs', sy.trans q1.1, pl.trans q1.2, ln.trans (step_len c i k), fun a => (pc a).trans (step_place c i k a), by have := (step_t c i k).1; omega, by have := (step_t c i k).2; omega⟩

end Go.Proofs.YtigaphnafnpfnaaGreatDoor

/- Cancel -/
set_option linter.unusedVariables false
set_option linter.unusedSimpArgs false
namespace Go.Proofs.YtigaphnafnpfnaaGreatDoor
open Go.RowKit Go.Maps
attribute [local go_sem ↓] Go.wp_at_zero Go.wp_at_succ

set_option maxRecDepth 100000 in
set_option maxHeartbeats 4000000 in
theorem cancel_unknown (bv bm bo : Nat) (V : Ven) (id : Int) (w : World) (R : Rep w bv bm bo V) (hid : (Lit.int .i64 id).wf = true) (hn : V.oid id = none) :
    Calls Tryz.prog 37 #[.pointer (some ⟨bv, 0, none⟩), .int .i64 id] w fun e w' => e = .returned (.int .i64 6) ∧ Chg Non w w' := by
  have L2 := R.lookO hid
  rw [hn] at L2
  simp only [ptrO] at L2
  have v1 : w.cell? ⟨bv, 1, none⟩ = some (.map (some bo)) := R.ven.cell 1
  clear R hn
  go_enter Tryz.func37, Tryz.ntmps37
  go_wp2
  go_ret
  exact ⟨rfl, by repeat (first | exact Chg.refl _ _ | refine Chg.drewN ?_ _ | refine Chg.drew ?_)⟩

set_option maxRecDepth 100000 in
set_option maxHeartbeats 4000000 in
theorem cancel_closed (bv bm bo b : Nat) (V : Ven) (id : Int) (w : World) (R : Rep w bv bm bo V) (hid : (Lit.int .i64 id).wf = true) (hn : V.oid id = some b) (h0 : (V.om b).opn = 0) :
    Calls Tryz.prog 37 #[.pointer (some ⟨bv, 0, none⟩), .int .i64 id] w fun e w' => e = .returned (.int .i64 10) ∧ Chg Non w w' := by
  have L2 := R.lookO hid
  rw [hn] at L2
  simp only [ptrO] at L2
  obtain ⟨_, ix, ho⟩ := R.ords id b hn
  have o8 : w.cell? ⟨b, 8, none⟩ = some (.int .i64 0) := by rw [← h0]; exact ho.cell 8
  have v1 : w.cell? ⟨bv, 1, none⟩ = some (.map (some bo)) := R.ven.cell 1
  clear R hn ho h0
  go_enter Tryz.func37, Tryz.ntmps37
  go_wp2
  go_ret
  exact ⟨rfl, by repeat (first | exact Chg.refl _ _ | refine Chg.drewN ?_ _ | refine Chg.drew ?_)⟩

#print axioms cancel_closed
end Go.Proofs.YtigaphnafnpfnaaGreatDoor

/- Book -/
set_option linter.unusedVariables false
set_option linter.unusedSimpArgs false
namespace Go.Proofs.YtigaphnafnpfnaaGreatDoor
open Go.RowKit Go.Maps
attribute [local go_sem ↓] Go.wp_at_zero Go.wp_at_succ

theorem Rep.lookBq {w : World} {bv bm bo : Nat} {V : Ven} (R : Rep w bv bm bo V) {i : Nat} (hi : i < V.nb) (hlen : (V.B i).sym.size ≤ maxLen) (q : Nat) :
    (Instr.lookup 94 (.map (some bm)) (.string (V.B i).sym) false).run Tryz.prog (w.drewN q) = .ok (.pointer (some ⟨V.bk i, 0, none⟩)) (w.drewN q) :=
  (R.kept0 ((Chg.refl Non w).drewN q)).lookB hi hlen

set_option maxRecDepth 100000 in
set_option maxHeartbeats 4000000 in
theorem book_ok (bv bm bo i s : Nat) (V : Ven) (w : World) (R : Rep w bv bm bo V) (hi : i < V.nb) (hs : s < 2) (hlen : (V.B i).sym.size ≤ maxLen) (hside : ∀ j, j < (V.B i).n s → (V.om ((V.B i).h s j)).side = (s : Int)) :
    Calls Tryz.prog 25 #[.pointer (some ⟨bv, 0, none⟩), .string (V.B i).sym, .int .i64 s] w fun e w' => ∃ v, e = .returned (.tuple #[v, .int .i64 0]) ∧ LevelsPost V.om ((V.B i).n s) ((V.B i).h s) w v w' := by
  have L1 := R.lookB hi hlen
  have v0 : w.cell? ⟨bv, 0, none⟩ = some (.map (some bm)) := R.ven.cell 0
  have hsb : sideB (s : Int) = true := by
    have : s = 0 ∨ s = 1 := by omega
    rcases this with rfl | rfl <;> rfl
  have HL := hide (levels_any (V.bk i) s (V.B i) V.om w (R.book i hi) hs hside)
  clear R hside
  go_enter Tryz.func25, Tryz.ntmps25
  go_wp2_with (first | (go_at_call 47; refine (isSide_any _ _).mono ?_; rintro e w' ⟨rfl, rfl⟩) | (go_at_call 48; refine (unhide HL).mono ?_; rintro e w2 ⟨v, rfl, hp⟩))
  go_ret2
  exact ⟨v, rfl, hp⟩

#print axioms book_ok
end Go.Proofs.YtigaphnafnpfnaaGreatDoor

set_option linter.unusedVariables false
set_option linter.unusedSimpArgs false
/- Names: the program's runes, the document's bytes. -/
namespace Go.Proofs.YtigaphnafnpfnaaGreatDoor
open Go.RowKit
attribute [local go_sem ↓] Go.wp_at_zero Go.wp_at_succ

def byt (s : ByteArray) (i : Nat) : Nat := (s.get! i).toNat
theorem byt_lt (s : ByteArray) (i : Nat) : byt s i < 256 := (s.get! i).toNat_lt
/-- the character that begins at a place, as the document reads it: its number, its bytes -/
def nxt (s : ByteArray) (i : Nat) : Nat × Nat :=
  if byt s i < 128 then (byt s i, 1) else if i + 1 < s.size ∧ byt s i = 206 ∧ 145 ≤ byt s (i + 1) ∧ byt s (i + 1) ≤ 169 then (768 + byt s (i + 1), 2) else (0, 1)
def upB (c : Nat) : Bool := (decide (65 ≤ c) && decide (c ≤ 90)) || (decide (48 ≤ c) && decide (c ≤ 57)) || (decide (913 ≤ c) && decide (c ≤ 937) && !(c == 930))

theorem nxt_pos (s : ByteArray) (i : Nat) : 1 ≤ (nxt s i).2 ∧ (nxt s i).2 ≤ 2 ∧ (i < s.size → i + (nxt s i).2 ≤ s.size) ∧ (nxt s i).1 ≤ 937 := by
  have := byt_lt s i
  unfold nxt
  split
  · simp; omega
  · split <;> simp <;> omega

theorem dec_up {s : ByteArray} {i : Nat} (hi : i < s.size) (h : upB (nxt s i).1 = true) : Utf8.decode s i = nxt s i := by
  have h0 := byt_lt s i
  unfold nxt at h ⊢
  split at h
  · rename_i h1
    rw [if_pos h1]
    unfold Utf8.decode
    have : (s.get! (i + 0)).toNat = byt s i := rfl
    simp only [this]
    rw [if_pos (by omega)]
  · split at h
    · rename_i h1 h2
      obtain ⟨a1, a2, a3, a4⟩ := h2
      rw [if_neg h1, if_pos ⟨a1, a2, a3, a4⟩]
      unfold Utf8.decode
      have e0 : (s.get! (i + 0)).toNat = byt s i := rfl
      have e1 : (s.get! (i + 1)).toNat = byt s (i + 1) := rfl
      simp only [e0, e1]
      rw [if_neg (by omega), if_pos (by simp [a1, a2]; omega)]
      rw [if_pos (by omega)]
      rw [a2]
      ext <;> simp <;> omega
    · simp [upB] at h

theorem dec_not {s : ByteArray} {i : Nat} (hi : i < s.size) (h : upB (nxt s i).1 = false) : upB (Utf8.decode s i).1 = false := by
  have h0 := byt_lt s i
  have h1' := byt_lt s (i + 1)
  unfold Utf8.decode
  have e0 : (s.get! (i + 0)).toNat = byt s i := rfl
  have e1 : (s.get! (i + 1)).toNat = byt s (i + 1) := rfl
  simp only [e0, e1]
  have err : upB Utf8.runeError = false := by decide
  unfold nxt at h
  split at h
  · rename_i h1
    rw [if_pos (by omega)]
    exact h
  · rename_i h1
    rw [if_neg (by omega)]
    split
    · rename_i h2
      simp at h2
      split
      · rename_i h3
        split at h
        · rename_i h4
          obtain ⟨a1, a2, a3, a4⟩ := h4
          rw [a2]
          have : 206 % 32 * 64 + byt s (i + 1) % 64 = 768 + byt s (i + 1) := by omega
          simp only [this]
          exact h
        · rename_i h4
          simp only [upB, Bool.or_eq_false_iff, Bool.and_eq_false_iff, decide_eq_false_iff_not, Bool.not_eq_false', beq_iff_eq]
          refine ⟨⟨?_, ?_⟩, ?_⟩
          · right; omega
          · right; omega
          · left
            by_cases h5 : 913 ≤ byt s i % 32 * 64 + byt s (i + 1) % 64
            · right
              intro h6
              exact h4 ⟨h2.2.1, by omega, by omega, by omega⟩
            · left; exact h5
      · exact err
    · split
      · split
        · rename_i h3
          simp at h3
          simp only [upB, Bool.or_eq_false_iff, Bool.and_eq_false_iff, decide_eq_false_iff_not, Bool.not_eq_false', beq_iff_eq]
          refine ⟨⟨?_, ?_⟩, ?_⟩
          · right; omega
          · right; omega
          · left; right; omega
        · exact err
      · split
        · split
          · rename_i h3
            simp at h3
            simp only [upB, Bool.or_eq_false_iff, Bool.and_eq_false_iff, decide_eq_false_iff_not, Bool.not_eq_false', beq_iff_eq]
            refine ⟨⟨?_, ?_⟩, ?_⟩
            · right; omega
            · right; omega
            · left; right; omega
          · exact err
        · exact err

/-- the document's name, from a place on, with so many characters ahead of it -/
def nameF (s : ByteArray) : Nat → Nat → Nat → Bool
  | 0, _, _ => false
  | f + 1, i, n => if i < s.size then (if upB (nxt s i).1 then nameF s f (i + (nxt s i).2) (n + 1) else false) else (decide (1 ≤ n) && decide (n ≤ 6))
def nameB (s : ByteArray) : Bool := nameF s (s.size + 1) 0 0

theorem nameF_long (s : ByteArray) : ∀ f i n, 7 ≤ n → nameF s f i n = false
  | 0, _, _, _ => rfl
  | f + 1, i, n, h => by
    unfold nameF
    split
    · split
      · exact nameF_long s f _ _ (by omega)
      · rfl
    · simp; omega

end Go.Proofs.YtigaphnafnpfnaaGreatDoor

/- takeBack -/
set_option linter.unusedVariables false
set_option linter.unusedSimpArgs false
namespace Go.Proofs.YtigaphnafnpfnaaGreatDoor
open Go.RowKit Go.Maps
attribute [local go_sem ↓] Go.wp_at_zero Go.wp_at_succ

theorem leave_memk {B : Bk} {om : Nat → Ord} {s i : Nat} (hinj : Inj (B.n s) (B.h s)) (hi : i < B.n s) : ∀ k, k < (B.leave om s i).n s → ∃ k', k' < B.n s ∧ (B.leave om s i).h s k = B.h s k' ∧ B.h s k' ≠ B.h s i := by
  intro k hk
  simp only [Bk.leave, upd_same] at hk ⊢
  have h0 : Inj (B.n s - 1 + 1) (B.h s) := by rw [show B.n s - 1 + 1 = B.n s by omega]; exact hinj
  obtain ⟨⟨k', hk', e⟩, hne⟩ := (mem_remove (lt := ltB om) (B.h s) i (n := B.n s - 1) (by omega) (h0.remove (by omega)) _).1 ⟨k, hk, rfl⟩
  exact ⟨k', by omega, e, by rw [← e]; exact hne⟩

/-- note, and which blocks have turned: those of the acts -/
theorem noteA (bv bm bo : Nat) (G : Lg) (lm : Lm) (ds : List Back) (fv : Array Value) (w : World) (hL : IsLog w bv bm bo G lm) (hna : 0 < G.na) (hna2 : G.na ≤ 3000000) (hnf : G.nt.length + fv.size < 1000000000) (hc : 0 < fv.size) (hds : ds.length = fv.size) (hone : ∀ u ∈ fv.toList, u.oneCell' = true) :
    Calls Tryz.prog 53 #[.pointer (some ⟨bv, 0, none⟩), .slice (some ⟨w.heap.size, 0, none⟩) fv.size fv.size] (w.alloc (.cells fv 1)) fun e w' => e = .returned (.tuple #[]) ∧
      ∃ lm', IsLog w' bv bm bo (G.noted ds) lm' ∧ (∀ b, lm'.F b → lm.F b ∨ w.heap.size ≤ b) ∧ Chg (fun b => ActF lm.av lm.ac b) w w' ∧ (∀ b, ActF lm'.av lm'.ac b → ActF lm.av lm.ac b ∨ w.heap.size ≤ b) := by
  have k1 : Chg Non w (w.alloc (.cells fv 1)) := (Chg.refl Non w).alloc _
  refine (note_act bv bm bo G lm ds fv.toList w.heap.size fv.size fv.size (w.alloc (.cells fv 1)) (hL.kept0 k1) hna hna2 hnf hc hds (by simp) (World.news_of_block (Blk.new w fv 1)) hone).mono ?_
  rintro e w' ⟨rfl, lm', h1, h2, h3, h4⟩
  exact ⟨rfl, lm', h1, fun b hb => (h2 b hb).imp_right (fun h => Nat.le_trans k1.size h), k1.of_non.trans h3, fun b hb => (h4 b hb).imp_right (fun h => Nat.le_trans k1.size h)⟩

theorem note1A (bv bm bo : Nat) (G : Lg) (lm : Lm) (d : Back) (fn : Fn) (cp : Array Value) (w : World) (hL : IsLog w bv bm bo G lm) (hna : 0 < G.na) (hna2 : G.na ≤ 3000000) (hnf : G.nt.length + 1 < 1000000000) :
    Calls Tryz.prog 53 #[.pointer (some ⟨bv, 0, none⟩), .slice (some ⟨w.heap.size, 0, none⟩) 1 1] (w.alloc (.cells #[.func fn #[] cp] 1)) fun e w' => e = .returned (.tuple #[]) ∧
      ∃ lm', IsLog w' bv bm bo (G.noted [d]) lm' ∧ (∀ b, lm'.F b → lm.F b ∨ w.heap.size ≤ b) ∧ Chg (fun b => ActF lm.av lm.ac b) w w' ∧ (∀ b, ActF lm'.av lm'.ac b → ActF lm.av lm.ac b ∨ w.heap.size ≤ b) :=
  noteA bv bm bo G lm [d] #[.func fn #[] cp] w hL hna hna2 hnf (by simp) rfl (by simp [Value.oneCell'])

theorem note2A (bv bm bo : Nat) (G : Lg) (lm : Lm) (d d2 : Back) (fn fn2 : Fn) (cp cp2 : Array Value) (w : World) (hL : IsLog w bv bm bo G lm) (hna : 0 < G.na) (hna2 : G.na ≤ 3000000) (hnf : G.nt.length + 2 < 1000000000) :
    Calls Tryz.prog 53 #[.pointer (some ⟨bv, 0, none⟩), .slice (some ⟨w.heap.size, 0, none⟩) 2 2] (w.alloc (.cells #[.func fn #[] cp, .func fn2 #[] cp2] 1)) fun e w' => e = .returned (.tuple #[]) ∧
      ∃ lm', IsLog w' bv bm bo (G.noted [d, d2]) lm' ∧ (∀ b, lm'.F b → lm.F b ∨ w.heap.size ≤ b) ∧ Chg (fun b => ActF lm.av lm.ac b) w w' ∧ (∀ b, ActF lm'.av lm'.ac b → ActF lm.av lm.ac b ∨ w.heap.size ≤ b) :=
  noteA bv bm bo G lm [d, d2] #[.func fn #[] cp, .func fn2 #[] cp2] w hL hna hna2 hnf (by simp) rfl (by simp [Value.oneCell'])

theorem noted_noted (G : Lg) (a b : List Back) : (G.noted a).noted b = G.noted (a ++ b) := by simp [Lg.noted]

/-- what is noted, and where -/
def Noted (bv bm bo : Nat) (G : Lg) (lm : Lm) (ds : List Back) (w w' : World) : Prop :=
  ∃ lm', IsLog w' bv bm bo (G.noted ds) lm' ∧ (∀ x, lm'.F x → lm.F x ∨ w.heap.size ≤ x)

set_option maxHeartbeats 4000000 in
set_option maxRecDepth 100000 in
/-- what the trade had is cancelled -/
theorem takeBack_cancel (bv bm bo i b s : Nat) (V : Ven) (id q : Int) (again : Bool) (w : World) (R : Rep w bv bm bo V) (hi : i < V.nb) (hid : V.oid id = some b) (hsym : (V.om b).sym = (V.B i).sym) (hlen : (V.B i).sym.size ≤ maxLen) (hs : s < 2) (hside : (V.om b).side = 1 - (s : Int))
    (hcond : again = false ∨ restsB (V.om b).kind = false ∨ (firstG (V.B i) V.om (askOf (V.om b)) s).isSome = true) (hna : 0 < V.lg.na) (hna2 : V.lg.na ≤ 3000000) (hnt : V.lg.nt.length + 3 < 1000000000) :
    Calls Tryz.prog 75 #[.pointer (some ⟨bv, 0, none⟩), .pointer (some ⟨b, 0, none⟩), .int .i64 q, .bool again] w fun e w' => e = .returned (.tuple #[]) ∧
      Mk w' (V.bk i) (V.B i) (upd V.om b (cancelF (V.om b) q)) (fun x => ∃ id, V.oid id = some x) ∧ Noted bv bm bo V.lg V.lm [.now b (V.om b)] w w' ∧ Chg (fun x => x = b ∨ ActF V.lm.av V.lm.ac x) w w' := by
  obtain ⟨-, ix, ho⟩ := R.ords id b hid
  have L1 : ∀ n, (Instr.lookup 94 (.map (some bm)) (.string (V.B i).sym) false).run Tryz.prog (w.drewN n) = .ok (.pointer (some ⟨V.bk i, 0, none⟩)) (w.drewN n) := fun n => (R.kept0 ((Chg.refl Non w).drewN n)).lookB hi hlen
  have L1d : (Instr.lookup 94 (.map (some bm)) (.string (V.B i).sym) false).run Tryz.prog w.drew = .ok (.pointer (some ⟨V.bk i, 0, none⟩)) w.drew := L1 1
  have v0 : w.cell? ⟨bv, 0, none⟩ = some (.map (some bm)) := R.ven.cell 0
  have o2 : w.cell? ⟨b, 2, none⟩ = some (.string (V.B i).sym) := by rw [← hsym]; exact ho.cell 2
  have HC := hide (fun (W : World) (k : Chg Non w W) => cancelFilled_mk (V.bk i) b (V.B i) V.om (fun x => ∃ id, V.oid id = some x) q W ((R.kept0 k).mkt hi) ⟨id, hid⟩)
  have HF := hide (fun (W : World) (k : Chg Non w W) => firstGood_any (V.bk i) (V.B i) V.om (askOf (V.om b)) s W ((R.kept0 k).book i hi) hs hside)
  have HO : Hid (∀ W, Chg Non w W → IsOrd W b (V.om b) ix) := fun W k => k.blk ho (fun x => x)
  have HN : Hid (∀ W wq fn cp, Chg Non w W → Chg (fun x => x = b) W wq → Mk wq (V.bk i) (V.B i) (upd V.om b (cancelF (V.om b) q)) (fun x => ∃ id, V.oid id = some x) →
      Calls Tryz.prog 53 #[.pointer (some ⟨bv, 0, none⟩), .slice (some ⟨wq.heap.size, 0, none⟩) 1 1] (wq.alloc (.cells #[.func fn #[] cp] 1)) fun e w' => e = .returned (.tuple #[]) ∧ Mk w' (V.bk i) (V.B i) (upd V.om b (cancelF (V.om b) q)) (fun x => ∃ id, V.oid id = some x) ∧ Noted bv bm bo V.lg V.lm [.now b (V.om b)] w w' ∧ Chg (fun x => x = b ∨ ActF V.lm.av V.lm.ac x) w w') := by
    intro W wq fn cp kW kq m
    have h1 := (R.log.kept0 kW).keptT kq (fun x h => by subst h; exact ⟨_, 116, kW.blk ho (fun x => x), .inr (.inl rfl)⟩)
    refine (note1A bv bm bo V.lg V.lm (.now b (V.om b)) fn cp wq h1 hna hna2 (by omega)).mono ?_
    rintro e w' ⟨rfl, lm', a1, a2, a3, -⟩
    have kk := kW.of_non.trans kq
    exact ⟨rfl, m.keptLog h1 (a3.mono (fun _ h => .inr (.inr (.inr (.inr h))))), ⟨lm', a1, fun x hx => (a2 x hx).imp_right (fun h => Nat.le_trans kk.size h)⟩, (kk.mono (fun _ h => .inl h)).trans (a3.mono (fun _ h => .inr h))⟩
  have HCo := hide hcond
  clear R hid hsym hside hcond ho hs
  go_enter Tryz.func75, Tryz.ntmps75
  go_wp2
  go_quiet (fail)
  have hq : Chg Non w (w.drewN nq) := (Chg.refl Non w).drewN _
  obtain ⟨w1, hw1⟩ : ∃ w1, w1 = w.drewN nq := ⟨_, rfl⟩
  rw [← hw1] at hq ⊢
  clear hw1 L1 L1d v0 o2
  cases again with
  | false =>
    go_wp2_with fail
    refine (unhide HC w1 hq).mono ?_
    rintro e w2 ⟨fnq, cpq, rfl, -, m2, k2⟩
    go_wp2_with fail
    refine (unhide HN _ w2 fnq cpq hq k2 m2).mono ?_
    rintro e wz ⟨rfl, rz⟩
    go_wp2
    try simp only [Exit.inBlock, Exit.then]
    refine bodyPost_ret (results_none rfl _ _ _) rfl ?_
    exact ⟨rfl, rz⟩
  | true =>
    go_wp2_with fail
    refine (rests_any b _ ix w1 (unhide HO w1 hq)).mono ?_
    rintro e w1' ⟨rfl, hww⟩
    rw [hww]
    clear hww w1'
    cases hr : restsB (V.om b).kind with
    | false =>
      clear hr
      go_wp2_with fail
      refine (unhide HC _ hq).mono ?_
      rintro e w2 ⟨fnq, cpq, rfl, -, m2, k2⟩
      go_wp2_with fail
      refine (unhide HN _ w2 fnq cpq hq k2 m2).mono ?_
      rintro e wz ⟨rfl, rz⟩
      go_wp2
      try simp only [Exit.inBlock, Exit.then]
      refine bodyPost_ret (results_none rfl _ _ _) rfl ?_
      exact ⟨rfl, rz⟩
    | true =>
      have hf : (firstG (V.B i) V.om (askOf (V.om b)) s).isSome = true := by
        rcases unhide HCo with h | h | h
        · simp at h
        · rw [hr] at h; simp at h
        · exact h
      obtain ⟨f, hf'⟩ := Option.isSome_iff_exists.1 hf
      have HF' := hide hf'
      clear hr hf hf'
      have hoc := unhide HO _ hq
      have cc0 : w1.cell? ⟨b, 0, none⟩ = some (.int .i64 (V.om b).id) := hoc.cell 0
      have cc1 : w1.cell? ⟨b, 1, none⟩ = some (.int .i64 (V.om b).owner) := hoc.cell 1
      have cc2 : w1.cell? ⟨b, 2, none⟩ = some (.string (V.om b).sym) := hoc.cell 2
      have cc3 : w1.cell? ⟨b, 3, none⟩ = some (.int .i64 (V.om b).side) := hoc.cell 3
      have cc4 : w1.cell? ⟨b, 4, none⟩ = some (.int .i64 (V.om b).kind) := hoc.cell 4
      have cc5 : w1.cell? ⟨b, 5, none⟩ = some (.int .i64 (V.om b).price) := hoc.cell 5
      have cc6 : w1.cell? ⟨b, 6, none⟩ = some (.int .i64 (V.om b).qty) := hoc.cell 6
      clear hoc
      go_wp2_with fail
      refine (unhide HF _ hq).mono ?_
      rintro e w2 ⟨rfl, k2⟩
      rw [unhide HF']
      simp only [ptrO]
      clear cc0 cc1 cc2 cc3 cc4 cc5 cc6
      go_wp2_with fail
      refine (unhide HC _ (hq.trans k2)).mono ?_
      rintro e w3 ⟨fnq, cpq, rfl, -, m3, k3⟩
      go_wp2_with fail
      refine (unhide HN _ w3 fnq cpq (hq.trans k2) k3 m3).mono ?_
      rintro e wz ⟨rfl, rz⟩
      go_wp2
      try simp only [Exit.inBlock, Exit.then]
      refine bodyPost_ret (results_none rfl _ _ _) rfl ?_
      exact ⟨rfl, rz⟩

/-- the orders behind it, where what the trade had comes again -/
def againOm (V : Ven) (i b : Nat) (q : Int) : Nat → Ord := upd (upd V.om b (openF (V.om b) q)) b { openF (V.om b) q with place := wrap64 ((V.B i).places + 1) }

set_option maxHeartbeats 4000000 in
set_option maxRecDepth 100000 in
theorem takeBack_new (bv bm bo i b s t : Nat) (V : Ven) (id q : Int) (w : World) (R : Rep w bv bm bo V) (hi : i < V.nb) (hid : V.oid id = some b) (hsym : (V.om b).sym = (V.B i).sym) (hlen : (V.B i).sym.size ≤ maxLen) (hs : s < 2) (ht : t = 1 - s) (hside : (V.om b).side = (t : Int))
    (hr : restsB (V.om b).kind = true) (hf : firstG (V.B i) V.om (askOf (V.om b)) s = none) (h0 : ¬ 0 < (V.om b).opn) (hnew : ∀ x, x < 2 → ∀ k, k < (V.B i).n x → (V.B i).h x k ≠ b) (hn : (V.B i).n t < 1000) (hna : 0 < V.lg.na) (hna2 : V.lg.na ≤ 3000000) (hnt : V.lg.nt.length + 3 < 1000000000) :
    Calls Tryz.prog 75 #[.pointer (some ⟨bv, 0, none⟩), .pointer (some ⟨b, 0, none⟩), .int .i64 q, .bool true] w fun e w' => e = .returned (.tuple #[]) ∧
      ∃ g cap', Mk w' (V.bk i) ((V.B i).rest (againOm V i b q) t b g cap') (againOm V i b q) (fun x => ∃ id, V.oid id = some x) ∧ Noted bv bm bo V.lg V.lm [.now b (V.om b), .rested b (V.om b).place] w w' ∧ Chg (fun x => (x = V.bk i ∨ x = b ∨ SdB (V.B i) t x) ∨ ActF V.lm.av V.lm.ac x) w w' ∧ (adB ((V.B i).sl t) = some g ∨ w.heap.size ≤ g) := by
  obtain ⟨-, ix, ho⟩ := R.ords id b hid
  have L1 : ∀ n, (Instr.lookup 94 (.map (some bm)) (.string (V.B i).sym) false).run Tryz.prog (w.drewN n) = .ok (.pointer (some ⟨V.bk i, 0, none⟩)) (w.drewN n) := fun n => (R.kept0 ((Chg.refl Non w).drewN n)).lookB hi hlen
  have L1d : (Instr.lookup 94 (.map (some bm)) (.string (V.B i).sym) false).run Tryz.prog w.drew = .ok (.pointer (some ⟨V.bk i, 0, none⟩)) w.drew := L1 1
  have v0 : w.cell? ⟨bv, 0, none⟩ = some (.map (some bm)) := R.ven.cell 0
  have o2 : w.cell? ⟨b, 2, none⟩ = some (.string (V.B i).sym) := by rw [← hsym]; exact ho.cell 2
  have HC := hide (fun (W : World) (k : Chg Non w W) => openFilled_mk (V.bk i) b (V.B i) V.om (fun x => ∃ id, V.oid id = some x) q W ((R.kept0 k).mkt hi) ⟨id, hid⟩)
  have HF := hide (fun (W : World) (k : Chg Non w W) => firstGood_any (V.bk i) (V.B i) V.om (askOf (V.om b)) s W ((R.kept0 k).book i hi) hs (by rw [show (askOf (V.om b)).side = (V.om b).side from rfl, hside, ht]; omega))
  have HO : Hid (∀ W, Chg Non w W → IsOrd W b (V.om b) ix) := fun W k => k.blk ho (fun x => x)
  have HRest : Hid (∀ W, Mk W (V.bk i) (V.B i) (upd V.om b (openF (V.om b) q)) (fun x => ∃ id, V.oid id = some x) → Calls Tryz.prog 122 #[.pointer (some ⟨V.bk i, 0, none⟩), .pointer (some ⟨b, 0, none⟩)] W fun e w' => ∃ fn cp, e = .returned (.func fn #[] cp) ∧ IsRestF w' (V.bk i) b (V.om b).place W.heap.size fn cp ∧
      ∃ g cap', Mk w' (V.bk i) ((V.B i).rest (againOm V i b q) t b g cap') (againOm V i b q) (fun x => ∃ id, V.oid id = some x) ∧ Chg (fun x => x = V.bk i ∨ x = b ∨ SdB (V.B i) t x) W w' ∧ (adB ((V.B i).sl t) = some g ∨ W.heap.size ≤ g)) := by
    intro W m
    obtain ⟨ix', ho'⟩ := m.ords b ⟨id, hid⟩
    refine (rest_fn (V.bk i) b t (V.B i) _ ix' W m.book ho' (by omega) (by rw [upd_same]; exact hside) hnew hn).mono ?_
    rintro e w' ⟨fn, cp, rfl, hcl, g, cap', hb, k, hg⟩
    rw [upd_same] at hb hcl
    exact ⟨fn, cp, rfl, hcl, g, cap', m.rest (by omega) ⟨id, hid⟩ (fun x hx => by unfold againOm; rw [upd_other _ _ hx]) hb k, k, hg⟩
  have HN : Hid (∀ W w3 w4 fn3 cp3 fn4 cp4 g cap', Chg Non w W → Chg (fun x => x = b) W w3 → Mk w3 (V.bk i) (V.B i) (upd V.om b (openF (V.om b) q)) (fun x => ∃ id, V.oid id = some x) → Mk w4 (V.bk i) ((V.B i).rest (againOm V i b q) t b g cap') (againOm V i b q) (fun x => ∃ id, V.oid id = some x) → Chg (fun x => x = V.bk i ∨ x = b ∨ SdB (V.B i) t x) w3 w4 → (adB ((V.B i).sl t) = some g ∨ w3.heap.size ≤ g) →
      Calls Tryz.prog 53 #[.pointer (some ⟨bv, 0, none⟩), .slice (some ⟨w4.heap.size, 0, none⟩) 2 2] (w4.alloc (.cells #[.func fn3 #[] cp3, .func fn4 #[] cp4] 1)) fun e w' => e = .returned (.tuple #[]) ∧
        ∃ g cap', Mk w' (V.bk i) ((V.B i).rest (againOm V i b q) t b g cap') (againOm V i b q) (fun x => ∃ id, V.oid id = some x) ∧ Noted bv bm bo V.lg V.lm [.now b (V.om b), .rested b (V.om b).place] w w' ∧ Chg (fun x => (x = V.bk i ∨ x = b ∨ SdB (V.B i) t x) ∨ ActF V.lm.av V.lm.ac x) w w' ∧ (adB ((V.B i).sl t) = some g ∨ w.heap.size ≤ g)) := by
    intro W w3 w4 fn3 cp3 fn4 cp4 g cap' kW k3 m3 m4 k4 hg
    have h3 := (R.log.kept0 kW).keptT k3 (fun x h => by subst h; exact ⟨_, 116, kW.blk ho (fun x => x), .inr (.inl rfl)⟩)
    have h4 := h3.keptT k4 (fun x h => m3.typ (by
      rcases h with h | h | h
      · exact .inl h
      · exact .inr (.inl ⟨id, by rw [h]; exact hid⟩)
      · exact .inr (.inr ⟨t, by omega, h⟩)))
    refine (note2A bv bm bo V.lg V.lm (.now b (V.om b)) (.rested b (V.om b).place) fn3 fn4 cp3 cp4 w4 h4 hna hna2 (by omega)).mono ?_
    rintro e w' ⟨rfl, lm', a1, a2, a3, -⟩
    have kk3 := kW.of_non.trans k3
    have kk : Chg (fun x => x = V.bk i ∨ x = b ∨ SdB (V.B i) t x) w w4 := (kk3.mono (fun _ h => .inr (.inl h))).trans k4
    exact ⟨rfl, g, cap', m4.keptLog h4 (a3.mono (fun _ h => .inr (.inr (.inr (.inr h))))), ⟨lm', a1, fun x hx => (a2 x hx).imp_right (fun h => Nat.le_trans kk.size h)⟩, (kk.mono (fun _ h => .inl h)).trans (a3.mono (fun _ h => .inr h)), hg.imp_right (fun h => Nat.le_trans kk3.size h)⟩
  have HF' := hide hf
  have e0 : decide (0 < (V.om b).opn) = false := by simp [h0]
  have HE0 := hide e0
  have HR := hide hr
  clear R hid hsym hside hf ho hs h0 e0 hr hnew hn
  go_enter Tryz.func75, Tryz.ntmps75
  go_wp2
  go_quiet (fail)
  have hq : Chg Non w (w.drewN nq) := (Chg.refl Non w).drewN _
  obtain ⟨w1, hw1⟩ : ∃ w1, w1 = w.drewN nq := ⟨_, rfl⟩
  rw [← hw1] at hq ⊢
  clear hw1 L1 L1d v0 o2
  go_wp2_with fail
  refine (rests_any b _ ix w1 (unhide HO w1 hq)).mono ?_
  rintro e w1' ⟨rfl, hww⟩
  rw [hww]
  clear hww w1'
  rw [unhide HR]
  have hoc := unhide HO _ hq
  have cc0 : w1.cell? ⟨b, 0, none⟩ = some (.int .i64 (V.om b).id) := hoc.cell 0
  have cc1 : w1.cell? ⟨b, 1, none⟩ = some (.int .i64 (V.om b).owner) := hoc.cell 1
  have cc2 : w1.cell? ⟨b, 2, none⟩ = some (.string (V.om b).sym) := hoc.cell 2
  have cc3 : w1.cell? ⟨b, 3, none⟩ = some (.int .i64 (V.om b).side) := hoc.cell 3
  have cc4 : w1.cell? ⟨b, 4, none⟩ = some (.int .i64 (V.om b).kind) := hoc.cell 4
  have cc5 : w1.cell? ⟨b, 5, none⟩ = some (.int .i64 (V.om b).price) := hoc.cell 5
  have cc6 : w1.cell? ⟨b, 6, none⟩ = some (.int .i64 (V.om b).qty) := hoc.cell 6
  clear hoc
  go_wp2_with fail
  refine (unhide HF _ hq).mono ?_
  rintro e w2 ⟨rfl, k2⟩
  rw [unhide HF']
  simp only [ptrO]
  have hq2 := hq.trans k2
  have o8 : w2.cell? ⟨b, 8, none⟩ = some (.int .i64 (V.om b).opn) := (unhide HO _ hq2).cell 8
  have e0 := unhide HE0
  clear cc0 cc1 cc2 cc3 cc4 cc5 cc6
  go_wp2_with fail
  refine (unhide HC _ hq2).mono ?_
  rintro e w3 ⟨fn3, cp3, rfl, -, m3, k3⟩
  clear o8 e0
  go_wp2_with fail
  refine (unhide HRest w3 m3).mono ?_
  rintro e w4 ⟨fn4, cp4, rfl, -, g, cap', m4, k4, hg⟩
  go_wp2_with fail
  refine (unhide HN _ w3 w4 fn3 cp3 fn4 cp4 g cap' hq2 k3 m3 m4 k4 hg).mono ?_
  rintro e wz ⟨rfl, rz⟩
  go_wp2
  go_end0
  exact ⟨rfl, rz⟩

end Go.Proofs.YtigaphnafnpfnaaGreatDoor

set_option linter.unusedVariables false
set_option linter.unusedSimpArgs false
/- venuelaw.sameLevels. -/
namespace Go.Proofs.YtigaphnafnpfnaaGreatDoor
open Go.RowKit
attribute [local go_sem ↓] Go.wp_at_zero Go.wp_at_succ

theorem lev_cell {w : World} {base c : Nat} {a : Option Addr} {ls : List Lvl} (h : w.ownsRow base 93 3 (.slice a ls.length c) ls.length (flat ls)) {i : Nat} {l : Lvl} (hi : ls[i]? = some l) : ∃ g, a = some ⟨g, 0, none⟩ ∧ g < w.heap.size ∧ w.cell? ⟨g, i * 3, none⟩ = some (.int .i64 l.price) ∧ w.cell? ⟨g, i * 3 + 1, none⟩ = some (.int .i64 l.qty) ∧ w.cell? ⟨g, i * 3 + 2, none⟩ = some (.int .i64 l.num) := by
  have hi' := (List.getElem?_eq_some_iff.1 hi).1
  have hl := (List.getElem?_eq_some_iff.1 hi).2
  obtain ⟨g, rfl, _⟩ := row_some h (by omega)
  have key : ∀ j, j < 3 → w.cell? ⟨g, i * 3 + j, none⟩ = (l.cells)[j]? := fun j hj => by
    rw [h.cellAt _ (by omega)]
    have := lvf_at ls i j hi' hj
    rw [hl] at this
    rw [show i * 3 + j = 3 * i + j by omega, this]
  exact ⟨g, rfl, (h.lt g rfl).2, key 0 (by omega), key 1 (by omega), key 2 (by omega)⟩

set_option maxRecDepth 100000 in
set_option maxHeartbeats 4000000 in
theorem same_levels (b1 b2 : Nat) (va vb : Value) (ls : List Lvl) (w : World) (ha : w.ownsRow b1 93 3 va ls.length (flat ls)) (hb : w.ownsRow b2 93 3 vb ls.length (flat ls)) (hl : ls.length ≤ 1000) :
    Calls Tryz.prog 103 #[va, vb] w fun e w' => e = .returned (.bool true) ∧ Chg Non w w' := by
  obtain ⟨a1, c1, rfl⟩ := row_slice ha
  obtain ⟨a2, c2, rfl⟩ := row_slice hb
  have HA : Hid (∀ i l, ls[i]? = some l → ∃ g, a1 = some ⟨g, 0, none⟩ ∧ g < w.heap.size ∧ w.cell? ⟨g, i * 3, none⟩ = some (.int .i64 l.price) ∧ w.cell? ⟨g, i * 3 + 1, none⟩ = some (.int .i64 l.qty) ∧ w.cell? ⟨g, i * 3 + 2, none⟩ = some (.int .i64 l.num)) := fun i l hi => lev_cell ha hi
  have HB : Hid (∀ i l, ls[i]? = some l → ∃ g, a2 = some ⟨g, 0, none⟩ ∧ g < w.heap.size ∧ w.cell? ⟨g, i * 3, none⟩ = some (.int .i64 l.price) ∧ w.cell? ⟨g, i * 3 + 1, none⟩ = some (.int .i64 l.qty) ∧ w.cell? ⟨g, i * 3 + 2, none⟩ = some (.int .i64 l.num)) := fun i l hi => lev_cell hb hi
  obtain ⟨n, hn⟩ : ∃ n, ls.length = n := ⟨_, rfl⟩
  have HN := hide hn
  rw [hn] at hl ⊢
  clear ha hb hn
  go_enter Tryz.func103, Tryz.ntmps103
  go_wp2
  go_loopg [5] n (fun k iv wr => ∃ i q : Nat, iv = .int .i64 (i : Int) ∧ i ≤ n ∧ k = n - i ∧ wr = w.drewN q)
  case atStart => exact ⟨0, 0, rfl, Nat.zero_le _, rfl, rfl⟩
  case round =>
    obtain ⟨i, q, rfl, hi, hgk, rfl⟩ := hrel
    by_cases hlt : i < n
    · obtain ⟨l, hl2⟩ : ∃ l, ls[i]? = some l := ⟨_, List.getElem?_eq_getElem (by rw [unhide HN]; exact hlt)⟩
      obtain ⟨g1, rfl, lg1, x0, x1, x2⟩ := unhide HA i l hl2
      obtain ⟨g2, rfl, lg2, y0, y1, y2⟩ := unhide HB i l hl2
      clear hl2
      go_wp2
      go_quiet (fail)
      go_wp2
      go_roundg (n - (i + 1))
      case measure => omega
      case rel => exact ⟨i + 1, q + nq, by push_cast; rfl, by omega, rfl, by first | rfl | simp⟩
    · obtain rfl : i = n := by omega
      go_wp2
      go_ret
      exact ⟨rfl, (Chg.refl Non w).drewN _⟩

set_option maxHeartbeats 1000000 in
theorem mark_any (wb : Nat) (pv : Value) (ha : Option Addr) (hn hc : Nat) (w : World) (h : Blk w wb #[pv, .slice ha hn hc] 78) (hl : hn ≤ 1000000000) :
    Calls Tryz.prog 143 #[.pointer (some ⟨wb, 0, none⟩)] w fun e w' => e = .returned (.int .i64 (-1000 - (hn : Int))) ∧ w' = w := by
  have v1 : w.cell? ⟨wb, 1, none⟩ = some (.slice ha hn hc) := h.cell 1
  clear h
  go_enter Tryz.func143, Tryz.ntmps143
  go_wp2
  go_ret
  exact ⟨by first | rfl | (congr 2; unfold wrap64; omega) | simp, rfl⟩

end Go.Proofs.YtigaphnafnpfnaaGreatDoor

