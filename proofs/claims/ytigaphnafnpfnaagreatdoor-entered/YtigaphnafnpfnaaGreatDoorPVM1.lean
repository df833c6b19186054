import Derived.Test.YtigaphnafnpfnaaGreatDoorPVC3
import Derived.Test.YtigaphnafnpfnaaGreatDoorPVB2
import Derived.Test.YtigaphnafnpfnaaGreatDoorPVC4
import Derived.Lib.BufferWrite
import Derived.Lib.UnsafeStr
import Derived.Deep.OwnRows
import Derived.Laws.RangeString
import Derived.LoopN
import Derived.Test.YtigaphnafnpfnaaGreatDoorPVX4
/- What a run of the market keeps: quantities, the heap, who is gone. Without memory. -/
set_option linter.unusedVariables false
set_option linter.unusedSimpArgs false
namespace Go.Proofs.YtigaphnafnpfnaaGreatDoor

/-- what was entered is what became of it -/
structure Qo (M : Int) (o : Ord) : Prop where
  sum : o.entered = o.opn + o.filled + o.canc + o.exp
  o0 : 0 ≤ o.opn
  f0 : 0 ≤ o.filled
  c0 : 0 ≤ o.canc
  e0 : 0 ≤ o.exp
  hi : o.entered ≤ M

theorem Qo.fill {M : Int} {o : Ord} (h : Qo M o) {q : Int} (h1 : 0 ≤ q) (h2 : q ≤ o.opn) (hM : M ≤ 1000000000000000) : Qo M (fillO o q) ∧ (fillO o q).opn = o.opn - q ∧ (fillO o q).filled = o.filled + q := by
  obtain ⟨a, b, c, d, e, f⟩ := h
  have e1 : (fillO o q).opn = o.opn - q := by simp only [fillO]; exact wrap64_id (by omega) (by omega)
  have e2 : (fillO o q).filled = o.filled + q := by simp only [fillO]; exact wrap64_id (by omega) (by omega)
  refine ⟨⟨?_, by rw [e1]; omega, by rw [e2]; omega, d, e, f⟩, e1, e2⟩
  show o.entered = _
  rw [e1, e2, a]
  show _ = o.opn - q + (o.filled + q) + o.canc + o.exp
  omega

theorem Qo.canc {M : Int} {o : Ord} (h : Qo M o) (hM : M ≤ 1000000000000000) : Qo M (cancO o) ∧ (cancO o).opn = 0 ∧ (cancO o).canc = o.canc + o.opn := by
  obtain ⟨a, b, c, d, e, f⟩ := h
  have e2 : (cancO o).canc = o.canc + o.opn := by simp only [cancO]; exact wrap64_id (by omega) (by omega)
  refine ⟨⟨?_, by show (0 : Int) ≤ 0; omega, c, by rw [e2]; omega, e, f⟩, rfl, e2⟩
  show o.entered = _
  rw [e2, a]
  show _ = 0 + o.filled + (o.canc + o.opn) + o.exp
  omega

/-- what stays of an order -/
def Stat (o o' : Ord) : Prop := o'.id = o.id ∧ o'.owner = o.owner ∧ o'.sym = o.sym ∧ o'.side = o.side ∧ o'.kind = o.kind ∧ o'.price = o.price ∧ o'.qty = o.qty ∧ o'.place = o.place ∧ o'.entered = o.entered ∧ o'.exp = o.exp

theorem Stat.refl (o : Ord) : Stat o o := ⟨rfl, rfl, rfl, rfl, rfl, rfl, rfl, rfl, rfl, rfl⟩
theorem Stat.trans {a b c : Ord} (h : Stat a b) (k : Stat b c) : Stat a c := by
  obtain ⟨a1, a2, a3, a4, a5, a6, a7, a8, a9, a10⟩ := h
  obtain ⟨b1, b2, b3, b4, b5, b6, b7, b8, b9, b10⟩ := k
  exact ⟨b1.trans a1, b2.trans a2, b3.trans a3, b4.trans a4, b5.trans a5, b6.trans a6, b7.trans a7, b8.trans a8, b9.trans a9, b10.trans a10⟩
theorem Stat.fill (o : Ord) (q : Int) : Stat o (fillO o q) := ⟨rfl, rfl, rfl, rfl, rfl, rfl, rfl, rfl, rfl, rfl⟩
theorem Stat.canc (o : Ord) : Stat o (cancO o) := ⟨rfl, rfl, rfl, rfl, rfl, rfl, rfl, rfl, rfl, rfl⟩

abbrev MemS (st : MS) (s x : Nat) : Prop := Mem (st.B.n s) (st.B.h s) x

structure Run (oc s : Nat) (M : Int) (st0 st : MS) : Prop where
  q : ∀ x, (x = oc ∨ MemS st0 s x) → Qo M (st.om x)
  mem : ∀ x, MemS st s x → MemS st0 s x
  gone : ∀ x, MemS st0 s x → ¬ MemS st s x → (st.om x).opn = 0
  heap : HeapOK (ltB st.om) (st.B.n s) (st.B.h s)
  far : ∀ x, x ≠ oc → ¬ MemS st0 s x → st.om x = st0.om x
  stat : ∀ x, Stat (st0.om x) (st.om x)
  fil : (st0.om oc).filled ≤ (st.om oc).filled
  trl : st0.tr ≤ st.tr
  eqv : (st.om oc).filled = (st0.om oc).filled ↔ st.tr = st0.tr
  canc : (st.om oc).canc = (st0.om oc).canc
  inv : Inv oc s st

theorem Run.trans {oc s : Nat} {M : Int} {a b c : MS} (h : Run oc s M a b) (k : Run oc s M b c) (iv : Inv oc s a) : Run oc s M a c := by
  have no : ∀ x, MemS a s x → x ≠ oc := fun x ⟨l, hl, e⟩ => by rw [e]; exact (iv.mem l hl).2.2.2
  refine ⟨fun x hx => ?_, fun x hx => h.mem x (k.mem x hx), fun x hx hn => ?_, k.heap, fun x h1 h2 => ?_, fun x => (h.stat x).trans (k.stat x), by have := h.fil; have := k.fil; omega, by have := h.trl; have := k.trl; omega, ?_, k.canc.trans h.canc, k.inv⟩
  · by_cases e : x = oc
    · exact k.q x (.inl e)
    · by_cases hm : MemS b s x
      · exact k.q x (.inr hm)
      · rw [k.far x e hm]; exact h.q x hx
  · by_cases hm : MemS b s x
    · exact k.gone x hm hn
    · rw [k.far x (no x hx) hm]; exact h.gone x hx hm
  · rw [k.far x h1 (fun hm => h2 (h.mem x hm)), h.far x h1 h2]
  · have a1 := h.fil; have a2 := k.fil; have a3 := h.trl; have a4 := k.trl; have a5 := h.eqv; have a6 := k.eqv
    constructor
    · intro e
      have e1 : (b.om oc).filled = (a.om oc).filled := by omega
      have e2 : (c.om oc).filled = (b.om oc).filled := by omega
      rw [a6.1 e2, a5.1 e1]
    · intro e
      have e1 : b.tr = a.tr := by omega
      have e2 : c.tr = b.tr := by omega
      rw [a6.2 e2, a5.2 e1]

theorem leave_iff {B : Bk} {om : Nat → Ord} {s i : Nat} (hinj : Inj (B.n s) (B.h s)) (hi : i < B.n s) (x : Nat) : Mem ((B.leave om s i).n s) ((B.leave om s i).h s) x ↔ Mem (B.n s) (B.h s) x ∧ x ≠ B.h s i := by
  have h0 : Inj (B.n s - 1 + 1) (B.h s) := by rw [show B.n s - 1 + 1 = B.n s by omega]; exact hinj
  have := mem_remove (lt := ltB om) (B.h s) i (n := B.n s - 1) (by omega) (h0.remove (by omega)) x
  rw [show B.n s - 1 + 1 = B.n s by omega] at this
  simp only [Bk.leave, upd_same]
  exact this

theorem leave_heap {B : Bk} {om om' : Nat → Ord} {s i : Nat} (hlt : ltB om' = ltB om) (hside : ∀ k, k < B.n s → (om (B.h s k)).side = (s : Int)) (ok : HeapOK (ltB om) (B.n s) (B.h s)) (hi : i < B.n s) : HeapOK (ltB om') ((B.leave om' s i).n s) ((B.leave om' s i).h s) := by
  simp only [Bk.leave, upd_same]
  rw [hlt]
  refine remove_ok (pre_side om (s : Int)) (B.h s) i (by omega) (fun k hk => hside k (by omega)) ?_
  rw [show B.n s - 1 + 1 = B.n s by omega]
  exact ok

theorem tradeOm_lt {om : Nat → Ord} {oc ow : Nat} (hne : ow ≠ oc) : ltB (tradeOm om oc ow) = ltB om := by
  unfold tradeOm
  simp only
  rw [ltB_upd, ltB_upd]
  · rfl
  · rfl
  · rfl
  · rw [upd_other _ _ hne]; rfl
  · rw [upd_other _ _ hne]; rfl
  · rw [upd_other _ _ hne]; rfl

theorem mstep_run {oc s : Nat} {M : Int} {st : MS} (hM : M ≤ 1000000000000000) (iv : Inv oc s st) (hn : 0 < st.B.n s) (hp : 0 < (st.om oc).opn) (hh : HeapOK (ltB st.om) (st.B.n s) (st.B.h s)) (hq : ∀ x, (x = oc ∨ MemS st s x) → Qo M (st.om x)) : Run oc s M st (mstep oc s st) := by
  have iv' := (mstep_ok iv hn hp).1
  obtain ⟨B, om, lg⟩ := st
  simp only at hn hp hh
  have hr := iv.mem 0 hn
  simp only at hr
  obtain ⟨hs0, hpos, hmax, hne⟩ := hr
  have hrm : MemS ⟨B, om, lg⟩ s (B.h s 0) := ⟨0, hn, rfl⟩
  have hside : ∀ k, k < B.n s → (om (B.h s k)).side = (s : Int) := fun k hk => (iv.mem k hk).1
  have ivi : Inj (B.n s) (B.h s) := iv.inj
  have qr : Qo M (om (B.h s 0)) := hq _ (.inr hrm)
  have qc : Qo M (om oc) := hq _ (.inl rfl)
  unfold mstep at iv' ⊢
  simp only at iv' ⊢
  by_cases ho : (om (B.h s 0)).owner = (om oc).owner
  · rw [if_pos ho] at iv' ⊢
    obtain ⟨c1, c2, c3⟩ := qr.canc hM
    have hoc : upd om (B.h s 0) (cancO (om (B.h s 0))) oc = om oc := upd_other _ _ (fun e => hne e.symm)
    have hlt : ltB (upd om (B.h s 0) (cancO (om (B.h s 0)))) = ltB om := ltB_upd rfl rfl rfl
    refine ⟨fun x hx => ?_, fun x hx => ?_, fun x hx hnx => ?_, ?_, fun x h1 h2 => ?_, fun x => ?_, ?_, Int.le_refl _, ?_, ?_, iv'⟩
    · by_cases e : x = B.h s 0
      · simp only [e, upd_same]; exact c1
      · simp only [upd_other _ _ e]; exact hq x hx
    · exact ((leave_iff ivi hn x).1 hx).1
    · have e : x = B.h s 0 := by
        by_cases e : x = B.h s 0
        · exact e
        · exact absurd ((leave_iff ivi hn x).2 ⟨hx, e⟩) hnx
      simp only [e, upd_same]; exact c2
    · simp only
      have := leave_heap (om' := om) rfl hside hh hn
      rw [hlt]; exact this
    · exact upd_other _ _ (fun e => h2 (e ▸ hrm))
    · simp only
      by_cases e : x = B.h s 0
      · rw [e, upd_same]; exact Stat.canc _
      · rw [upd_other _ _ e]; exact Stat.refl _
    · simp only [hoc]; exact Int.le_refl _
    · exact ⟨fun _ => rfl, fun _ => by simp only [hoc]⟩
    · simp only [hoc]
  · rw [if_neg ho] at iv' ⊢
    obtain ⟨q, hqq⟩ : ∃ q, min (om oc).opn (om (B.h s 0)).opn = q := ⟨_, rfl⟩
    have q0 : 0 < q := by omega
    obtain ⟨c1, c2, c3⟩ := qc.fill (q := q) (by omega) (by omega) hM
    obtain ⟨d1, d2, d3⟩ := qr.fill (q := q) (by omega) (by omega) hM
    have toc : tradeOm om oc (B.h s 0) oc = fillO (om oc) q := by unfold tradeOm; rw [upd_other _ _ (fun e => hne e.symm), upd_same, hqq]
    have tow : tradeOm om oc (B.h s 0) (B.h s 0) = fillO (om (B.h s 0)) q := by unfold tradeOm; rw [upd_same, hqq]
    have tot : ∀ x, x ≠ oc → x ≠ B.h s 0 → tradeOm om oc (B.h s 0) x = om x := fun x h1 h2 => by unfold tradeOm; rw [upd_other _ _ h2, upd_other _ _ h1]
    have hlt := tradeOm_lt (om := om) hne
    have hmem : ∀ x, Mem ((tradeB B om oc (B.h s 0) s).n s) ((tradeB B om oc (B.h s 0) s).h s) x → Mem (B.n s) (B.h s) x := by
      intro x hx
      unfold tradeB at hx
      split at hx
      · exact ((leave_iff ivi hn x).1 hx).1
      · exact hx
    have hgone : ∀ x, Mem (B.n s) (B.h s) x → ¬ Mem ((tradeB B om oc (B.h s 0) s).n s) ((tradeB B om oc (B.h s 0) s).h s) x → (tradeOm om oc (B.h s 0) x).opn = 0 := by
      intro x hx hnx
      unfold tradeB at hnx
      split at hnx
      · rename_i hz
        have e : x = B.h s 0 := by
          by_cases e : x = B.h s 0
          · exact e
          · exact absurd ((leave_iff ivi hn x).2 ⟨hx, e⟩) hnx
        rw [e]; exact hz
      · exact absurd hx hnx
    have hheap : HeapOK (ltB (tradeOm om oc (B.h s 0))) ((tradeB B om oc (B.h s 0) s).n s) ((tradeB B om oc (B.h s 0) s).h s) := by
      unfold tradeB
      split
      · exact leave_heap hlt hside hh hn
      · rw [hlt]; exact hh
    have htr : MS.tr ⟨tradeB B om oc (B.h s 0) s, tradeOm om oc (B.h s 0), (tradeG lg om oc (B.h s 0)).addT (tradeT B om oc (B.h s 0))⟩ = MS.tr ⟨B, om, lg⟩ + 1 := by simp [MS.tr, Lg.addT, Lg.told, Lg.kept, Lg.noted, tradeG_tr]
    refine ⟨fun x hx => ?_, hmem, hgone, hheap, fun x h1 h2 => tot x h1 (fun e => h2 (e ▸ hrm)), fun x => ?_, ?_, ?_, ?_, ?_, iv'⟩
    · simp only
      by_cases e : x = oc
      · rw [e, toc]; exact c1
      · by_cases e2 : x = B.h s 0
        · rw [e2, tow]; exact d1
        · rw [tot x e e2]; exact hq x hx
    · simp only
      by_cases e : x = oc
      · rw [e, toc]; exact Stat.fill _ _
      · by_cases e2 : x = B.h s 0
        · rw [e2, tow]; exact Stat.fill _ _
        · rw [tot x e e2]; exact Stat.refl _
    · simp only [toc]; rw [c3]; omega
    · rw [htr]; omega
    · rw [htr]; simp only [toc]; rw [c3]
      constructor <;> intro h <;> omega
    · simp only [toc]; rfl

theorem matchF_run {oc s : Nat} {M : Int} (hM : M ≤ 1000000000000000) : ∀ (f : Nat) (st : MS), Inv oc s st → HeapOK (ltB st.om) (st.B.n s) (st.B.h s) → (∀ x, (x = oc ∨ MemS st s x) → Qo M (st.om x)) → Run oc s M st (matchF oc s f st) := by
  intro f
  induction f with
  | zero => exact fun st iv hh hq => ⟨hq, fun _ h => h, fun _ h hn => absurd h hn, hh, fun _ _ _ => rfl, fun _ => Stat.refl _, Int.le_refl _, Int.le_refl _, ⟨fun _ => rfl, fun _ => rfl⟩, rfl, iv⟩
  | succ f ih =>
    intro st iv hh hq
    rw [matchF]
    split
    · exact ⟨hq, fun _ h => h, fun _ h hn => absurd h hn, hh, fun _ _ _ => rfl, fun _ => Stat.refl _, Int.le_refl _, Int.le_refl _, ⟨fun _ => rfl, fun _ => rfl⟩, rfl, iv⟩
    · rename_i hst
      obtain ⟨hn, hp⟩ := stops_false hst
      have r1 := mstep_run hM iv hn hp hh hq
      exact r1.trans (ih _ r1.inv r1.heap (fun x hx => r1.q x (hx.imp_right (r1.mem x)))) iv

/-- at the end nothing is good for it any more -/
theorem matchF_stops {oc s : Nat} : ∀ (f : Nat) (st : MS), Inv oc s st → mu oc s st ≤ f → stops oc s (matchF oc s f st) = true := by
  intro f
  induction f with
  | zero =>
    intro st iv hf
    have h0 : st.B.n s = 0 := by unfold mu at hf; omega
    simp [matchF, stops, firstG, h0]
  | succ f ih =>
    intro st iv hf
    rw [matchF]
    by_cases h : stops oc s st = true
    · rw [if_pos h]; exact h
    · rw [if_neg h]
      obtain ⟨hn, hp⟩ := stops_false h
      obtain ⟨iv', hmu, _⟩ := mstep_ok iv hn hp
      exact ih _ iv' (by omega)

end Go.Proofs.YtigaphnafnpfnaaGreatDoor

set_option linter.unusedVariables false
set_option linter.unusedSimpArgs false
namespace Go.Proofs.YtigaphnafnpfnaaGreatDoor
open Go.RowKit Go.Maps Go.Lib
attribute [local go_sem ↓] Go.wp_at_zero Go.wp_at_succ

theorem info5 : (Tryz.prog.info? 5).map (fun i => (i.zero, i.size, i.bytes)) = some (some (.int .u8 0), 1, 1) := by kernel_rfl
theorem cells5 : Tryz.prog.cellsOf 5 = 1 := by kernel_rfl

theorem Blk.setRow {w : World} {b : Nat} {c : Array Value} {t : TypeId} (h : Blk w b c t) (cs : Array Value) : Blk (w.setRow b cs) b cs t := by
  unfold Blk at h ⊢; simp [World.setRow, Array.getElem?_modify, h]

theorem Blk.shape {w : World} {b : Nat} {c : Array Value} {t : TypeId} (h : Blk w b c t) : w.shape? b = some (t, c.size) := by
  unfold Blk at h
  unfold World.shape?
  rw [h]

theorem heap_freeze (w : World) (a : Addr) (n k : Nat) (h : k ≠ a.block) : (w.freeze a n).heap[k]? = w.heap[k]? := by
  unfold World.freeze
  split
  · rfl
  · simp only [Array.getElem?_modify]
    rw [if_neg (by omega)]

theorem Chg.setRow {S : Nat → Prop} {a w : World} (h : Chg S a w) {b : Nat} (hb : S b ∨ a.heap.size ≤ b) (cs : Array Value) : Chg S a (w.setRow b cs) :=
  ⟨h.os, h.tape, h.output, by have := h.size; simpa [World.setRow] using this, fun k hk hs => by
    have hne : k ≠ b := by rintro rfl; rcases hb with hb | hb; exact hs hb; omega
    have : (w.setRow b cs).heap[k]? = w.heap[k]? := by simp only [World.setRow, Array.getElem?_modify]; rw [if_neg (by omega)]
    rw [this]; exact h.block k hk hs⟩

theorem Chg.freeze {S : Nat → Prop} {a w : World} (h : Chg S a w) {p : Addr} (hp : S p.block ∨ a.heap.size ≤ p.block) (n : Nat) : Chg S a (w.freeze p n) := by
  refine ⟨?_, ?_, ?_, ?_, fun k hk hs => ?_⟩
  · unfold World.freeze; split <;> exact h.os
  · unfold World.freeze; split <;> exact h.tape
  · unfold World.freeze; split <;> exact h.output
  · unfold World.freeze; split
    · exact h.size
    · have := h.size; simpa using this
  · rw [heap_freeze _ _ _ _ (by rintro rfl; rcases hp with hp | hp; exact hs hp; omega)]
    exact h.block k hk hs

set_option maxHeartbeats 1000000 in
theorem cloneLite_any (s : ByteArray) (w : World) (hs : s.size ≤ 100000) : Calls Tryz.prog 84 #[.string s] w fun e w' => e = .returned (.string s) ∧ Chg Non w w' := by
  by_cases h0 : s.size = 0
  · have e0 : ((s.size : Int) == 0) = true := by rw [h0]; rfl
    have hse : Hid (s = ByteArray.empty) := by
      show s = _
      exact ByteArray.ext (Array.eq_empty_of_size_eq_zero h0)
    clear h0
    go_enter Tryz.func84, Tryz.ntmps84
    go_wp2
    go_ret
    exact ⟨by rw [unhide hse]; rfl, Chg.refl _ _⟩
  · have e0 : ((s.size : Int) == 0) = false := beq_eq_false_iff_ne.2 (by omega)
    have p0 : 0 < s.size := by omega
    have hmk := run_make_row' (P := Tryz.prog) 98 5 (.int .u8 0) 1 Tryz.underlying98 info5 rfl .i64 .i64 s.size (by omega) (by omega)
    have hbA : Blk (w.alloc (.cells (madeCells #[.int .u8 0] s.size) 5)) w.heap.size (madeCells #[.int .u8 0] s.size) 5 := Blk.new w _ _
    have hcp := fun ty => run_copy_row_string (P := Tryz.prog) (w.alloc (.cells (madeCells #[.int .u8 0] s.size) 5)) 98 9 ty 5 w.heap.size 0 s.size s.size s (madeCells #[.int .u8 0] s.size) 5 Tryz.underlying98 (by kernel_rfl) hbA (Nat.le_refl _) (by rw [size_madeCells]; omega)
    have hl : s.data.toList.length = s.size := by rw [Array.length_toList]; rfl
    obtain ⟨X, hX⟩ : ∃ X, X = (byteCells s.data.toList ++ List.drop s.size (madeCells #[.int .u8 0] s.size).toList).toArray := ⟨_, rfl⟩
    have hbB := hbA.setRow X
    have hXs : X.size = s.size := by rw [hX]; simp [byteCells_length, size_madeCells, hl]
    have hus := fun ty => run_unsafeString_row (P := Tryz.prog) (w := (w.alloc (.cells (madeCells #[.int .u8 0] s.size) 5)).setRow w.heap.size X) 191 3 ty 5 Tryz.underlying191 cells5 w.heap.size X.size (hbB.shape) s.data.toList (by intro e; rw [e] at hl; simp at hl; omega) (by rw [hl, hXs]; omega) (by rw [hl]; omega) (by
      intro j x hj
      refine World.news_of_block hbB j _ ?_
      have hj' : j < s.data.toList.length := (List.getElem?_eq_some_iff.1 hj).1
      rw [hX]
      simp only [List.toList_toArray]
      rw [List.getElem?_append_left (by rw [byteCells_length]; exact hj')]
      simp only [byteCells, List.getElem?_map, hj, Option.map_some])
    have hfin : (⟨s.data.toList.toArray⟩ : ByteArray) = s := by simp
    rw [hl, hfin, hX] at hus
    clear hbB hbA hXs hX h0 hl hfin
    go_enter Tryz.func84, Tryz.ntmps84
    go_wp2
    go_ret
    exact ⟨rfl, (((Chg.refl Non w).alloc _).setRow (.inr (Nat.le_refl _)) _).freeze (.inr (Nat.le_refl _)) _⟩

theorem clone_any (s : ByteArray) (w : World) (hs : s.size ≤ 100000) : Calls Tryz.prog 49 #[.string s] w fun e w' => e = .returned (.string s) ∧ Chg Non w w' := by
  go_enter Tryz.func49, Tryz.ntmps49
  go_wp2_with fail
  refine (cloneLite_any s w hs).mono ?_
  rintro e w' ⟨rfl, k⟩
  go_wp2
  go_ret
  exact ⟨rfl, k⟩

end Go.Proofs.YtigaphnafnpfnaaGreatDoor

set_option linter.unusedVariables false
set_option linter.unusedSimpArgs false
namespace Go.Proofs.YtigaphnafnpfnaaGreatDoor
open Go.RowKit Go.Maps Go.Lib
attribute [local go_sem ↓] Go.wp_at_zero Go.wp_at_succ

def zero12 : Array Value := #[.int .i64 0, .int .i64 0, .string ⟨#[]⟩, .int .i64 0, .int .i64 0, .int .i64 0, .int .i64 0, .int .i64 0, .int .i64 0, .int .i64 0, .int .i64 0, .int .i64 0]

theorem res11 (tmps : Array Value) (H : Nat) (w : World) (x : Int) (c0 c1 c3 c4 c5 c6 c7 c8 c9 c10 c11 : Int) (c2 : ByteArray) (ht : tmps.getD 4 undef = .pointer (some ⟨H, 0, none⟩)) (hu : tmps.getD 5 undef = .int .i64 x)
    (hb : Blk w H #[.int .i64 c0, .int .i64 c1, .string c2, .int .i64 c3, .int .i64 c4, .int .i64 c5, .int .i64 c6, .int .i64 c7, .int .i64 c8, .int .i64 c9, .int .i64 c10, .int .i64 c11] 54) :
    (results Tryz.f26 tmps).run Tryz.prog w = .ok (.tuple #[.agg #[.int .i64 c0, .int .i64 c1, .string c2, .int .i64 c3, .int .i64 c4, .int .i64 c5, .int .i64 c6, .int .i64 c7, .int .i64 c8, .int .i64 c9, .int .i64 c10, .int .i64 c11], .int .i64 x]) w := by
  have k0 : w.cell? ⟨H, 0, none⟩ = some (.int .i64 c0) := hb.cell 0
  have k1 : w.cell? ⟨H, 1, none⟩ = some (.int .i64 c1) := hb.cell 1
  have k2 : w.cell? ⟨H, 2, none⟩ = some (.string c2) := hb.cell 2
  have k3 : w.cell? ⟨H, 3, none⟩ = some (.int .i64 c3) := hb.cell 3
  have k4 : w.cell? ⟨H, 4, none⟩ = some (.int .i64 c4) := hb.cell 4
  have k5 : w.cell? ⟨H, 5, none⟩ = some (.int .i64 c5) := hb.cell 5
  have k6 : w.cell? ⟨H, 6, none⟩ = some (.int .i64 c6) := hb.cell 6
  have k7 : w.cell? ⟨H, 7, none⟩ = some (.int .i64 c7) := hb.cell 7
  have k8 : w.cell? ⟨H, 8, none⟩ = some (.int .i64 c8) := hb.cell 8
  have k9 : w.cell? ⟨H, 9, none⟩ = some (.int .i64 c9) := hb.cell 9
  have k10 : w.cell? ⟨H, 10, none⟩ = some (.int .i64 c10) := hb.cell 10
  have k11 : w.cell? ⟨H, 11, none⟩ = some (.int .i64 c11) := hb.cell 11
  simp only [Array.getD_eq_getD_getElem?] at ht hu
  simp [results, Tryz.results26, go_sem, ht, hu, k0, k1, k2, k3, k4, k5, k6, k7, k8, k9, k10, k11]

theorem set12 {w : World} {H : Nat} (hr : Blk w H zero12 54) (v0 v1 v2 v3 v4 v5 v6 v7 v8 v9 v10 v11 : Value) : Blk ((((((((((((w.setCell ⟨H, 0, none⟩ v0).setCell ⟨H, 1, none⟩ v1).setCell ⟨H, 2, none⟩ v2).setCell ⟨H, 3, none⟩ v3).setCell ⟨H, 4, none⟩ v4).setCell ⟨H, 5, none⟩ v5).setCell ⟨H, 6, none⟩ v6).setCell ⟨H, 7, none⟩ v7).setCell ⟨H, 8, none⟩ v8).setCell ⟨H, 9, none⟩ v9).setCell ⟨H, 10, none⟩ v10).setCell ⟨H, 11, none⟩ v11) H #[v0, v1, v2, v3, v4, v5, v6, v7, v8, v9, v10, v11] 54 := by
  have h := ((((((((((((hr.set 0 v0).set 1 v1).set 2 v2).set 3 v3).set 4 v4).set 5 v5).set 6 v6).set 7 v7).set 8 v8).set 9 v9).set 10 v10).set 11 v11)
  have e : ((((((((((((zero12.setIfInBounds 0 v0).setIfInBounds 1 v1).setIfInBounds 2 v2).setIfInBounds 3 v3).setIfInBounds 4 v4).setIfInBounds 5 v5).setIfInBounds 6 v6).setIfInBounds 7 v7).setIfInBounds 8 v8).setIfInBounds 9 v9).setIfInBounds 10 v10).setIfInBounds 11 v11) = #[v0, v1, v2, v3, v4, v5, v6, v7, v8, v9, v10, v11] := by simp [zero12]
  rw [e] at h
  exact h

set_option maxHeartbeats 2000000 in
set_option maxRecDepth 100000 in
theorem status_none (bv bm bo : Nat) (V : Ven) (id : Int) (w : World) (R : Rep w bv bm bo V) (hwf : (Lit.int .i64 id).wf = true) (hid : V.oid id = none) :
    Calls Tryz.prog 26 #[.pointer (some ⟨bv, 0, none⟩), .int .i64 id] w fun e w' => e = .returned (.tuple #[.agg zero12, .int .i64 6]) ∧ Chg Non w w' := by
  obtain ⟨fO, mO, fO1⟩ := R.orders
  have k1 : Chg Non w (w.alloc (.cells zero12 54)) := (Chg.refl Non w).alloc _
  have L2 : (Instr.lookup 95 (.map (some bo)) (.int .i64 id) false).run Tryz.prog (w.alloc (.cells zero12 54)) = .ok (.pointer none) (w.alloc (.cells zero12 54)) := by
    rw [(mO.kept k1 (fun x => x)).look law3 Tryz.underlying95 (zero80 _) (keyOf_int_mk Tryz.underlying3 hwf), fO1, hid]; rfl
  simp only [zero12] at L2
  have v1 : w.cell? ⟨bv, 1, none⟩ = some (.map (some bo)) := R.ven.cell 1
  have lv := R.ven.lt
  clear mO fO1 R
  go_enter Tryz.func26, Tryz.ntmps26
  go_wp2
  refine bodyPost_ret (res11 _ w.heap.size _ 6 0 0 0 0 0 0 0 0 0 0 0 ⟨#[]⟩ rfl rfl ?_) rfl ⟨rfl, ?_⟩
  · exact Blk.new w _ _
  · exact (Chg.refl Non w).alloc _

set_option maxHeartbeats 4000000 in
set_option maxRecDepth 100000 in
theorem status_some (bv bm bo b : Nat) (V : Ven) (id : Int) (w : World) (R : Rep w bv bm bo V) (hwf : (Lit.int .i64 id).wf = true) (hid : V.oid id = some b) (hsz : (V.om b).sym.size ≤ 100000) :
    Calls Tryz.prog 26 #[.pointer (some ⟨bv, 0, none⟩), .int .i64 id] w fun e w' => e = .returned (.tuple #[.agg (statC (V.om b)), .int .i64 0]) ∧ Chg Non w w' := by
  obtain ⟨fO, mO, fO1⟩ := R.orders
  have k1 : Chg Non w (w.alloc (.cells zero12 54)) := (Chg.refl Non w).alloc _
  have L2 : (Instr.lookup 95 (.map (some bo)) (.int .i64 id) false).run Tryz.prog (w.alloc (.cells zero12 54)) = .ok (.pointer (some ⟨b, 0, none⟩)) (w.alloc (.cells zero12 54)) := by
    rw [(mO.kept k1 (fun x => x)).look law3 Tryz.underlying95 (zero80 _) (keyOf_int_mk Tryz.underlying3 hwf), fO1, hid]; rfl
  simp only [zero12] at L2
  have v1 : w.cell? ⟨bv, 1, none⟩ = some (.map (some bo)) := R.ven.cell 1
  have lv := R.ven.lt
  obtain ⟨-, ix, ho⟩ := R.ords id b hid
  have lo := ho.lt
  generalize V.om b = o at *
  have c0 : w.cell? ⟨b, 0, none⟩ = some (.int .i64 o.id) := ho.cell 0
  have c1 : w.cell? ⟨b, 1, none⟩ = some (.int .i64 o.owner) := ho.cell 1
  have c2 : w.cell? ⟨b, 2, none⟩ = some (.string o.sym) := ho.cell 2
  have c3 : w.cell? ⟨b, 3, none⟩ = some (.int .i64 o.side) := ho.cell 3
  have c4 : w.cell? ⟨b, 4, none⟩ = some (.int .i64 o.kind) := ho.cell 4
  have c5 : w.cell? ⟨b, 5, none⟩ = some (.int .i64 o.price) := ho.cell 5
  have c6 : w.cell? ⟨b, 6, none⟩ = some (.int .i64 o.qty) := ho.cell 6
  have c7 : w.cell? ⟨b, 7, none⟩ = some (.int .i64 o.entered) := ho.cell 7
  have c8 : w.cell? ⟨b, 8, none⟩ = some (.int .i64 o.opn) := ho.cell 8
  have c9 : w.cell? ⟨b, 9, none⟩ = some (.int .i64 o.filled) := ho.cell 9
  have c10 : w.cell? ⟨b, 10, none⟩ = some (.int .i64 o.canc) := ho.cell 10
  have c11 : w.cell? ⟨b, 11, none⟩ = some (.int .i64 o.exp) := ho.cell 11
  obtain ⟨w1, hw1⟩ : ∃ w1, w1 = (w.alloc (.cells #[.int .i64 0, .int .i64 0, .string ⟨#[]⟩, .int .i64 0, .int .i64 0, .int .i64 0, .int .i64 0, .int .i64 0, .int .i64 0, .int .i64 0, .int .i64 0, .int .i64 0] 54)).alloc (.cells #[.int .i64 o.id, .int .i64 o.owner, .string o.sym, .int .i64 o.side, .int .i64 o.kind, .int .i64 o.price, .int .i64 o.qty, .int .i64 o.entered, .int .i64 o.opn, .int .i64 o.filled, .int .i64 o.canc, .int .i64 o.exp] 54) := ⟨_, rfl⟩
  have kw1 : Chg Non w w1 := by rw [hw1]; exact ((Chg.refl Non w).alloc _).alloc _
  have hr1 : Blk w1 w.heap.size zero12 54 := by rw [hw1]; exact (Blk.new w _ _).alloc _
  have hs1 : Blk w1 (w.heap.size + 1) (statC o) 54 := by rw [hw1]; exact Blk.new1 w _ _ _
  have HW1 := hide hw1
  clear mO fO1 R hw1 hid
  go_enter Tryz.func26, Tryz.ntmps26
  go_wp2_with fail
  rw [← unhide HW1]
  refine (clone_any o.sym w1 hsz).mono ?_
  rintro e w2 ⟨rfl, k2⟩
  clear c0 c1 c2 c3 c4 c5 c6 c7 c8 c9 c10 c11 L2 v1
  have hr2 := k2.blk hr1 (fun x => x)
  have hs2 := k2.blk hs1 (fun x => x)
  have hne : w.heap.size + 1 ≠ w.heap.size := by omega
  have s0 : w2.cell? ⟨w.heap.size + 1, 0, none⟩ = some (.int .i64 o.id) := hs2.cell 0
  have s1 : w2.cell? ⟨w.heap.size + 1, 1, none⟩ = some (.int .i64 o.owner) := hs2.cell 1
  have s2 : w2.cell? ⟨w.heap.size + 1, 2, none⟩ = some (.string o.sym) := hs2.cell 2
  have s3 : w2.cell? ⟨w.heap.size + 1, 3, none⟩ = some (.int .i64 o.side) := hs2.cell 3
  have s4 : w2.cell? ⟨w.heap.size + 1, 4, none⟩ = some (.int .i64 o.kind) := hs2.cell 4
  have s5 : w2.cell? ⟨w.heap.size + 1, 5, none⟩ = some (.int .i64 o.price) := hs2.cell 5
  have s6 : w2.cell? ⟨w.heap.size + 1, 6, none⟩ = some (.int .i64 o.qty) := hs2.cell 6
  have s7 : w2.cell? ⟨w.heap.size + 1, 7, none⟩ = some (.int .i64 o.entered) := hs2.cell 7
  have s8 : w2.cell? ⟨w.heap.size + 1, 8, none⟩ = some (.int .i64 o.opn) := hs2.cell 8
  have s9 : w2.cell? ⟨w.heap.size + 1, 9, none⟩ = some (.int .i64 o.filled) := hs2.cell 9
  have s10 : w2.cell? ⟨w.heap.size + 1, 10, none⟩ = some (.int .i64 o.canc) := hs2.cell 10
  have s11 : w2.cell? ⟨w.heap.size + 1, 11, none⟩ = some (.int .i64 o.exp) := hs2.cell 11
  have t2 := hs2.frozen 2
  have r0 : w2.cell? ⟨w.heap.size, 0, none⟩ = some (.int .i64 0) := hr2.cell 0
  have r1 : w2.cell? ⟨w.heap.size, 1, none⟩ = some (.int .i64 0) := hr2.cell 1
  have r2 : w2.cell? ⟨w.heap.size, 2, none⟩ = some (.string ⟨#[]⟩) := hr2.cell 2
  have r3 : w2.cell? ⟨w.heap.size, 3, none⟩ = some (.int .i64 0) := hr2.cell 3
  have r4 : w2.cell? ⟨w.heap.size, 4, none⟩ = some (.int .i64 0) := hr2.cell 4
  have r5 : w2.cell? ⟨w.heap.size, 5, none⟩ = some (.int .i64 0) := hr2.cell 5
  have r6 : w2.cell? ⟨w.heap.size, 6, none⟩ = some (.int .i64 0) := hr2.cell 6
  have r7 : w2.cell? ⟨w.heap.size, 7, none⟩ = some (.int .i64 0) := hr2.cell 7
  have r8 : w2.cell? ⟨w.heap.size, 8, none⟩ = some (.int .i64 0) := hr2.cell 8
  have r9 : w2.cell? ⟨w.heap.size, 9, none⟩ = some (.int .i64 0) := hr2.cell 9
  have r10 : w2.cell? ⟨w.heap.size, 10, none⟩ = some (.int .i64 0) := hr2.cell 10
  have r11 : w2.cell? ⟨w.heap.size, 11, none⟩ = some (.int .i64 0) := hr2.cell 11
  have q0 := hr2.frozen 0
  have q1 := hr2.frozen 1
  have q2 := hr2.frozen 2
  have q3 := hr2.frozen 3
  have q4 := hr2.frozen 4
  have q5 := hr2.frozen 5
  have q6 := hr2.frozen 6
  have q7 := hr2.frozen 7
  have q8 := hr2.frozen 8
  have q9 := hr2.frozen 9
  have q10 := hr2.frozen 10
  have q11 := hr2.frozen 11
  go_wp2
  refine bodyPost_ret (res11 _ w.heap.size _ 0 o.id o.owner o.side o.kind o.price o.qty o.entered o.opn o.filled o.canc o.exp o.sym rfl rfl ?_) rfl ⟨rfl, ?_⟩
  · exact set12 (hr2.other (a := ⟨w.heap.size + 1, 2, none⟩) (fun e => hne e.symm) _) _ _ _ _ _ _ _ _ _ _ _ _
  · have kk : Chg Non w w2 := kw1.trans k2
    exact ((((((((((((((kk).setCell (p := ⟨w.heap.size + 1, 2, none⟩) (.inr (Nat.le_succ _)) _).setCell (p := ⟨w.heap.size, 0, none⟩) (.inr (Nat.le_refl _)) _).setCell (p := ⟨w.heap.size, 1, none⟩) (.inr (Nat.le_refl _)) _).setCell (p := ⟨w.heap.size, 2, none⟩) (.inr (Nat.le_refl _)) _).setCell (p := ⟨w.heap.size, 3, none⟩) (.inr (Nat.le_refl _)) _).setCell (p := ⟨w.heap.size, 4, none⟩) (.inr (Nat.le_refl _)) _).setCell (p := ⟨w.heap.size, 5, none⟩) (.inr (Nat.le_refl _)) _).setCell (p := ⟨w.heap.size, 6, none⟩) (.inr (Nat.le_refl _)) _).setCell (p := ⟨w.heap.size, 7, none⟩) (.inr (Nat.le_refl _)) _).setCell (p := ⟨w.heap.size, 8, none⟩) (.inr (Nat.le_refl _)) _).setCell (p := ⟨w.heap.size, 9, none⟩) (.inr (Nat.le_refl _)) _).setCell (p := ⟨w.heap.size, 10, none⟩) (.inr (Nat.le_refl _)) _).setCell (p := ⟨w.heap.size, 11, none⟩) (.inr (Nat.le_refl _)) _)

end Go.Proofs.YtigaphnafnpfnaaGreatDoor

set_option linter.unusedVariables false
set_option linter.unusedSimpArgs false
namespace Go.Proofs.YtigaphnafnpfnaaGreatDoor
open Go.RowKit Go.Maps Go.Lib
attribute [local go_sem ↓] Go.wp_at_zero Go.wp_at_succ

theorem run_next_dec {P : Program} (w : World) (s : ByteArray) (pos c n : Nat) (ty : TypeId) (h : pos < s.size) (hd : Utf8.decode s pos = (c, n)) :
    (Instr.next (.pointer (some ⟨w.heap.size, 0, none⟩)) true ty).run P (w.iter s pos) =
      .ok (.tuple #[.bool true, .int .i64 pos, .int .i32 c]) (w.iter s (pos + n)) := by
  simp only [Instr.next, getObj, setObj, Sem.run_bind, Sem.run, World.iter_heap, Result.andThen, h, if_true, hd, World.iter_set]
  simp [goInt, Sem.run, World.iter_heap, World.iter_set]

def sa : ByteArray := ⟨#[97]⟩
def sA : ByteArray := ⟨#[65]⟩
def sG : ByteArray := ⟨#[206, 145, 206, 169]⟩

theorem isLetter_a (w : World) : Calls Tryz.prog 85 #[.int .i32 97] w fun e w' => e = .returned (.bool false) ∧ w' = w := by
  go_enter Tryz.func85, Tryz.ntmps85
  go_wp2
  go_ret
  exact ⟨by simp, rfl⟩
theorem isLetter_A (w : World) : Calls Tryz.prog 85 #[.int .i32 65] w fun e w' => e = .returned (.bool true) ∧ w' = w := by
  go_enter Tryz.func85, Tryz.ntmps85
  go_wp2
  go_ret
  exact ⟨by simp, rfl⟩
theorem isLetter_G (w : World) : Calls Tryz.prog 85 #[.int .i32 913] w fun e w' => e = .returned (.bool true) ∧ w' = w := by
  go_enter Tryz.func85, Tryz.ntmps85
  go_wp2
  go_ret
  exact ⟨by simp, rfl⟩
theorem isLetter_O (w : World) : Calls Tryz.prog 85 #[.int .i32 937] w fun e w' => e = .returned (.bool true) ∧ w' = w := by
  go_enter Tryz.func85, Tryz.ntmps85
  go_wp2
  go_ret
  exact ⟨by simp, rfl⟩

set_option maxHeartbeats 1000000 in
theorem isName_a (w : World) : Calls Tryz.prog 50 #[.string sa] w fun e w' => e = .returned (.bool false) ∧ Chg Non w w' := by
  have n0 := fun ty => run_next_dec (P := Tryz.prog) w sa 0 97 1 ty (by decide) (by decide)
  go_enter Tryz.func50, Tryz.ntmps50
  go_wp2
  refine wp_loop_rounds 1 ?_
  rw [rounds_succ]
  go_wp2_with fail
  refine (isLetter_a _).mono ?_
  rintro e w' ⟨rfl, rfl⟩
  go_wp2
  go_ret
  exact ⟨rfl, (Chg.refl Non w).alloc _⟩

set_option maxHeartbeats 1000000 in
theorem isName_A (w : World) : Calls Tryz.prog 50 #[.string sA] w fun e w' => e = .returned (.bool true) ∧ Chg Non w w' := by
  have n0 := fun ty => run_next_dec (P := Tryz.prog) w sA 0 65 1 ty (by decide) (by decide)
  have n1 := fun ty => run_next_end (P := Tryz.prog) w sA 1 ty (by decide)
  go_enter Tryz.func50, Tryz.ntmps50
  go_wp2
  refine wp_loop_rounds 2 ?_
  rw [rounds_succ]
  go_wp2_with fail
  refine (isLetter_A _).mono ?_
  rintro e w' ⟨rfl, rfl⟩
  go_wp2
  rw [rounds_succ]
  go_wp2
  go_ret
  exact ⟨by simp, (Chg.refl Non w).alloc _⟩

set_option maxHeartbeats 1000000 in
theorem isName_G (w : World) : Calls Tryz.prog 50 #[.string sG] w fun e w' => e = .returned (.bool true) ∧ Chg Non w w' := by
  have n0 := fun ty => run_next_dec (P := Tryz.prog) w sG 0 913 2 ty (by decide) (by decide)
  have n1 := fun ty => run_next_dec (P := Tryz.prog) w sG 2 937 2 ty (by decide) (by decide)
  have n2 := fun ty => run_next_end (P := Tryz.prog) w sG 4 ty (by decide)
  go_enter Tryz.func50, Tryz.ntmps50
  go_wp2
  refine wp_loop_rounds 3 ?_
  rw [rounds_succ]
  go_wp2_with fail
  refine (isLetter_G _).mono ?_
  rintro e w' ⟨rfl, rfl⟩
  go_wp2
  rw [rounds_succ]
  go_wp2_with fail
  refine (isLetter_O _).mono ?_
  rintro e w' ⟨rfl, rfl⟩
  go_wp2
  rw [rounds_succ]
  go_wp2
  go_ret
  exact ⟨by simp, (Chg.refl Non w).alloc _⟩

def newBk (s : ByteArray) : Bk := ⟨s, fun _ => none, fun _ => 0, fun _ => 0, fun _ _ => 0, 0⟩

theorem bookNew_any (s : ByteArray) (w : World) : Calls Tryz.prog 52 #[.string s] w fun e w' => e = .returned (.pointer (some ⟨w.heap.size, 0, none⟩)) ∧ Blk w' w.heap.size (newBk s).cells 158 ∧ Chg Non w w' := by
  go_enter Tryz.func52, Tryz.ntmps52
  go_wp2
  go_ret
  exact ⟨rfl, Blk.new w _ _, (Chg.refl Non w).alloc _⟩

def ven0 : Ven := ⟨0, fun _ => 0, fun _ => newBk ⟨#[]⟩, fun _ => ⟨0, 0, ⟨#[]⟩, 0, 0, 0, 0, 0, 0, 0, 0, 0, 0⟩, fun _ => none, 0, ⟨[], [], 1, 0, []⟩, ⟨.slice none 0 0, .slice none 0 0, [], .slice none 0 0, [], .slice none 0 0, []⟩⟩

set_option maxHeartbeats 1000000 in
theorem new_any (w : World) : Calls Tryz.prog 34 #[] w fun e w' => ∃ bv bm bo, e = .returned (.pointer (some ⟨bv, 0, none⟩)) ∧ Rep w' bv bm bo ven0 ∧ Chg Non w w' ∧ w.heap.size ≤ bv ∧ w.heap.size ≤ bm ∧ w.heap.size ≤ bo := by
  have hmm := @run_makeMap Tryz.prog
  go_enter Tryz.func34, Tryz.ntmps34
  go_wp2
  go_ret
  refine ⟨w.heap.size + 1 + 1, w.heap.size, w.heap.size + 1, ?_, ?_, ?_, by omega, by omega, by omega⟩
  · rfl
  · have m1 : MapP (((w.alloc (.map #[] 0)).alloc (.map #[] 0)).alloc (.cells #[.map (some w.heap.size), .map (some (w.heap.size + 1)), .slice none 0 0, .slice none 0 0, .int .i64 1, .slice none 0 0, .slice none 0 0] 100)) 9 w.heap.size (fun _ => none) 0 := ((MapP.made w 9).kept ((Chg.refl Non _).alloc _) (fun x => x)).kept ((Chg.refl Non _).alloc _) (fun x => x)
    have m2 : MapP (((w.alloc (.map #[] 0)).alloc (.map #[] 0)).alloc (.cells #[.map (some w.heap.size), .map (some (w.heap.size + 1)), .slice none 0 0, .slice none 0 0, .int .i64 1, .slice none 0 0, .slice none 0 0] 100)) 3 (w.heap.size + 1) (fun _ => none) 0 := by
      have h := (MapP.made (w.alloc (.map #[] 0)) 3).kept ((Chg.refl Non _).alloc (.cells #[.map (some w.heap.size), .map (some (w.heap.size + 1)), .slice none 0 0, .slice none 0 0, .int .i64 1, .slice none 0 0, .slice none 0 0] 100)) (fun x => x)
      have e : (w.alloc (.map #[] 0)).heap.size = w.heap.size + 1 := by simp
      rw [e] at h
      exact h
    have m3 : Blk (((w.alloc (.map #[] 0)).alloc (.map #[] 0)).alloc (.cells #[.map (some w.heap.size), .map (some (w.heap.size + 1)), .slice none 0 0, .slice none 0 0, .int .i64 1, .slice none 0 0, .slice none 0 0] 100)) (w.heap.size + 1 + 1) (venC w.heap.size (w.heap.size + 1) ven0.lm ven0.lg.day) 100 := by
      have h := Blk.new1 (w.alloc (.map #[] 0)) (.map #[] 0) (venC w.heap.size (w.heap.size + 1) ven0.lm ven0.lg.day) 100
      have e : (w.alloc (.map #[] 0)).heap.size = w.heap.size + 1 := by simp
      rw [e] at h
      exact h
    exact ⟨⟨m3, ⟨World.ownsRow_nil _ _ _ _, World.ownsRow_nil _ _ _ _, rfl, fun i b g h => by simp [ven0] at h, List.nodup_nil, ⟨World.ownsRow_nil _ _ _ _, fun a ha => by simp [ven0] at ha, List.nodup_nil, rfl, fun a ha => by simp [ven0] at ha⟩, World.ownsRow_nil _ _ _ _, Nat.zero_le _⟩⟩, ⟨_, m1, fun i hi => absurd hi (Nat.not_lt_zero i), fun s b h => by simp at h⟩, ⟨_, m2, fun _ => rfl⟩, by omega, fun i hi => absurd hi (Nat.not_lt_zero i), fun id b h => by simp [ven0] at h, fun i hi => absurd hi (Nat.not_lt_zero i), fun i j hi => absurd hi (Nat.not_lt_zero i), fun i j hi => absurd hi (Nat.not_lt_zero i), Nat.zero_le _⟩
  · exact (((Chg.refl Non w).alloc _).alloc _).alloc _

/-- isName says b of s -/
def NameSays (s : ByteArray) (b : Bool) : Prop := ∀ w, Calls Tryz.prog 50 #[.string s] w fun e w' => e = .returned (.bool b) ∧ Chg Non w w'

set_option maxHeartbeats 1000000 in
theorem list_name (bv : Nat) (s : ByteArray) (w : World) (hn : NameSays s false) : Calls Tryz.prog 27 #[.pointer (some ⟨bv, 0, none⟩), .string s] w fun e w' => e = .returned (.int .i64 3) ∧ Chg Non w w' := by
  go_enter Tryz.func27, Tryz.ntmps27
  go_wp2_with fail
  refine (hn _).mono ?_
  rintro e w' ⟨rfl, k⟩
  go_wp2
  go_ret
  exact ⟨rfl, ((Chg.refl Non w).alloc _).trans k⟩

set_option maxHeartbeats 1000000 in
theorem list_taken (bv bm bo i : Nat) (V : Ven) (s : ByteArray) (w : World) (R : Rep w bv bm bo V) (hn : NameSays s true) (hlen : s.size ≤ maxLen) (hi : i < V.nb) (hs : (V.B i).sym = s) : Calls Tryz.prog 27 #[.pointer (some ⟨bv, 0, none⟩), .string s] w fun e w' => e = .returned (.int .i64 2) ∧ Chg Non w w' := by
  obtain ⟨fB, mB, fB1, fB2⟩ := R.books
  have hl := fB1 i hi
  rw [hs] at hl
  have HL := hide hl
  have hK : ∀ w', Chg Non w w' → (Instr.lookup 94 (.map (some bm)) (.string s) false).run Tryz.prog w' = .ok (.pointer (some ⟨V.bk i, 0, none⟩)) w' ∧ w'.cell? ⟨bv, 0, none⟩ = some (.map (some bm)) := fun w' k => by
    refine ⟨?_, (k.blk R.ven (fun x => x)).cell 0⟩
    rw [(mB.kept k (fun x => x)).look law9 Tryz.underlying94 (zero70 _) (WideMaps.keyOf_string_mk Tryz.underlying9 hlen)]
    show _ = Result.ok (ptrO (some (V.bk i))) _
    rw [← unhide HL]; rfl
  have HK := hide hK
  clear hl hK hs mB fB1 fB2
  go_enter Tryz.func27, Tryz.ntmps27
  go_wp2_with fail
  refine (hn _).mono ?_
  rintro e w1 ⟨rfl, k⟩
  have xb : w1.cell? ⟨w.heap.size, 0, none⟩ = some (.pointer (some ⟨bv, 0, none⟩)) := (k.blk (Blk.new w #[.pointer (some ⟨bv, 0, none⟩)] 35) (fun x => x)).cell 0
  have k0 := ((Chg.refl Non w).alloc (.cells #[.pointer (some ⟨bv, 0, none⟩)] 35)).trans k
  obtain ⟨L1, v0⟩ := unhide HK w1 k0
  go_wp2
  go_ret
  exact ⟨rfl, k0⟩

def Ven.list (V : Ven) (s : ByteArray) (b : Nat) : Ven := { V with nb := V.nb + 1, bk := upd V.bk V.nb b, B := upd V.B V.nb (newBk s) }

theorem newBk_sd (s : ByteArray) (x b : Nat) : ¬ SdB (newBk s) x b := by
  rintro (h | ⟨k, hk, _⟩)
  · simp [newBk, adB] at h
  · exact absurd hk (Nat.not_lt_zero k)

theorem Rep.list {w w' : World} {bv bm bo b : Nat} {V : Ven} {s : ByteArray} (R : Rep w bv bm bo V) (hb : w.heap.size ≤ b) (hblk : Blk w' b (newBk s).cells 158) (k : Chg (fun x => x = bm) w w') (hfree : ∀ i, i < V.nb → (V.B i).sym ≠ s)
    (mB : ∃ fB, MapP w' 9 bm fB (V.nb + 1) ∧ fB (sl s) = some b ∧ ∃ fB0, MapP w 9 bm fB0 V.nb ∧ (∀ i, i < V.nb → fB0 (sl (V.B i).sym) = some (V.bk i)) ∧ (∀ s b, fB0 (sl s) = some b → ∃ i, i < V.nb ∧ b = V.bk i ∧ (V.B i).sym = s) ∧ ∀ s', s' ≠ s → fB (sl s') = fB0 (sl s')) :
    Rep w' bv bm bo (V.list s b) := by
  obtain ⟨fB, mB', f1, fB0, mB0, g1, g2, f2⟩ := mB
  obtain ⟨fO, mO, fO1⟩ := R.orders
  have ne : ∀ {b' : Nat} {c : Array Value} {t : TypeId}, Blk w b' c t → Blk w' b' c t := fun h => k.blk h (Ne.symm (mB0.ne h))
  have bk : ∀ i, i < V.nb → IsBook w' (V.bk i) (V.B i) V.om := fun i hi => (R.book i hi).kept k (by
    rintro x (rfl | ⟨y, hy, h⟩) e
    · exact mB0.ne (R.book i hi).blk e.symm
    · rcases h with h | ⟨l, hl, rfl⟩
      · rcases ((R.book i hi).side y hy) with ⟨h0, _⟩ | ⟨ab, hab, hsd⟩
        · rw [h0] at h; simp [adB] at h
        · obtain ⟨cs, hcs, _⟩ := hsd.arr
          rw [hab] at h
          simp [adB] at h
          rw [h] at hcs
          exact mB0.ne hcs e.symm
      · exact mB0.ne (((R.book i hi).side y hy).ords hl) e.symm)
  have lt : ∀ i, i < V.nb → V.bk i < w.heap.size := fun i hi => (R.book i hi).blk.lt
  refine ⟨R.log.kept k (Ne.symm (mB0.ne R.ven)) (fun y hy e => by
    obtain ⟨c, t', hc, _⟩ := R.log.log.typ hy
    exact mB0.ne hc e.symm), ⟨fB, mB', ?_, ?_⟩, ⟨fO, mO.kept k (fun e => R.mne e.symm), fO1⟩, R.mne, ?_, ?_, ?_, ?_, ?_, R.no200⟩
  · intro i hi
    by_cases e : i = V.nb
    · subst e; simp only [Ven.list, upd_same]; exact f1
    · have hi' : i < V.nb := by simp only [Ven.list] at hi; omega
      simp only [Ven.list, upd_other _ _ e]
      rw [f2 _ (hfree i hi')]
      exact g1 i hi'
  · intro s' b' h
    by_cases e : s' = s
    · subst e
      rw [f1] at h
      simp only [Option.some.injEq] at h
      exact ⟨V.nb, by simp [Ven.list], by simp only [Ven.list, upd_same]; exact h.symm, by simp only [Ven.list, upd_same]; rfl⟩
    · rw [f2 _ e] at h
      obtain ⟨i, hi, h1, h2⟩ := g2 s' b' h
      have : i ≠ V.nb := by omega
      exact ⟨i, by simp only [Ven.list]; omega, by simp only [Ven.list, upd_other _ _ this]; exact h1, by simp only [Ven.list, upd_other _ _ this]; exact h2⟩
  · intro i hi
    by_cases e : i = V.nb
    · subst e
      simp only [Ven.list, upd_same]
      exact ⟨hblk, fun y hy => .inl ⟨rfl, rfl, rfl⟩, fun a h => by simp [newBk, adB] at h, fun l j hl => absurd hl (Nat.not_lt_zero l)⟩
    · have hi' : i < V.nb := by simp only [Ven.list] at hi; omega
      simp only [Ven.list, upd_other _ _ e]
      exact bk i hi'
  · intro id x h
    obtain ⟨h1, ix, h2⟩ := R.ords id x h
    exact ⟨h1, ix, ne h2⟩
  · intro i hi y hy l hl
    by_cases e : i = V.nb
    · subst e; simp only [Ven.list, upd_same] at hl; exact absurd hl (Nat.not_lt_zero l)
    · have hi' : i < V.nb := by simp only [Ven.list] at hi; omega
      simp only [Ven.list, upd_other _ _ e] at hl ⊢
      exact R.mem i hi' y hy l hl
  · intro i j hi hj hne
    simp only [Ven.list] at hi hj ⊢
    by_cases e : i = V.nb
    · have e2 : j ≠ V.nb := by omega
      rw [e, upd_same, upd_other _ _ e2]
      have := lt j (by omega)
      omega
    · rw [upd_other _ _ e]
      by_cases e2 : j = V.nb
      · rw [e2, upd_same]
        have := lt i (by omega)
        omega
      · rw [upd_other _ _ e2]
        exact R.sepb i j (by omega) (by omega) hne
  · intro i j hi hj hne x y hx hy z h1 h2
    simp only [Ven.list] at hi hj h1 h2
    by_cases e : i = V.nb
    · rw [e, upd_same] at h1; exact newBk_sd s x z h1
    · by_cases e2 : j = V.nb
      · rw [e2, upd_same] at h2; exact newBk_sd s y z h2
      · rw [upd_other _ _ e] at h1
        rw [upd_other _ _ e2] at h2
        exact R.seps i j (by omega) (by omega) hne x y hx hy z h1 h2

end Go.Proofs.YtigaphnafnpfnaaGreatDoor

set_option linter.unusedVariables false
set_option linter.unusedSimpArgs false
/- The document's venue: its acts, done anew. -/
namespace Go.Proofs.YtigaphnafnpfnaaGreatDoor
open Go.RowKit
attribute [local go_sem ↓] Go.wp_at_zero Go.wp_at_succ

/-- an act is done so, wherever the state lies -/
def DoesR (S : RS) (x : RAct) (S' : RS) (rep : Value) (E : Int) : Prop :=
  ∀ base sb m w, StV w base sb S m → Calls Tryz.prog 138 #[.pointer (some ⟨sb, 0, none⟩), x.val] w fun e w' => e = .returned (.tuple #[rep, .int .i64 E]) ∧ StN base sb S' m w w'

def RS.none : RS := ⟨[], [], [], 1, 0, []⟩

/-- the acts, all of them done, come to S -/
def Hist (A : List RAct) (S : RS) : Prop := ∃ sts : Nat → RS, sts 0 = RS.none ∧ sts A.length = S ∧ ∀ i x, A[i]? = some x → ∃ rep, DoesR (sts i) x (sts (i + 1)) rep 0

theorem Hist.nil : Hist [] RS.none := ⟨fun _ => RS.none, rfl, rfl, fun i x h => by simp at h⟩
theorem Hist.snoc {A : List RAct} {S S' : RS} {x : RAct} {rep : Value} (h : Hist A S) (d : DoesR S x S' rep 0) : Hist (A ++ [x]) S' := by
  obtain ⟨sts, h0, h1, h2⟩ := h
  refine ⟨fun i => if i ≤ A.length then sts i else S', by simp [h0], by simp; intro h; omega, fun i y hy => ?_⟩
  by_cases hi : i < A.length
  · rw [List.getElem?_append_left hi] at hy
    dsimp only
    rw [if_pos (by omega), if_pos (by omega)]
    exact h2 i y hy
  · have hl : i < (A ++ [x]).length := (List.getElem?_eq_some_iff.1 hy).1
    simp only [List.length_append, List.length_cons, List.length_nil] at hl
    obtain rfl : i = A.length := by omega
    rw [List.getElem?_append_right (Nat.le_refl _)] at hy
    simp at hy
    subst hy
    dsimp only
    rw [if_pos (Nat.le_refl _), if_neg (by omega), h1]
    exact ⟨rep, d⟩

def actL (x : RAct) : List Value := [.int .u8 x.kind, .string x.s, .int .i64 x.o.id, .int .i64 x.o.owner, .string x.o.sym, .int .i64 x.o.side, .int .i64 x.o.kind, .int .i64 x.o.price, .int .i64 x.o.qty, .int .i64 x.a, .int .i64 x.b, .int .i64 x.c, .bool x.again]
theorem actL_len (x : RAct) : (actL x).length = 13 := rfl
def flatA (l : List RAct) : List Value := l.flatMap actL

/-- the document's venue as it lies -/
structure RV (w : World) (base rb : Nat) (A : List RAct) (R : List Rc) (L : ByteArray) (av rv : Value) : Prop where
  ge : base ≤ rb
  blk : Blk w rb #[av, rv, .string L] 129
  arow : w.ownsRow base 169 13 av A.length (flatA A)
  rrow : w.ownsRow base 62 9 rv R.length (flatR R)

theorem RV.kept {w w' : World} {base rb : Nat} {A : List RAct} {R : List Rc} {L : ByteArray} {av rv : Value} (h : RV w base rb A R L av rv) {K : Nat → Prop} (k : Chg K w w') (hK : ∀ b, (b = rb ∨ av.ownBlock = some b ∨ rv.ownBlock = some b) → ¬ K b) : RV w' base rb A R L av rv :=
  ⟨h.ge, k.blk h.blk (hK _ (.inl rfl)), own_kept h.arow k (fun b hb => hK b (.inr (.inl hb))), own_kept h.rrow k (fun b hb => hK b (.inr (.inr hb)))⟩
theorem RV.kept0 {w w' : World} {base rb : Nat} {A : List RAct} {R : List Rc} {L : ByteArray} {av rv : Value} (h : RV w base rb A R L av rv) (k : Chg Non w w') : RV w' base rb A R L av rv := h.kept k (fun _ _ x => x)

theorem RV.actc {w : World} {base rb c : Nat} {a : Option Addr} {A : List RAct} {R : List Rc} {L : ByteArray} {av rv : Value} (h : RV w base rb A R L av rv) (hv : av = .slice a A.length c) {i : Nat} {x : RAct} (hi : A[i]? = some x) : ∃ g, a = some ⟨g, 0, none⟩ ∧ g < w.heap.size ∧ (∀ j u, (actL x)[j]? = some u → w.cell? ⟨g, i * 13 + j, none⟩ = some u) := by
  have hi' : i < A.length := (List.getElem?_eq_some_iff.1 hi).1
  have r := h.arow
  rw [hv] at r
  obtain ⟨g, rfl, hg⟩ := row_some r (by omega)
  refine ⟨g, rfl, (r.lt g rfl).2, fun j u hu => ?_⟩
  have hj : j < 13 := by have := (List.getElem?_eq_some_iff.1 hu).1; rw [actL_len] at this; exact this
  rw [r.cellAt _ (by omega)]
  exact (flat_at actL 13 actL_len A i j _ hi hj).trans hu

theorem StV.start (w : World) : StV (w.alloc (.cells #[.slice none 0 0, .slice none 0 0, .slice none 0 0, .int .i64 1, .int .i64 0, .slice none 0 0] 207)) w.heap.size w.heap.size RS.none ⟨.slice none 0 0, .slice none 0 0, .slice none 0 0, .slice none 0 0⟩ :=
  ⟨Nat.le_refl _, Blk.new _ _ _, World.ownsRow_nil _ _ _ _, World.ownsRow_nil _ _ _ _, World.ownsRow_nil _ _ _ _, World.ownsRow_nil _ _ _ _⟩

set_option maxRecDepth 100000 in
set_option maxHeartbeats 4000000 in
theorem rstate_any (base rb : Nat) (A : List RAct) (R : List Rc) (L : ByteArray) (av rv : Value) (S : RS) (w : World) (h : RV w base rb A R L av rv) (hh : Hist A S) (hn : A.length ≤ 1000000000) :
    Calls Tryz.prog 137 #[.pointer (some ⟨rb, 0, none⟩)] w fun e w' => e = .returned (.pointer (some ⟨w.heap.size, 0, none⟩)) ∧ (∃ m, StV w' w.heap.size w.heap.size S m) ∧ Chg Non w w' := by
  obtain ⟨sts, h0, h1, h2⟩ := hh
  obtain ⟨N, hN⟩ : ∃ N, A.length = N := ⟨_, rfl⟩
  obtain ⟨a, c, hv⟩ := row_slice h.arow
  have HC : Hid (∀ i, i < N → ∃ (g : Nat) (x : RAct) (rep : Value), a = some ⟨g, 0, none⟩ ∧ g < w.heap.size ∧ DoesR (sts i) x (sts (i + 1)) rep 0 ∧ (∀ j u, (actL x)[j]? = some u → w.cell? ⟨g, i * 13 + j, none⟩ = some u)) := fun i hi => by
    obtain ⟨x, hx⟩ : ∃ x, A[i]? = some x := ⟨_, List.getElem?_eq_getElem (by omega)⟩
    obtain ⟨g, e1, e2, e3⟩ := h.actc hv hx
    obtain ⟨rep, hd⟩ := h2 i x hx
    exact ⟨g, x, rep, e1, e2, hd, e3⟩
  rw [hN] at hv hn h1
  have v0 : w.cell? ⟨rb, 0, none⟩ = some (.slice a N c) := by rw [← hv]; exact h.blk.cell 0
  have lrb := h.blk.lt
  have HI := hide (StV.start w)
  rw [← h0] at HI
  obtain ⟨w1, hw1⟩ : ∃ w1, w1 = (w.alloc (.cells #[.slice none 0 0, .slice none 0 0, .slice none 0 0, .int .i64 1, .int .i64 0, .slice none 0 0] 207)) := ⟨_, rfl⟩
  rw [← hw1] at HI
  have HK : Hid (Chg Non w w1) := by rw [hw1]; exact (Chg.refl Non w).alloc _
  have HV := hide v0
  have HW1 := hide hw1
  clear h hv h2 hN v0 hw1
  go_enter Tryz.func137, Tryz.ntmps137
  go_wp2
  rw [← unhide HW1]
  go_loopg [4] N (fun k iv wr => ∃ (i : Nat) (m : SM), iv = .int .i64 (i : Int) ∧ i ≤ N ∧ k = N - i ∧ StV wr w.heap.size w.heap.size (sts i) m ∧ Chg Non w wr)
  case atStart => exact ⟨0, _, rfl, Nat.zero_le _, rfl, unhide HI, unhide HK⟩
  case round =>
    obtain ⟨i, m, rfl, hi, hgk, hst, hk⟩ := hrel
    have v0 : wr.cell? ⟨rb, 0, none⟩ = some (.slice a N c) := hk.cell (unhide HV) (fun x => x)
    have HST := hide hst
    have HKK := hide hk
    by_cases hlt : i < N
    · obtain ⟨g, x, rep, rfl, lg, hd, hx⟩ := unhide HC i hlt
      have x0 : wr.cell? ⟨g, i * 13, none⟩ = some (.int .u8 x.kind) := hk.cell (hx 0 _ rfl) (fun x => x)
      have x1 : wr.cell? ⟨g, i * 13 + 1, none⟩ = some (.string x.s) := hk.cell (hx 1 _ rfl) (fun x => x)
      have x2 : wr.cell? ⟨g, i * 13 + 2, none⟩ = some (.int .i64 x.o.id) := hk.cell (hx 2 _ rfl) (fun x => x)
      have x3 : wr.cell? ⟨g, i * 13 + 3, none⟩ = some (.int .i64 x.o.owner) := hk.cell (hx 3 _ rfl) (fun x => x)
      have x4 : wr.cell? ⟨g, i * 13 + 4, none⟩ = some (.string x.o.sym) := hk.cell (hx 4 _ rfl) (fun x => x)
      have x5 : wr.cell? ⟨g, i * 13 + 5, none⟩ = some (.int .i64 x.o.side) := hk.cell (hx 5 _ rfl) (fun x => x)
      have x6 : wr.cell? ⟨g, i * 13 + 6, none⟩ = some (.int .i64 x.o.kind) := hk.cell (hx 6 _ rfl) (fun x => x)
      have x7 : wr.cell? ⟨g, i * 13 + 7, none⟩ = some (.int .i64 x.o.price) := hk.cell (hx 7 _ rfl) (fun x => x)
      have x8 : wr.cell? ⟨g, i * 13 + 8, none⟩ = some (.int .i64 x.o.qty) := hk.cell (hx 8 _ rfl) (fun x => x)
      have x9 : wr.cell? ⟨g, i * 13 + 9, none⟩ = some (.int .i64 x.a) := hk.cell (hx 9 _ rfl) (fun x => x)
      have x10 : wr.cell? ⟨g, i * 13 + 10, none⟩ = some (.int .i64 x.b) := hk.cell (hx 10 _ rfl) (fun x => x)
      have x11 : wr.cell? ⟨g, i * 13 + 11, none⟩ = some (.int .i64 x.c) := hk.cell (hx 11 _ rfl) (fun x => x)
      have x12 : wr.cell? ⟨g, i * 13 + 12, none⟩ = some (.bool x.again) := hk.cell (hx 12 _ rfl) (fun x => x)
      have HD := hide (hd w.heap.size w.heap.size m wr hst)
      simp only [RAct.val, RAct.cells] at HD
      clear hd hx hst hk
      go_wp2_with fail
      refine (unhide HD).mono ?_
      rintro e w3 ⟨rfl, hn3⟩
      have HN3 := hide hn3
      clear hn3
      go_wp2
      go_roundg (N - (i + 1))
      case measure => omega
      case rel =>
        obtain ⟨m', p, q, kk⟩ := unhide HN3
        exact ⟨i + 1, m', by push_cast; rfl, by omega, rfl, p, (unhide HKK).from (kk.mono (fun b hb => .inr ((unhide HST).lt hb).1))⟩
    · obtain rfl : i = N := by omega
      go_wp2
      go_ret
      rw [h1] at hst
      exact ⟨rfl, ⟨m, hst⟩, hk⟩

end Go.Proofs.YtigaphnafnpfnaaGreatDoor

set_option linter.unusedVariables false
set_option linter.unusedSimpArgs false
/- The document's Book: the best price that is left, again and again. -/
namespace Go.Proofs.YtigaphnafnpfnaaGreatDoor
open Go.RowKit
attribute [local go_sem ↓] Go.wp_at_zero Go.wp_at_succ

def wrsB (s : Int) (last : Option Int) (p : Int) : Bool := match last with
  | none => true
  | some q => if s = 0 then decide (p < q) else decide (q < p)
def btrB (s : Int) (b : Lvl) (p : Int) : Bool := if b.num = 0 then true else if s = 0 then decide (b.price < p) else decide (p < b.price)
def lvAdd (b : Lvl) (o : Ord) : Lvl := ⟨b.price, wrap64 (b.qty + o.opn), wrap64 (b.num + 1)⟩
def bkStep (sym : ByteArray) (s : Int) (last : Option Int) (b : Lvl) (o : Ord) : Lvl :=
  if o.sym ≠ sym ∨ o.side ≠ s ∨ o.opn = 0 then b else if wrsB s last o.price = false then b
  else if btrB s b o.price = true then lvAdd ⟨o.price, 0, 0⟩ o else if o.price = b.price then lvAdd b o else b
def bkX (l : List Ord) (sym : ByteArray) (s : Int) (last : Option Int) : Nat → Lvl
  | 0 => ⟨0, 0, 0⟩
  | i + 1 => bkStep sym s last (bkX l sym s last i) (nthO l i)
def lastP (out : List Lvl) : Option Int := out.getLast?.map Lvl.price
def bkNext (l : List Ord) (sym : ByteArray) (s : Int) (out : List Lvl) : Lvl := bkX l sym s (lastP out) l.length

/-- it comes to an end within so many rounds -/
inductive BEnds (l : List Ord) (sym : ByteArray) (s : Int) : Nat → List Lvl → List Lvl → Prop
  | stop (f : Nat) (out : List Lvl) (h : (bkNext l sym s out).num = 0) : BEnds l sym s f out out
  | go (f : Nat) (out out' : List Lvl) (h : (bkNext l sym s out).num ≠ 0) (e : BEnds l sym s f (out ++ [bkNext l sym s out]) out') : BEnds l sym s (f + 1) out out'
theorem BEnds.inv {l : List Ord} {sym : ByteArray} {s : Int} {q : Nat} {out out' : List Lvl} (h : BEnds l sym s q out out') : (out' = out ∧ (bkNext l sym s out).num = 0) ∨ ∃ f, q = f + 1 ∧ (bkNext l sym s out).num ≠ 0 ∧ BEnds l sym s f (out ++ [bkNext l sym s out]) out' := by
  cases h with
  | stop _ _ hs => exact .inl ⟨rfl, hs⟩
  | go f _ _ h e => exact .inr ⟨f, rfl, h, e⟩

/-- the ways of a round -/
theorem bk_cases (sym : ByteArray) (s : Int) (last : Option Int) (b : Lvl) (o : Ord) :
    ((o.sym.toList == sym.toList) = false ∧ bkStep sym s last b o = b) ∨
    (o.sym = sym ∧ (o.side == s) = false ∧ bkStep sym s last b o = b) ∨
    (o.sym = sym ∧ o.side = s ∧ o.opn = 0 ∧ bkStep sym s last b o = b) ∨
    (o.sym = sym ∧ o.side = s ∧ (o.opn == 0) = false ∧ (
      (wrsB s last o.price = false ∧ bkStep sym s last b o = b) ∨
      (wrsB s last o.price = true ∧ btrB s b o.price = true ∧ bkStep sym s last b o = lvAdd ⟨o.price, 0, 0⟩ o) ∨
      (wrsB s last o.price = true ∧ btrB s b o.price = false ∧ o.price = b.price ∧ bkStep sym s last b o = lvAdd b o) ∨
      (wrsB s last o.price = true ∧ btrB s b o.price = false ∧ (o.price == b.price) = false ∧ bkStep sym s last b o = b))) := by
  unfold bkStep
  rw [strEq]
  by_cases h1 : o.sym = sym
  · by_cases h2 : o.side = s
    · by_cases h3 : o.opn = 0
      · right; right; left; simp [h1, h2, h3]
      · right; right; right
        refine ⟨h1, h2, by simp [h3], ?_⟩
        rw [if_neg (by simp [h1, h2, h3])]
        cases wrsB s last o.price
        · left; simp
        · cases btrB s b o.price
          · by_cases h4 : o.price = b.price
            · right; right; left; simp [h4]
            · right; right; right; simp [h4]
          · right; left; simp
    · right; left; simp [h1, h2]
  · left; simp [h1]

end Go.Proofs.YtigaphnafnpfnaaGreatDoor

