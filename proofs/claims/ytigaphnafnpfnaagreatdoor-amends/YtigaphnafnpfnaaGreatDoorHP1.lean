import Derived.Test.YtigaphnafnpfnaaGreatDoorHF4
import Derived.Test.YtigaphnafnpfnaaGreatDoorHE15
import Derived.Test.YtigaphnafnpfnaaGreatDoorHE16
import Derived.Test.YtigaphnafnpfnaaGreatDoorHD5
/- Good venues: Cancel, Replace, Enter -/
set_option linter.unusedVariables false
set_option linter.unusedSimpArgs false
namespace Go.Proofs.YtigaphnafnpfnaaGreatDoor
open Go.RowKit Go.Maps

theorem symN_size (i : Nat) : (symN i).size ≤ maxLen := by unfold symN; split <;> decide
theorem symN_small (i : Nat) : (symN i).size ≤ 100000 := by unfold symN; split <;> decide

def SyOK (lg : Lg) : Prop := ∀ x ∈ lg.tr, x.t.sym.size ≤ 100000
def LenOK (V : Ven) (K : Nat) : Prop := V.lg.tp.length ≤ K ∧ V.lg.tr.length ≤ K ∧ SyOK V.lg ∧ V.lg.na ≤ K

theorem mstep_sy {oc s : Nat} {st : MS} (hb : st.B.sym.size ≤ 100000) (hs : SyOK st.lg) : (mstep oc s st).B.sym.size ≤ 100000 ∧ SyOK (mstep oc s st).lg := by
  unfold mstep
  split
  · exact ⟨hb, hs⟩
  · refine ⟨?_, fun x hx => ?_⟩
    · simp only [tradeB]; split <;> exact hb
    · simp only [Lg.addT, Lg.told, Lg.kept, Lg.noted, tradeG_tr, List.mem_append, List.mem_singleton] at hx
      rcases hx with hx | hx
      · exact hs x hx
      · subst hx; exact hb

theorem matchF_sy {oc s : Nat} : ∀ (f : Nat) (st : MS), st.B.sym.size ≤ 100000 → SyOK st.lg → SyOK (matchF oc s f st).lg := by
  intro f
  induction f with
  | zero => intro st _ h; exact h
  | succ f ih =>
    intro st hb h
    rw [matchF]
    split
    · exact h
    · obtain ⟨a, b⟩ := mstep_sy (oc := oc) (s := s) hb h
      exact ih _ a b

theorem GV.idx {V : Ven} {n : Nat} {M : Int} (h : GV V n M) {x : Nat} (hx : VL V x) : ∃ i s : Nat, i < 2 ∧ s < 2 ∧ (V.om x).sym = symN i ∧ (V.B i).sym = symN i ∧ (V.om x).side = (s : Int) := by
  obtain ⟨s, hs, e⟩ : ∃ s : Nat, s < 2 ∧ (V.om x).side = (s : Int) := by
    rcases h.side x hx with e | e
    · exact ⟨0, by omega, e⟩
    · exact ⟨1, by omega, e⟩
  rcases h.sym x hx with e' | e'
  · exact ⟨0, s, by omega, hs, e', (h.gb 0 (by omega)).bsym, e⟩
  · exact ⟨1, s, by omega, hs, e', (h.gb 1 (by omega)).bsym, e⟩

theorem GV.has {V : Ven} {n : Nat} {M : Int} (h : GV V n M) {id : Int} (h1 : 1 ≤ id) (h2 : id ≤ n) : ∃ b, V.oid id = some b := (h.oid id).2 ⟨h1, h2⟩

theorem GV.open {V : Ven} {n : Nat} {M : Int} (h : GV V n M) {x : Nat} (hx : VL V x) (h0 : (V.om x).opn ≠ 0) : ∃ i s k : Nat, i < 2 ∧ s < 2 ∧ k < (V.B i).n s ∧ (V.B i).h s k = x ∧ (V.om x).sym = symN i ∧ (V.B i).sym = symN i ∧ (V.om x).side = (s : Int) := by
  obtain ⟨i, s, hi, hs, a, b, c⟩ := h.idx hx
  have hp : 0 < (V.om x).opn := by have := (h.q x hx).o0; omega
  obtain ⟨k, hk, e⟩ := ((h.gb i hi).mem s hs x).2 ⟨hx, a, c, hp⟩
  exact ⟨i, s, k, hi, hs, hk, e.symm, a, b, c⟩

theorem GV.apart {V : Ven} {n : Nat} {M : Int} (h : GV V n M) {w : World} {bv bm bo : Nat} (R : Rep w bv bm bo V) {i x : Nat} (hx : VL V x) (hs : (V.om x).sym = symN i) (hi : i < 2) : Apart V i x := by
  intro j hj hne t ht hsd
  have hj2 : j < 2 := by rw [h.nb] at hj; exact hj
  rcases hsd with e | ⟨l, hl, e⟩
  · obtain ⟨id, hid⟩ := hx
    obtain ⟨_, ix, ho⟩ := R.ords id x hid
    exact ((R.book j hj).side t ht).ne ho (by decide) e
  · have := ((h.gb j hj2).mem t ht _).1 ⟨l, hl, rfl⟩
    rw [← e, hs] at this
    exact hne (symN_inj hi hj2 this.2.1).symm

theorem GV.relog {V : Ven} {n : Nat} {M : Int} (h : GV V n M) (G' : Lg) (lm' : Lm) : GV { V with lg := G', lm := lm' } n M := by
  cases h; constructor <;> assumption

theorem idwf {id : Int} {n : Nat} (h1 : 1 ≤ id) (h2 : id ≤ n) (hn : n ≤ 200) : (Lit.int .i64 id).wf = true := WalkArith.wf_i64 (by omega)

theorem numB_small {n : Int} (h1 : 1 ≤ n) (h2 : n ≤ 1000) : numB n = true := numB_of h1 (by omega)

theorem repO_q {o : Ord} {M price qty : Int} (h : Qo M o) (hM : M + 9 ≤ 1000000) (h1 : 1 ≤ qty) (h2 : qty ≤ 9) : Qo (M + 9) (repO o price qty) ∧ (repO o price qty).entered = o.entered + (qty - o.opn) := by
  obtain ⟨a, b, c, d, e, f⟩ := h
  have e1 : (repO o price qty).entered = o.entered + (qty - o.opn) := by
    simp only [repO]
    rw [wrap64_id (x := qty - o.opn) (by omega) (by omega), wrap64_id (by omega) (by omega)]
  refine ⟨⟨?_, by show 0 ≤ qty; omega, c, d, e, by rw [e1]; omega⟩, e1⟩
  rw [e1]
  show _ = qty + o.filled + o.canc + o.exp
  omega

end Go.Proofs.YtigaphnafnpfnaaGreatDoor

/- Good venues: Enter, Status, Book -/
set_option linter.unusedVariables false
set_option linter.unusedSimpArgs false
namespace Go.Proofs.YtigaphnafnpfnaaGreatDoor
open Go.RowKit Go.Maps

/-- an order that a player may send -/
structure AskOK (o : Ask) (n i t : Nat) : Prop where
  id : o.id = (n : Int) + 1
  own : 0 ≤ o.owner ∧ o.owner ≤ 9
  sym : o.sym = symN i
  side : o.side = (t : Int)
  kind : 0 ≤ o.kind ∧ o.kind ≤ 5
  price : priceB o.kind o.price = true
  qty : 1 ≤ o.qty ∧ o.qty ≤ 9

theorem ven_status (bv bm bo n : Nat) (V : Ven) (M id : Int) (w : World) (R : Rep w bv bm bo V) (h : GV V n M) (hn : n ≤ 200) (h1 : 1 ≤ id) (h2 : id ≤ n) :
    Calls Tryz.prog 26 #[.pointer (some ⟨bv, 0, none⟩), .int .i64 id] w fun e w' => ∃ b, V.oid id = some b ∧ e = .returned (.tuple #[.agg (statC (V.om b)), .int .i64 0]) ∧ Chg Non w w' := by
  obtain ⟨b, hb⟩ := h.has h1 h2
  refine (status_some bv bm bo b V id w R (idwf h1 h2 hn) hb ?_).mono ?_
  · rcases h.sym b ⟨id, hb⟩ with e | e <;> rw [e] <;> decide
  · rintro e w' ⟨rfl, k⟩
    exact ⟨b, hb, rfl, k⟩

end Go.Proofs.YtigaphnafnpfnaaGreatDoor

