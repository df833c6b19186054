import Derived.Test.YtigaphnafnpfnaaGreatDoorPVY10
import Derived.Test.YtigaphnafnpfnaaGreatDoorPVF1
import Derived.Test.YtigaphnafnpfnaaGreatDoorPVX26
import Derived.Test.YtigaphnafnpfnaaGreatDoorPVX27
import Derived.Test.YtigaphnafnpfnaaGreatDoorPVX15
import Derived.Test.YtigaphnafnpfnaaGreatDoorPVY3
import Derived.ArgAppend
import Derived.Deep.DeepAppendRoom
set_option linter.unusedVariables false
set_option linter.unusedSimpArgs false
/- The program's venue and the document's, side by side. -/
namespace Go.Proofs.YtigaphnafnpfnaaGreatDoor
open Go.RowKit Go.Maps

theorem Rep.keptF {w w' : World} {bv bm bo : Nat} {V : Ven} (R : Rep w bv bm bo V) {K : Nat → Prop} (k : Chg K w w') (nf : ∀ y, Foot bv bm bo V y → ¬ K y) : Rep w' bv bm bo V := by
  obtain ⟨gB, nB, g1, g2⟩ := R.books
  obtain ⟨gO, nO, g3⟩ := R.orders
  exact ⟨R.log.kept k (nf _ (.inl rfl)) (fun y hy => nf y (.inr (.inr (.inr (.inr (.inr hy)))))), ⟨gB, nB.kept k (nf _ (.inr (.inl rfl))), g1, g2⟩, ⟨gO, nO.kept k (nf _ (.inr (.inr (.inl rfl)))), g3⟩, R.mne,
    fun j hj => (R.book j hj).kept k (fun y hy => nf y (by
      rcases hy with h | ⟨z, hz, h⟩
      · exact .inr (.inr (.inr (.inl ⟨j, hj, .inl h⟩)))
      · exact .inr (.inr (.inr (.inl ⟨j, hj, .inr ⟨z, hz, h⟩⟩))))),
    fun id y h => ⟨(R.ords id y h).1, (R.ords id y h).2.elim fun ix ho => ⟨ix, k.blk ho (nf y (.inr (.inr (.inr (.inr (.inl ⟨id, h⟩))))))⟩⟩, R.mem, R.sepb, R.seps, R.no200⟩

structure Pr where
  bv : Nat
  bm : Nat
  bo : Nat
  rb : Nat
  V : Ven
  A : List RAct
  R : List Rc
  L : ByteArray
  av : Value
  rv : Value
  p : Nat → Nat
  S : RS
  N : Nat

structure PrOK (w : World) (x : Pr) : Prop where
  rep : Rep w x.bv x.bm x.bo x.V
  doc : RV w 0 x.rb x.A x.R x.L x.av x.rv
  sim : SimV x.p x.V x.S x.N
  hist : Hist x.A x.S
  apart : ∀ b, Foot x.bv x.bm x.bo x.V b → ¬ RF x.rb x.av x.rv b
  aN : x.A.length ≤ x.N
  rt : x.V.lg.tp = x.R
  lN : x.L.size ≤ 400 * x.N
  sz : Szs x.V

/-- the blocks of a pair -/
def PF (x : Pr) (b : Nat) : Prop := Foot x.bv x.bm x.bo x.V b ∨ RF x.rb x.av x.rv b

theorem PrOK.lt {w : World} {x : Pr} (h : PrOK w x) {b : Nat} (hb : PF x b) : b < w.heap.size := by
  rcases hb with hb | hb
  · exact h.rep.foot_lt hb
  · exact (h.doc.lt hb).2
theorem PrOK.kept {w w' : World} {x : Pr} (h : PrOK w x) {K : Nat → Prop} (k : Chg K w w') (hK : ∀ b, PF x b → ¬ K b) : PrOK w' x :=
  ⟨h.rep.keptF k (fun b hb => hK b (.inl hb)), h.doc.kept k (fun b hb => hK b (.inr hb)), h.sim, h.hist, h.apart, h.aN, h.rt, h.lN, h.sz⟩
theorem PrOK.kept0 {w w' : World} {x : Pr} (h : PrOK w x) (k : Chg Non w w') : PrOK w' x := h.kept k (fun _ _ z => z)

/-- what has become of a pair -/
def PrN (x : Pr) (w w' : World) : Prop := ∃ x', PrOK w' x' ∧ Chg (PF x) w w' ∧ (∀ b, PF x' b → PF x b ∨ w.heap.size ≤ b) ∧ x'.bv = x.bv ∧ x'.rb = x.rb ∧ x'.N ≤ x.N + 1

theorem PrN.refl {x : Pr} {w w' : World} (h : PrOK w x) (k : Chg Non w w') : PrN x w w' := ⟨x, h.kept0 k, k.of_non, fun b hb => .inl hb, rfl, rfl, by omega⟩
theorem PrN.ext {x : Pr} {w w' w'' : World} (h : PrN x w w') (k : Chg Non w' w'') : PrN x w w'' := by
  obtain ⟨x', h1, h2, h3, h4, h5, h6⟩ := h
  exact ⟨x', h1.kept0 k, h2.trans k.of_non, h3, h4, h5, h6⟩

/-- the document's Do, behind the program's call -/
theorem pr_do {x : Pr} {a : RAct} {f r n i c E : Int} {w w1 w2 : World} (h : PrOK w x) (hN : x.N < 2000000) (hO : Out x.bv x.bm x.bo x.V x.p x.S x.N a f r n i c E w w1) (k2 : Chg Non w1 w2) :
    Calls Tryz.prog 99 #[.pointer (some ⟨x.rb, 0, none⟩), a.val] w2 fun e w' => e = .returned (.tuple #[repV f r n i c, .int .i64 E]) ∧ PrN x w w' := by
  have hA := h.aN
  rcases hO with ⟨hE, k, S', hd⟩ | ⟨rfl, ⟨ln, hl, hln⟩, V', R', ⟨S', p', hs', htp, hd, htold, hsz⟩, k, hf⟩
  · refine (rdo_err 0 x.rb x.A x.R x.L x.av x.rv x.S S' a f r n i c E w2 ((h.doc.kept0 k).kept0 k2) h.hist (by omega) hd hE).mono ?_
    rintro e w' ⟨rfl, k3⟩
    exact ⟨rfl, PrN.refl h ((k.trans k2).trans k3)⟩
  · have d1 : RV w1 0 x.rb x.A x.R x.L x.av x.rv := h.doc.kept k (fun b hb hf => h.apart b hf hb)
    have hR : x.R.length ≤ 300 * x.N := by rw [← h.rt]; exact h.sim.tpN
    have hL := h.lN
    refine (rdo_ok 0 x.rb x.A x.R x.L ln x.av x.rv x.S S' a f r n i c w2 (d1.kept0 k2) h.hist (by omega) hd hl (by omega) (by omega) (by omega)).mono ?_
    rintro e w' ⟨rfl, av', rv', d3, q3, k3⟩
    have nfr : ∀ b, Foot x.bv x.bm x.bo V' b → ¬ RF x.rb x.av x.rv b := fun b hb hr => by
      rcases hf b hb with hx | hx
      · exact h.apart b hx hr
      · have := (h.doc.lt hr).2; omega
    have sz12 := k2.size
    have szw := k.size
    refine ⟨rfl, ⟨x.bv, x.bm, x.bo, x.rb, V', x.A ++ [a], recs x.R S'.told, x.L ++ ln ++ ⟨#[10]⟩, av', rv', p', S', x.N + 1⟩, ?_, ?_, ?_, rfl, rfl, Nat.le_refl _⟩
    · refine ⟨(R'.kept0 k2).keptF k3 nfr, d3, hs', h.hist.snoc hd, fun b hb hr => ?_, ?_, ?_, ?_, hsz⟩
      · rcases q3 b hr with hx | hx
        · exact nfr b hb hx
        · have := R'.foot_lt hb; omega
      · simp only [List.length_append, List.length_singleton]; omega
      · rw [htp, h.rt]
      · simp only [ByteArray.size_append]
        show x.L.size + ln.size + 1 ≤ 400 * (x.N + 1)
        omega
    · refine ((k.mono (fun b hb => .inl hb)).trans k2.of_non).trans (k3.mono (fun b hb => .inr hb))
    · intro b hb
      rcases hb with hb | hb
      · rcases hf b hb with hx | hx
        · exact .inl (.inl hx)
        · exact .inr hx
      · rcases q3 b hb with hx | hx
        · exact .inl (.inr hx)
        · exact .inr (by omega)

/-- Status: the same -/
theorem pr_status {x : Pr} {w : World} (h : PrOK w x) (hN : x.N < 2000000) (id : Int) (hwf : (Lit.int .i64 id).wf = true) : ∃ c E, c.size = 12 ∧ (∀ W, Chg Non w W → Calls Tryz.prog 26 #[.pointer (some ⟨x.bv, 0, none⟩), .int .i64 id] W fun e w' => e = .returned (.tuple #[.agg c, .int .i64 E]) ∧ Chg Non W w') ∧ (∀ W, Chg Non w W → Calls Tryz.prog 101 #[.pointer (some ⟨x.rb, 0, none⟩), .int .i64 id] W fun e w' => e = .returned (.tuple #[.agg c, .int .i64 E]) ∧ Chg Non W w') := by
  have hlen : x.S.l.length ≤ 1000 := by have := h.sim.no; have := h.sim.no200; omega
  have hA := h.aN
  have hf := h.sim.found id
  cases hx : ordX x.S.l id with
  | none =>
    rw [hx] at hf
    exact ⟨zero12, 6, rfl, fun W k => status_none x.bv x.bm x.bo x.V id W (h.rep.kept0 k) hwf hf, fun W k => rstatus_none 0 x.rb x.A x.R x.L x.av x.rv x.S id W (h.doc.kept0 k) h.hist (by omega) hlen hx⟩
  | some j =>
    rw [hx] at hf
    have hj := (ordX_lt hx).1
    obtain ⟨e1, e2, e3, e4, e5, e6, e7, e8, e9, e10, e11, e12⟩ := noP_f (h.sim.same j hj)
    have hst : statC (x.V.om (x.p j)) = statC (nthO x.S.l j) := by simp only [statC, e1, e2, e3, e4, e5, e6, e7, e8, e9, e10, e11, e12]
    refine ⟨statC (nthO x.S.l j), 0, rfl, fun W k => ?_, fun W k => rstatus_some 0 x.rb j x.A x.R x.L x.av x.rv x.S id W (h.doc.kept0 k) h.hist (by omega) hlen hx⟩
    rw [← hst]
    refine status_some x.bv x.bm x.bo (x.p j) x.V id W (h.rep.kept0 k) hwf hf ?_
    obtain ⟨i, hi, e⟩ := h.sim.gw.sym (x.p j) ⟨id, hf⟩
    rw [e]
    have := h.sz i hi
    omega

end Go.Proofs.YtigaphnafnpfnaaGreatDoor

set_option linter.unusedVariables false
set_option linter.unusedSimpArgs false
/- Book: the program's levels, and the document's. -/
namespace Go.Proofs.YtigaphnafnpfnaaGreatDoor
open Go.RowKit Go.Maps

/-- what a book is asked, and its answer -/
def BookIs (S : RS) (sym : ByteArray) (side : Int) (ls : List Lvl) (E : Int) : Prop :=
  (E = 6 ∧ ls = [] ∧ symB S.sy sym = false) ∨ (E = 4 ∧ ls = [] ∧ symB S.sy sym = true ∧ sideB side = false) ∨ (E = 0 ∧ symB S.sy sym = true ∧ (side = 0 ∨ side = 1) ∧ BEnds S.l sym side ls.length [] ls ∧ ls.length ≤ 200)

theorem SimV.book {p : Nat → Nat} {V : Ven} {S : RS} {N : Nat} (h : SimV p V S N) (hN : N < 2900000) {i s : Nat} (hi : i < V.nb) (hs : s < 2) {ys : List Nat} (hy : SortYs V.om ((V.B i).n s) ((V.B i).h s) ys) :
    BEnds S.l (V.B i).sym (s : Int) (levelsOf (ordsOf V.om ys)).length [] (levelsOf (ordsOf V.om ys)) ∧ (levelsOf (ordsOf V.om ys)).length ≤ 200 := by
  have hM : mN N ≤ 1000000000000000 := by unfold mN; omega
  obtain ⟨hp, hso⟩ := hy
  have hcnt := h.count hi hs
  have hno := h.no200
  have hmem : ∀ y ∈ ys, VL V y ∧ (V.om y).side = (s : Int) := fun y hy2 => by
    have := hp.mem_iff.1 hy2
    unfold upto at this
    rw [List.mem_map] at this
    obtain ⟨k, hk, rfl⟩ := this
    rw [List.mem_range] at hk
    have := ((h.gw.gb i hi).mem s hs _).1 ⟨k, hk, rfl⟩
    exact ⟨this.1, this.2.2.1⟩
  have hlen : (ordsOf V.om ys).length ≤ 200 := by
    unfold ordsOf
    rw [List.length_map, hp.length_eq, upto_length]
    omega
  have hl2 := levels_length (ordsOf V.om ys) []
  have hL : (levelsOf (ordsOf V.om ys)).length ≤ 200 := by
    unfold levelsOf
    simp only [List.length_nil] at hl2
    omega
  refine ⟨?_, hL⟩
  have hspec := lv_spec (s : Int) (ordsOf V.om ys) (by omega) (fun o ho => by
    unfold ordsOf at ho
    rw [List.mem_map] at ho
    obtain ⟨y, hy2, rfl⟩ := ho
    have q := h.gw.q y (hmem y hy2).1
    have := q.o0; have := q.f0; have := q.c0; have := q.e0; have := q.sum; have := q.hi
    omega) (by
    unfold ordsOf
    rw [List.pairwise_map]
    have hpw : ys.Pairwise (fun a b => (a ∈ ys ∧ b ∈ ys) ∧ ltB V.om b a = false) := by
      rw [List.pairwise_iff_getElem] at hso ⊢
      intro a b ha hb hab
      exact ⟨⟨List.getElem_mem ha, List.getElem_mem hb⟩, hso a b ha hb hab⟩
    refine hpw.imp ?_
    rintro a b ⟨⟨ha, hb⟩, hlt⟩
    unfold ltB at hlt
    rw [lessB_iff'] at hlt
    rw [(hmem b hb).2] at hlt
    unfold bef
    intro hx
    exact hlt (.inl hx))
  refine book_ends s hs S.l (V.B i).sym ((ordsOf V.om ys).map po) _ (by have := h.no; omega) (fun k hk => by have := h.opn hk; omega) ?_ hspec
  have hperm := h.perm hi hs
  have h1 : ((ordsOf V.om ys).map po).Perm (((upto ((V.B i).h s) ((V.B i).n s)).map V.om).map po) := by
    unfold ordsOf
    exact ((hp.map _).map _)
  refine h1.trans ?_
  refine ((hperm.map V.om).map po).trans ?_
  rw [List.map_map, List.map_map, List.map_map]
  refine List.Perm.of_eq (List.map_congr_left (fun k hk => ?_))
  obtain ⟨_, _, _, _, _, e6, _, _, e9, _⟩ := noP_f (h.same k (mem_idx.1 hk).1)
  simp only [Function.comp, po, e6, e9]

theorem pr_book {x : Pr} {w : World} (h : PrOK w x) (hN : x.N < 2000000) (sym : ByteArray) (side : Int) (hs : sym.size ≤ 1000000000) : Calls Tryz.prog 25 #[.pointer (some ⟨x.bv, 0, none⟩), .string sym, .int .i64 side] w fun e w' => ∃ v ls E, e = .returned (.tuple #[v, .int .i64 E]) ∧ LevV w.heap.size w' v ls ∧ Chg Non w w' ∧ BookIs x.S sym side ls E := by
  have hml : sym.size ≤ maxLen := by unfold maxLen; omega
  cases hx : symB x.S.sy sym
  · refine (book_unknown x.bv x.bm x.bo x.V sym side w h.rep hml (fun i hi e => ?_)).mono ?_
    · rw [(h.sim.there _).2 ⟨i, hi, e⟩] at hx; exact absurd hx (by decide)
    · rintro e w' ⟨rfl, k⟩
      exact ⟨_, [], 6, rfl, .inl ⟨rfl, rfl⟩, k, .inl ⟨rfl, rfl, hx⟩⟩
  · obtain ⟨i, hi, rfl⟩ := (h.sim.there _).1 hx
    cases hsd : sideB side
    · refine (book_range x.bv x.bm x.bo i x.V side w h.rep hi hml hsd).mono ?_
      rintro e w' ⟨rfl, k⟩
      exact ⟨_, [], 4, rfl, .inl ⟨rfl, rfl⟩, k, .inr (.inl ⟨rfl, rfl, hx, hsd⟩)⟩
    · have hs2 : side = 0 ∨ side = 1 := by unfold sideB at hsd; simpa using hsd
      obtain ⟨s, hs3, rfl⟩ : ∃ s : Nat, s < 2 ∧ side = (s : Int) := by
        rcases hs2 with e | e
        · exact ⟨0, by omega, e⟩
        · exact ⟨1, by omega, e⟩
      refine (book_ok x.bv x.bm x.bo i s x.V w h.rep hi hs3 hml (fun j hj => (h.sim.gw.gb i hi).side hs3 hj)).mono ?_
      rintro e w' ⟨v, rfl, ys, hy, hlv, hb⟩
      obtain ⟨b1, b2⟩ := h.sim.book (by omega) hi hs3 hy
      exact ⟨v, _, 0, rfl, hlv, Chg.of_below hb, .inr (.inr ⟨rfl, hx, hs2, b1, b2⟩)⟩

theorem pr_rbook {x : Pr} {w : World} (h : PrOK w x) (hN : x.N < 2000000) {sym : ByteArray} {side : Int} {ls : List Lvl} {E : Int} (hb : BookIs x.S sym side ls E) : Calls Tryz.prog 102 #[.pointer (some ⟨x.rb, 0, none⟩), .string sym, .int .i64 side] w fun e w' => ∃ v, e = .returned (.tuple #[v, .int .i64 E]) ∧ w'.ownsRow w.heap.size 93 3 v ls.length (flat ls) ∧ Chg Non w w' := by
  have hlen : x.S.l.length ≤ 1000 := by have := h.sim.no; have := h.sim.no200; omega
  have hsy : x.S.sy.length ≤ 1000 := by have := h.sim.nb; have := h.sim.nb6; omega
  have hA := h.aN
  rcases hb with ⟨rfl, rfl, h1⟩ | ⟨rfl, rfl, h1, h2⟩ | ⟨rfl, h1, h2 | h2, h3, h4⟩
  · refine (rbook_unknown 0 x.rb x.A x.R x.L x.av x.rv x.S sym side w h.doc h.hist (by omega) hsy h1).mono ?_
    rintro e w' ⟨rfl, k⟩
    exact ⟨_, rfl, World.ownsRow_nil _ _ _ _, k⟩
  · refine (rbook_range 0 x.rb x.A x.R x.L x.av x.rv x.S sym side w h.doc h.hist (by omega) hsy h1 h2).mono ?_
    rintro e w' ⟨rfl, k⟩
    exact ⟨_, rfl, World.ownsRow_nil _ _ _ _, k⟩
  · subst h2
    exact rbook_buy 0 x.rb ls.length x.A x.R x.L x.av x.rv x.S sym ls w h.doc h.hist (by omega) hlen hsy h1 h3 (by omega)
  · subst h2
    exact rbook_sell 0 x.rb ls.length x.A x.R x.L x.av x.rv x.S sym ls w h.doc h.hist (by omega) hlen hsy h1 h3 (by omega)

end Go.Proofs.YtigaphnafnpfnaaGreatDoor

set_option linter.unusedVariables false
set_option linter.unusedSimpArgs false
/- A pair of venues beside other things. -/
namespace Go.Proofs.YtigaphnafnpfnaaGreatDoor
open Go.RowKit Go.Maps

def PrK (x : Pr) (K : Nat → Prop) (w w' : World) : Prop := ∃ x', PrOK w' x' ∧ Chg (fun b => PF x b ∨ K b) w w' ∧ (∀ b, PF x' b → PF x b ∨ w.heap.size ≤ b) ∧ x'.bv = x.bv ∧ x'.rb = x.rb ∧ x'.N ≤ x.N + 1

theorem PrK.of {x : Pr} {K : Nat → Prop} {w0 w w' : World} (k0 : Chg Non w0 w) (h : PrK x K w w') (hK : ∀ b, K b → w0.heap.size ≤ b) : PrN x w0 w' := by
  obtain ⟨x', h1, h2, h3, h4, h5, h6⟩ := h
  exact ⟨x', h1, k0.of_non.from (h2.mono (fun b hb => hb.elim .inl (fun y => .inr (hK b y)))), fun b hb => (h3 b hb).imp_right (fun y => Nat.le_trans k0.size y), h4, h5, h6⟩
theorem PrK.more {x : Pr} {K K' : Nat → Prop} {w w' w'' : World} (h : PrK x K w w') (k : Chg K' w' w'') (hK : ∀ b, K' b → ¬ PF x b ∧ b < w.heap.size) : PrK x (fun b => K b ∨ K' b) w w'' := by
  obtain ⟨x', h1, h2, h3, h4, h5, h6⟩ := h
  refine ⟨x', h1.kept k (fun b hb hk => ?_), (h2.mono (fun b hb => hb.imp_right .inl)).trans (k.mono (fun b hb => .inr (.inr hb))), h3, h4, h5, h6⟩
  rcases h3 b hb with y | y
  · exact (hK b hk).1 y
  · have := (hK b hk).2; omega

theorem Out.chg {bv bm bo : Nat} {V : Ven} {p : Nat → Nat} {S : RS} {N : Nat} {a : RAct} {f r n i c E : Int} {w w1 : World} (h : Out bv bm bo V p S N a f r n i c E w w1) : Chg (Foot bv bm bo V) w w1 := by
  rcases h with ⟨_, k, _⟩ | ⟨_, _, V', _, _, k, _⟩
  · exact k.of_non
  · exact k

theorem pr_doK {x : Pr} {a : RAct} {f r n i c E : Int} {K : Nat → Prop} {w w1 w2 : World} (h : PrOK w x) (hN : x.N < 2000000) (hO : Out x.bv x.bm x.bo x.V x.p x.S x.N a f r n i c E w w1) (k2 : Chg K w1 w2) (hK : ∀ b, K b → ¬ PF x b ∧ b < w.heap.size) :
    Calls Tryz.prog 99 #[.pointer (some ⟨x.rb, 0, none⟩), a.val] w2 fun e w' => e = .returned (.tuple #[repV f r n i c, .int .i64 E]) ∧ PrK x K w w' ∧ Chg (RF x.rb x.av x.rv) w2 w' := by
  have hA := h.aN
  rcases hO with ⟨hE, k, S', hd⟩ | ⟨rfl, ⟨ln, hl, hln⟩, V', R', ⟨S', p', hs', htp, hd, htold, hsz⟩, k, hf⟩
  · have d2 := (h.doc.kept0 k).kept k2 (fun b hb hk => (hK b hk).1 (.inr hb))
    refine (rdo_err 0 x.rb x.A x.R x.L x.av x.rv x.S S' a f r n i c E w2 d2 h.hist (by omega) hd hE).mono ?_
    rintro e w' ⟨rfl, k3⟩
    exact ⟨rfl, ⟨x, ((h.kept0 k).kept k2 (fun b hb hk => (hK b hk).1 hb)).kept0 k3, (k.of_non.trans (k2.mono (fun b hb => .inr hb))).trans k3.of_non, fun b hb => .inl hb, rfl, rfl, by omega⟩, k3.of_non⟩
  · have d1 : RV w1 0 x.rb x.A x.R x.L x.av x.rv := h.doc.kept k (fun b hb hf => h.apart b hf hb)
    have hR : x.R.length ≤ 300 * x.N := by rw [← h.rt]; exact h.sim.tpN
    have hL := h.lN
    refine (rdo_ok 0 x.rb x.A x.R x.L ln x.av x.rv x.S S' a f r n i c w2 (d1.kept k2 (fun b hb hk => (hK b hk).1 (.inr hb))) h.hist (by omega) hd hl (by omega) (by omega) (by omega)).mono ?_
    rintro e w' ⟨rfl, av', rv', d3, q3, k3⟩
    have nfr : ∀ b, Foot x.bv x.bm x.bo V' b → ¬ RF x.rb x.av x.rv b := fun b hb hr => by
      rcases hf b hb with hx | hx
      · exact h.apart b hx hr
      · have := (h.doc.lt hr).2; omega
    have nfk : ∀ b, Foot x.bv x.bm x.bo V' b → ¬ K b := fun b hb hk => by
      rcases hf b hb with hx | hx
      · exact (hK b hk).1 (.inl hx)
      · have := (hK b hk).2; omega
    have sz12 := k2.size
    have szw := k.size
    refine ⟨rfl, ⟨⟨x.bv, x.bm, x.bo, x.rb, V', x.A ++ [a], recs x.R S'.told, x.L ++ ln ++ ⟨#[10]⟩, av', rv', p', S', x.N + 1⟩, ?_, ?_, ?_, rfl, rfl, Nat.le_refl _⟩, k3⟩
    · refine ⟨(R'.keptF k2 nfk).keptF k3 nfr, d3, hs', h.hist.snoc hd, fun b hb hr => ?_, ?_, ?_, ?_, hsz⟩
      · rcases q3 b hr with hx | hx
        · exact nfr b hb hx
        · have := R'.foot_lt hb; omega
      · simp only [List.length_append, List.length_singleton]; omega
      · rw [htp, h.rt]
      · simp only [ByteArray.size_append]
        show x.L.size + ln.size + 1 ≤ 400 * (x.N + 1)
        omega
    · refine ((k.mono (fun b hb => .inl (.inl hb))).trans (k2.mono (fun b hb => .inr hb))).trans (k3.mono (fun b hb => .inl (.inr hb)))
    · intro b hb
      rcases hb with hb | hb
      · rcases hf b hb with hx | hx
        · exact .inl (.inl hx)
        · exact .inr hx
      · rcases q3 b hb with hx | hx
        · exact .inl (.inr hx)
        · exact .inr (by omega)

/-- one call of a script -/
structure Opx where
  kind : Int
  m : Int
  a : Int
  b : Int
  c : Int
  s : ByteArray
  o : Ask

def Opx.cells (o : Opx) : Array Value := #[.int .i64 o.kind, .int .i64 o.m, .int .i64 o.a, .int .i64 o.b, .int .i64 o.c, .string o.s, .int .i64 o.o.id, .int .i64 o.o.owner, .string o.o.sym, .int .i64 o.o.side, .int .i64 o.o.kind, .int .i64 o.o.price, .int .i64 o.o.qty]
def Opx.val (o : Opx) : Value := .agg o.cells

/-- its numbers and words are those of the language -/
structure OpOK (o : Opx) : Prop where
  m : i64B o.m
  a : i64B o.a
  id : i64B o.o.id
  own : i64B o.o.owner
  kd : i64B o.o.kind
  pr : i64B o.o.price
  s : o.s.size ≤ 100000000
  sym : o.o.sym.size ≤ 100000000

theorem i64_wf {n : Int} (h : i64B n) : (Lit.int .i64 n).wf = true := WalkArith.wf_i64 (by unfold i64B at h; omega)

end Go.Proofs.YtigaphnafnpfnaaGreatDoor

set_option linter.unusedVariables false
set_option linter.unusedSimpArgs false
/- The player's world: pairs of venues, lists that came out. -/
namespace Go.Proofs.YtigaphnafnpfnaaGreatDoor
open Go.RowKit Go.Maps

def marks (mk : Int) : Nat → List Value
  | 0 => []
  | n + 1 => marks mk n ++ [.int .i64 mk, .int .i64 0, .int .i64 0]
theorem marks_len (mk : Int) : ∀ n, (marks mk n).length = n * 3
  | 0 => rfl
  | n + 1 => by rw [marks, List.length_append, marks_len mk n]; simp; omega
theorem marks_take (mk : Int) {k n : Nat} (h : k ≤ n) : (marks mk n).take (k * 3) = marks mk k := by
  induction n with
  | zero => have : k = 0 := by omega
            subst this; rfl
  | succ n ih =>
    by_cases e : k = n + 1
    · subst e; rw [List.take_of_length_le (by rw [marks_len]; omega)]
    · rw [marks, List.take_append_of_le_length (by rw [marks_len]; omega)]
      exact ih (by omega)
theorem marks_at (mk : Int) {i n j : Nat} (h : i < n) (hj : j < 3) : (marks mk n)[i * 3 + j]? = [Value.int .i64 mk, .int .i64 0, .int .i64 0][j]? := by
  induction n with
  | zero => omega
  | succ n ih =>
    rw [marks]
    by_cases e : i = n
    · subst e
      rw [List.getElem?_append_right (by rw [marks_len]; omega), marks_len]
      congr 1
      omega
    · rw [List.getElem?_append_left (by rw [marks_len]; omega)]
      exact ih (by omega)

/-- a list every place of which is marked -/
def SlM (w : World) (mk : Int) (v : Value) : Prop := ∃ a k c, v = .slice a k c ∧ k ≤ 100000 ∧ (k = 0 ∨ ∃ g cs, a = some ⟨g, 0, none⟩ ∧ Blk w g cs 93 ∧ cs.toList.take (k * 3) = marks mk k)

theorem SlM.kept {w w' : World} {mk : Int} {v : Value} (h : SlM w mk v) {K : Nat → Prop} (k : Chg K w w') (hK : ∀ b, v.ownBlock = some b → ¬ K b) : SlM w' mk v := by
  obtain ⟨a, n, c, rfl, hn, h1⟩ := h
  refine ⟨a, n, c, rfl, hn, ?_⟩
  rcases h1 with h1 | ⟨g, cs, rfl, h2, h3⟩
  · exact .inl h1
  · exact .inr ⟨g, cs, rfl, k.blk h2 (hK g rfl), h3⟩

structure Hd where
  hb : Nat
  lv : Value
  sls : List Value
  mrk : Int

structure HdOK (w : World) (h : Hd) : Prop where
  blk : Blk w h.hb #[h.lv, .slice none 0 0, .slice none 0 0, .int .i64 h.mrk] 178
  lrow : w.ownsRow 0 63 1 h.lv h.sls.length h.sls
  each : ∀ v ∈ h.sls, SlM w h.mrk v
  len : h.sls.length ≤ 1000

def HdF (h : Hd) (b : Nat) : Prop := b = h.hb ∨ h.lv.ownBlock = some b ∨ ∃ v ∈ h.sls, v.ownBlock = some b

theorem HdOK.kept {w w' : World} {h : Hd} (x : HdOK w h) {K : Nat → Prop} (k : Chg K w w') (hK : ∀ b, HdF h b → ¬ K b) : HdOK w' h :=
  ⟨k.blk x.blk (hK _ (.inl rfl)), own_kept x.lrow k (fun b hb => hK b (.inr (.inl hb))), fun v hv => (x.each v hv).kept k (fun b hb => hK b (.inr (.inr ⟨v, hv, hb⟩))), x.len⟩

def pairL (x : Pr) : List Value := [.pointer (some ⟨x.bv, 0, none⟩), .pointer (some ⟨x.rb, 0, none⟩)]
def flatP (X : List Pr) : List Value := X.flatMap pairL
def holdV (h : Hd) : Value := .pointer (some ⟨h.hb, 0, none⟩)

structure PW (w0 w : World) (wb : Nat) (X : List Pr) (Hs : List Hd) (pv hv : Value) (N : Nat) : Prop where
  blk : Blk w wb #[pv, hv] 78
  prow : w.ownsRow 0 131 2 pv X.length (flatP X)
  hrow : w.ownsRow 0 133 1 hv Hs.length (Hs.map holdV)
  prs : ∀ x ∈ X, PrOK w x ∧ x.N ≤ N
  sep : X.Pairwise (fun x y => ∀ b, PF x b → ¬ PF y b)
  own : ∀ x ∈ X, ∀ b, PF x b → w0.heap.size ≤ b ∧ b ≠ wb ∧ pv.ownBlock ≠ some b ∧ hv.ownBlock ≠ some b ∧ ∀ h ∈ Hs, ¬ HdF h b
  hds : ∀ h ∈ Hs, HdOK w h
  hown : ∀ h ∈ Hs, ∀ b, HdF h b → w0.heap.size ≤ b ∧ b ≠ wb ∧ pv.ownBlock ≠ some b ∧ hv.ownBlock ≠ some b ∧ b < w.heap.size
  ge : w0.heap.size ≤ wb ∧ (∀ b, pv.ownBlock = some b → w0.heap.size ≤ b) ∧ (∀ b, hv.ownBlock = some b → w0.heap.size ≤ b)
  chg : Chg Non w0 w
  tab : Tab w0
  xl : X.length ≤ N + 1
  hl : Hs.length ≤ N

/-- nothing of it is touched -/
theorem PW.kept {w0 w w' : World} {wb : Nat} {X : List Pr} {Hs : List Hd} {pv hv : Value} {N : Nat} (h : PW w0 w wb X Hs pv hv N) {K : Nat → Prop} (k : Chg K w w') (hX : ∀ x ∈ X, ∀ b, PF x b → ¬ K b) (hH : ∀ x ∈ Hs, ∀ b, HdF x b → ¬ K b) (hw : ¬ K wb) (hp : ∀ b, pv.ownBlock = some b → ¬ K b) (hh : ∀ b, hv.ownBlock = some b → ¬ K b) (hge : ∀ b, K b → w0.heap.size ≤ b) : PW w0 w' wb X Hs pv hv N :=
  ⟨k.blk h.blk hw, own_kept h.prow k hp, own_kept h.hrow k hh, fun x hx => ⟨(h.prs x hx).1.kept k (hX x hx), (h.prs x hx).2⟩, h.sep, h.own, fun x hx => (h.hds x hx).kept k (hH x hx), fun x hx b hb => by
    obtain ⟨a1, a2, a3, a4, a5⟩ := h.hown x hx b hb
    exact ⟨a1, a2, a3, a4, Nat.lt_of_lt_of_le a5 k.size⟩, h.ge, h.chg.from (k.mono (fun b hb => .inr (hge b hb))), h.tab, h.xl, h.hl⟩
theorem PW.kept0 {w0 w w' : World} {wb : Nat} {X : List Pr} {Hs : List Hd} {pv hv : Value} {N : Nat} (h : PW w0 w wb X Hs pv hv N) (k : Chg Non w w') : PW w0 w' wb X Hs pv hv N :=
  h.kept k (fun _ _ _ _ z => z) (fun _ _ _ _ z => z) (fun z => z) (fun _ _ z => z) (fun _ _ z => z) (fun _ z => z.elim)
theorem PW.mono {w0 w : World} {wb : Nat} {X : List Pr} {Hs : List Hd} {pv hv : Value} {N N' : Nat} (h : PW w0 w wb X Hs pv hv N) (hN : N ≤ N') : PW w0 w wb X Hs pv hv N' :=
  ⟨h.blk, h.prow, h.hrow, fun x hx => ⟨(h.prs x hx).1, Nat.le_trans (h.prs x hx).2 hN⟩, h.sep, h.own, h.hds, h.hown, h.ge, h.chg, h.tab, by have := h.xl; omega, by have := h.hl; omega⟩

theorem flatP_set {X : List Pr} {i : Nat} {x x' : Pr} (hi : X[i]? = some x) (h1 : x'.bv = x.bv) (h2 : x'.rb = x.rb) : flatP (X.set i x') = flatP X := by
  unfold flatP
  induction X generalizing i with
  | nil => simp at hi
  | cons y X ih =>
    cases i with
    | zero =>
      simp only [List.getElem?_cons_zero, Option.some.injEq] at hi
      subst hi
      simp only [List.set_cons_zero, List.flatMap_cons, pairL, h1, h2]
    | succ i =>
      simp only [List.getElem?_cons_succ] at hi
      simp only [List.set_cons_succ, List.flatMap_cons]
      rw [ih hi]

/-- one of the pairs has turned -/
theorem PW.turn {w0 w w' : World} {wb : Nat} {X : List Pr} {Hs : List Hd} {pv hv : Value} {N i : Nat} {x : Pr} (h : PW w0 w wb X Hs pv hv N) (hi : X[i]? = some x) (hn : PrN x w w') : ∃ X', PW w0 w' wb X' Hs pv hv (N + 1) ∧ X'.length = X.length := by
  obtain ⟨x', p', k, f', e1, e2, e3⟩ := hn
  have hx : x ∈ X := List.mem_of_getElem? hi
  have hil := (List.getElem?_eq_some_iff.1 hi).1
  have ox := h.own x hx
  have px := h.prs x hx
  have hlen : (X.set i x').length = X.length := by simp
  have old : ∀ j y, (X.set i x')[j]? = some y → (j = i ∧ y = x') ∨ (j ≠ i ∧ X[j]? = some y) := fun j y hj => by
    by_cases e : i = j
    · subst e
      rw [List.getElem?_set_self hil] at hj
      exact .inl ⟨rfl, (Option.some.inj hj).symm⟩
    · rw [List.getElem?_set_ne e] at hj
      exact .inr ⟨fun z => e z.symm, hj⟩
  have hpw := List.pairwise_iff_getElem.1 h.sep
  have apart : ∀ j y, j ≠ i → X[j]? = some y → ∀ b, PF y b → ¬ PF x b := fun j y hj hy b hb hb2 => by
    obtain ⟨hjl, ej⟩ := List.getElem?_eq_some_iff.1 hy
    obtain ⟨_, ei⟩ := List.getElem?_eq_some_iff.1 hi
    rcases Nat.lt_or_ge j i with c | c
    · have := hpw j i hjl hil c
      rw [ej, ei] at this
      exact this b hb hb2
    · have := hpw i j hil hjl (by omega)
      rw [ej, ei] at this
      exact this b hb2 hb
  have othk : ∀ j y, j ≠ i → X[j]? = some y → PrOK w' y := fun j y hj hy => (h.prs y (List.mem_of_getElem? hy)).1.kept k (apart j y hj hy)
  have new : ∀ b, PF x' b → w.heap.size ≤ b ∨ PF x b := fun b hb => (f' b hb).symm
  have wbl := h.blk.lt
  refine ⟨X.set i x', ⟨k.blk h.blk (fun hf => (ox _ hf).2.1 rfl), ?_, own_kept h.hrow k (fun b hb hf => (ox b hf).2.2.2.1 hb), fun y hy => ?_, ?_, fun y hy b hb => ?_, fun z hz => (h.hds z hz).kept k (fun b hb hf => (ox b hf).2.2.2.2 z hz hb), fun z hz b hb => ?_, h.ge, h.chg.from (k.mono (fun b hb => .inr (ox b hb).1)), h.tab, by rw [hlen]; have := h.xl; omega, by have := h.hl; omega⟩, hlen⟩
  · rw [hlen, flatP_set hi e1 e2]
    exact own_kept h.prow k (fun b hb hf => (ox b hf).2.2.1 hb)
  · obtain ⟨j, hj⟩ := List.getElem?_of_mem hy
    rcases old j y hj with ⟨_, rfl⟩ | ⟨e, hj2⟩
    · exact ⟨p', by have := px.2; omega⟩
    · exact ⟨othk j y e hj2, by have := (h.prs y (List.mem_of_getElem? hj2)).2; omega⟩
  · rw [List.pairwise_iff_getElem]
    intro a b ha hb hab
    have ga := old a _ (List.getElem?_eq_getElem ha)
    have gb := old b _ (List.getElem?_eq_getElem hb)
    intro c hc1 hc2
    rcases ga with ⟨ea, eqa⟩ | ⟨ea, eqa⟩ <;> rcases gb with ⟨eb, eqb⟩ | ⟨eb, eqb⟩
    · omega
    · rw [eqa] at hc1
      rcases new c hc1 with y | y
      · have := (h.prs _ (List.mem_of_getElem? eqb)).1.lt hc2; omega
      · exact apart b _ eb eqb c hc2 y
    · rw [eqb] at hc2
      rcases new c hc2 with y | y
      · have := (h.prs _ (List.mem_of_getElem? eqa)).1.lt hc1; omega
      · exact apart a _ ea eqa c hc1 y
    · obtain ⟨al, e5⟩ := List.getElem?_eq_some_iff.1 eqa
      obtain ⟨bl, e6⟩ := List.getElem?_eq_some_iff.1 eqb
      have := hpw a b al bl hab
      rw [e5, e6] at this
      exact this c hc1 hc2
  · obtain ⟨j, hj⟩ := List.getElem?_of_mem hy
    rcases old j y hj with ⟨_, rfl⟩ | ⟨e, hj2⟩
    · rcases new b hb with c | c
      · have sz := h.chg.size
        refine ⟨by omega, by omega, fun e => ?_, fun e => ?_, fun z hz hf => ?_⟩
        · have := (h.prow.lt _ e).2; omega
        · have := (h.hrow.lt _ e).2; omega
        · have := (h.hown z hz b hf).2.2.2.2; omega
      · exact ox b c
    · exact h.own y (List.mem_of_getElem? hj2) b hb
  · obtain ⟨a1, a2, a3, a4, a5⟩ := h.hown z hz b hb
    exact ⟨a1, a2, a3, a4, Nat.lt_of_lt_of_le a5 k.size⟩

end Go.Proofs.YtigaphnafnpfnaaGreatDoor

set_option linter.unusedVariables false
set_option linter.unusedSimpArgs false
/- venuelaw: marked, looks. -/
namespace Go.Proofs.YtigaphnafnpfnaaGreatDoor
open Go.RowKit
attribute [local go_sem ↓] Go.wp_at_zero Go.wp_at_succ

theorem row1_at {w : World} {base e n c : Nat} {a : Option Addr} {xs : List Value} (h : w.ownsRow base e 1 (.slice a n c) n xs) {i : Nat} {v : Value} (hn : xs.length = n) (hi : xs[i]? = some v) : ∃ g, a = some ⟨g, 0, none⟩ ∧ g < w.heap.size ∧ w.cell? ⟨g, i, none⟩ = some v := by
  have hi' := (List.getElem?_eq_some_iff.1 hi).1
  obtain ⟨g, rfl, _⟩ := row_some h (by omega)
  refine ⟨g, rfl, (h.lt g rfl).2, ?_⟩
  rw [h.cellAt _ (by omega)]
  exact hi

theorem SlM.at {w : World} {mk : Int} {a : Option Addr} {k c : Nat} (h : SlM w mk (.slice a k c)) {j : Nat} (hj : j < k) : ∃ g, a = some ⟨g, 0, none⟩ ∧ g < w.heap.size ∧ w.cell? ⟨g, j * 3, none⟩ = some (.int .i64 mk) ∧ w.cell? ⟨g, j * 3 + 1, none⟩ = some (.int .i64 0) ∧ w.cell? ⟨g, j * 3 + 2, none⟩ = some (.int .i64 0) := by
  obtain ⟨a', k', c', e, _, h1⟩ := h
  injection e with e1 e2 e3
  subst e1 e2 e3
  rcases h1 with h1 | ⟨g, cs, rfl, h2, h3⟩
  · omega
  · refine ⟨g, rfl, h2.lt, ?_⟩
    have key : ∀ i, i < 3 → w.cell? ⟨g, j * 3 + i, none⟩ = [Value.int .i64 mk, .int .i64 0, .int .i64 0][i]? := fun i hi => by
      rw [h2.cell, ← marks_at mk hj hi, ← h3, List.getElem?_take, if_pos (by omega), Array.getElem?_toList]
    exact ⟨key 0 (by omega), key 1 (by omega), key 2 (by omega)⟩

set_option maxRecDepth 100000 in
set_option maxHeartbeats 8000000 in
theorem marked_any (h : Hd) (w : World) (hk : HdOK w h) : Calls Tryz.prog 62 #[.pointer (some ⟨h.hb, 0, none⟩)] w fun e w' => e = .returned (.bool true) ∧ Chg Non w w' := by
  obtain ⟨hb, lv, sls, mk⟩ := h
  have hbl := hk.blk
  have hrow := hk.lrow
  have hlen := hk.len
  simp only at hbl hrow hlen
  obtain ⟨la, lc, rfl⟩ := row_slice hrow
  have h0 : w.cell? ⟨hb, 0, none⟩ = some (.slice la sls.length lc) := hbl.cell 0
  have h1 : w.cell? ⟨hb, 1, none⟩ = some (.slice none 0 0) := hbl.cell 1
  have h2 : w.cell? ⟨hb, 2, none⟩ = some (.slice none 0 0) := hbl.cell 2
  have h3 : w.cell? ⟨hb, 3, none⟩ = some (.int .i64 mk) := hbl.cell 3
  have HR : Hid (∀ i, i < sls.length → ∃ g a k c, la = some ⟨g, 0, none⟩ ∧ g < w.heap.size ∧ w.cell? ⟨g, i, none⟩ = some (.slice a k c) ∧ k ≤ 100000 ∧ SlM w mk (.slice a k c)) := fun i hi => by
    obtain ⟨v, hv⟩ : ∃ v, sls[i]? = some v := ⟨_, List.getElem?_eq_getElem hi⟩
    obtain ⟨g, e, l, hc⟩ := row1_at hrow rfl hv
    have hs : SlM w mk v := hk.each v (List.mem_of_getElem? hv)
    have hs2 := hs
    obtain ⟨a, k, c, rfl, hk100, _⟩ := hs2
    exact ⟨g, a, k, c, e, l, hc, hk100, hs⟩
  obtain ⟨n, hn⟩ : ∃ n, sls.length = n := ⟨_, rfl⟩
  rw [hn] at HR h0 hlen
  clear hk hbl hrow hn
  go_enter Tryz.func62, Tryz.ntmps62
  go_wp2
  go_loopg [3] n (fun k iv wr => ∃ i q : Nat, iv = .int .i64 (i : Int) ∧ i ≤ n ∧ k = n - i ∧ wr = w.drewN q)
  case atStart => exact ⟨0, 0, rfl, Nat.zero_le _, rfl, rfl⟩
  case round =>
    obtain ⟨i, q, rfl, hi, hgk, rfl⟩ := hrel
    have HGK := hide hgk
    clear hgk
    by_cases hlt : i < n
    · obtain ⟨g, a, k, c, rfl, lg, hc, hk100, hsl⟩ := unhide HR i hlt
      have HSL := hide hsl
      clear hsl
      go_wp2
      go_loopg [4] k (fun z jv wr => ∃ j q2 : Nat, jv = .int .i64 (j : Int) ∧ j ≤ k ∧ z = k - j ∧ wr = w.drewN q2)
      case atStart => exact ⟨0, q, rfl, Nat.zero_le _, rfl, rfl⟩
      case round =>
        obtain ⟨j, q2, rfl, hj, hgj, rfl⟩ := hrel
        by_cases hjl : j < k
        · obtain ⟨g2, rfl, lg2, y0, y1, y2⟩ := (unhide HSL).at hjl
          go_wp2
          go_quiet (fail)
          go_wp2
          go_roundg (k - (j + 1))
          case measure => omega
          case rel => exact ⟨j + 1, q2 + nq, by push_cast; rfl, by omega, rfl, by first | rfl | simp⟩
        · obtain rfl : j = k := by omega
          go_wp2
          go_roundg (n - (i + 1))
          case measure => have := unhide HGK; omega
          case rel => exact ⟨i + 1, q2, by push_cast; rfl, by omega, rfl, rfl⟩
    · obtain rfl : i = n := by omega
      go_wp2
      go_loopg [5] 0 (fun z jv wr => jv = .int .i64 0 ∧ wr = w.drewN q)
      case atStart => exact ⟨rfl, rfl⟩
      case round =>
        obtain ⟨rfl, rfl⟩ := hrel
        go_wp2
        go_loopg [7] 0 (fun z jv wr => jv = .int .i64 0 ∧ wr = w.drewN q)
        case atStart => exact ⟨rfl, rfl⟩
        case round =>
          obtain ⟨rfl, rfl⟩ := hrel
          go_wp2
          go_ret
          exact ⟨rfl, (Chg.refl Non w).drewN _⟩

set_option maxRecDepth 100000 in
set_option maxHeartbeats 4000000 in
theorem looks_any (wb : Nat) (pv hv : Value) (Hs : List Hd) (w : World) (hb : Blk w wb #[pv, hv] 78) (hrow : w.ownsRow 0 133 1 hv Hs.length (Hs.map holdV)) (hds : ∀ h ∈ Hs, HdOK w h) (hl : Hs.length ≤ 1000000000) :
    Calls Tryz.prog 33 #[.pointer (some ⟨wb, 0, none⟩)] w fun e w' => e = .returned (.bool true) ∧ Chg Non w w' := by
  obtain ⟨ha, hc, rfl⟩ := row_slice hrow
  have v1 : w.cell? ⟨wb, 1, none⟩ = some (.slice ha Hs.length hc) := hb.cell 1
  have HR : Hid (∀ i, i < Hs.length → ∃ g b, ha = some ⟨g, 0, none⟩ ∧ w.cell? ⟨g, i, none⟩ = some (.pointer (some ⟨b, 0, none⟩)) ∧ ∀ W, Chg Non w W → Calls Tryz.prog 62 #[.pointer (some ⟨b, 0, none⟩)] W fun e w' => e = .returned (.bool true) ∧ Chg Non W w') := fun i hi => by
    obtain ⟨h, hh⟩ : ∃ h, Hs[i]? = some h := ⟨_, List.getElem?_eq_getElem hi⟩
    obtain ⟨g, e, _, hc2⟩ := row1_at (i := i) (v := holdV h) hrow (by simp) (by rw [List.getElem?_map, hh]; rfl)
    exact ⟨g, h.hb, e, hc2, fun W k => marked_any h W ((hds h (List.mem_of_getElem? hh)).kept k (fun _ _ z => z))⟩
  obtain ⟨n, hn⟩ : ∃ n, Hs.length = n := ⟨_, rfl⟩
  rw [hn] at HR v1 hl
  have HV := hide v1
  clear hb hrow hds hn v1
  go_enter Tryz.func33, Tryz.ntmps33
  go_wp2
  go_loopg [3] n (fun k iv wr => ∃ i : Nat, iv = .int .i64 (i : Int) ∧ i ≤ n ∧ k = n - i ∧ Chg Non w wr)
  case atStart => exact ⟨0, rfl, Nat.zero_le _, rfl, Chg.refl _ _⟩
  case round =>
    obtain ⟨i, rfl, hi, hgk, hk⟩ := hrel
    have v1 : wr.cell? ⟨wb, 1, none⟩ = some (.slice ha n hc) := hk.cell (unhide HV) (fun z => z)
    by_cases hlt : i < n
    · obtain ⟨g, b, rfl, hcell, hm⟩ := unhide HR i hlt
      have hc2 : wr.cell? ⟨g, i, none⟩ = some (.pointer (some ⟨b, 0, none⟩)) := hk.cell hcell (fun z => z)
      have HM := hide (hm wr hk)
      have HK := hide hk
      clear hm hk hcell
      go_wp2_with fail
      refine (unhide HM).mono ?_
      rintro e w3 ⟨rfl, k3⟩
      have HK3 := hide k3
      clear k3
      go_wp2
      go_roundg (n - (i + 1))
      case measure => omega
      case rel => exact ⟨i + 1, by push_cast; rfl, by omega, rfl, (unhide HK).trans (unhide HK3)⟩
    · obtain rfl : i = n := by omega
      go_wp2
      go_ret
      exact ⟨rfl, hk⟩

end Go.Proofs.YtigaphnafnpfnaaGreatDoor

set_option linter.unusedVariables false
set_option linter.unusedSimpArgs false
/- venuelaw.keepLevels. -/
namespace Go.Proofs.YtigaphnafnpfnaaGreatDoor
open Go.RowKit
attribute [local go_sem ↓] Go.wp_at_zero Go.wp_at_succ

theorem info63 : (Tryz.prog.info? 63).map (fun i => (i.zero, i.size, i.bytes)) = some (some (.slice none 0 0), 1, 24) := by kernel_rfl
theorem info133 : (Tryz.prog.info? 133).map (fun i => (i.zero, i.size, i.bytes)) = some (some (.pointer none), 1, 8) := by kernel_rfl

theorem marks_put {cs : Array Value} {mk : Int} {i : Nat} (h : cs.toList.take (i * 3) = marks mk i) (hs : i * 3 + 3 ≤ cs.size) :
    (((cs.setIfInBounds (i * 3) (.int .i64 mk)).setIfInBounds (i * 3 + 1) (.int .i64 0)).setIfInBounds (i * 3 + 2) (.int .i64 0)).toList.take ((i + 1) * 3) = marks mk (i + 1) := by
  apply List.ext_getElem?
  intro j
  rw [List.getElem?_take]
  by_cases hj : j < (i + 1) * 3
  · rw [if_pos hj]
    simp only [Array.toList_setIfInBounds]
    by_cases h2 : j = i * 3 + 2
    · subst h2
      rw [List.getElem?_set_self (by simp; omega)]
      have := marks_at mk (i := i) (n := i + 1) (j := 2) (by omega) (by omega)
      rw [this]; rfl
    · rw [List.getElem?_set_ne (fun e => h2 e.symm)]
      by_cases h1 : j = i * 3 + 1
      · subst h1
        rw [List.getElem?_set_self (by simp; omega)]
        have := marks_at mk (i := i) (n := i + 1) (j := 1) (by omega) (by omega)
        rw [this]; rfl
      · rw [List.getElem?_set_ne (fun e => h1 e.symm)]
        by_cases h0 : j = i * 3
        · subst h0
          rw [List.getElem?_set_self (by simp; omega)]
          have := marks_at mk (i := i) (n := i + 1) (j := 0) (by omega) (by omega)
          exact this.symm
        · rw [List.getElem?_set_ne (fun e => h0 e.symm)]
          have hlt : j < i * 3 := by omega
          have : cs.toList[j]? = (marks mk i)[j]? := by rw [← h, List.getElem?_take, if_pos hlt]
          rw [this, marks, List.getElem?_append_left (by rw [marks_len]; exact hlt)]
  · rw [if_neg hj, List.getElem?_eq_none (by rw [marks_len]; omega)]

/-- where keepLevels stands -/
structure KL (B hb : Nat) (mk : Int) (v0 : Value) (w : World) (c : Value) (n : Nat) (sls : List Value) (lv : Value) (wr : World) : Prop where
  blk : Blk wr hb #[lv, .slice none 0 0, .slice none 0 0, .int .i64 mk] 178
  lrow : wr.ownsRow B 63 1 lv sls.length sls
  cur : wr.ownsRow B 93 3 c n (marks mk n)
  each : ∀ v ∈ sls, ∃ a k cc, v = .slice a k cc ∧ k ≤ n ∧ (k = 0 ∨ ∃ g cs, a = some ⟨g, 0, none⟩ ∧ Blk wr g cs 93 ∧ cs.toList.take (k * 3) = marks mk k)
  ownB : ∀ v ∈ sls, ∀ b, v.ownBlock = some b → B ≤ b ∧ b < wr.heap.size
  chg : Chg (fun b => v0.ownBlock = some b) w wr
  size : B ≤ w.heap.size
  gh : w.heap.size ≤ hb
  v0B : ∀ b, v0.ownBlock = some b → B ≤ b
  cnew : ∀ b, c.ownBlock = some b → v0.ownBlock = some b ∨ w.heap.size ≤ b
  lnew : ∀ b, lv.ownBlock = some b → w.heap.size ≤ b

/-- the slice is one more of the hold's -/
theorem KL.listed {B hb : Nat} {mk : Int} {v0 : Value} {w : World} {a : Option Addr} {cc n : Nat} {sls : List Value} {lv : Value} {wr w2 : World} {la lc : Nat} (h : KL B hb mk v0 w (.slice a n cc) n sls lv wr)
    (hown : w2.ownsRow B 63 1 (.slice (some ⟨la, 0, none⟩) (sls.length + 1) lc) (sls.length + 1) (sls ++ [.slice a n cc])) (hg : (wr.alloc (.cells #[.slice a n cc] 63)).grownBy w2 lv.ownBlock) (hat : lv.ownBlock = some la ∨ w.heap.size ≤ la) :
    KL B hb mk v0 w (.slice a n cc) n (sls ++ [.slice a n cc]) (.slice (some ⟨la, 0, none⟩) (sls.length + 1) lc) (w2.setCell ⟨hb, 0, none⟩ (.slice (some ⟨la, 0, none⟩) (sls.length + 1) lc)) := by
  have k1 : Chg (fun b => lv.ownBlock = some b) wr w2 := ((Chg.refl (fun b => lv.ownBlock = some b) wr).alloc _).grown hg (fun k e => .inl e)
  have ty : ∀ b, lv.ownBlock = some b → ∃ cs t', Blk wr b cs t' ∧ t' = 63 := fun b hb2 => by obtain ⟨cs, hc⟩ := own_blk h.lrow hb2; exact ⟨cs, 63, hc, rfl⟩
  have b2 : Blk w2 hb _ 178 := k1.blk h.blk (fun e => by obtain ⟨cs, hc⟩ := own_blk h.lrow e; exact Blk.ne hc h.blk (by decide) rfl)
  have k2 : Chg (fun b => b = hb) w2 (w2.setCell ⟨hb, 0, none⟩ (.slice (some ⟨la, 0, none⟩) (sls.length + 1) lc)) := (Chg.refl (fun b => b = hb) w2).setCell (p := ⟨hb, 0, none⟩) (.inl rfl) _
  have keep93 : ∀ g cs, Blk wr g cs 93 → Blk (w2.setCell ⟨hb, 0, none⟩ (.slice (some ⟨la, 0, none⟩) (sls.length + 1) lc)) g cs 93 := fun g cs hgc =>
    k2.blk (k1.blk hgc (fun e => by obtain ⟨cs', hc⟩ := own_blk h.lrow e; exact Blk.ne hc hgc (by decide) rfl)) (fun e => by subst e; exact Blk.ne h.blk hgc (by decide) rfl)
  have szk : wr.heap.size ≤ (w2.setCell ⟨hb, 0, none⟩ (.slice (some ⟨la, 0, none⟩) (sls.length + 1) lc)).heap.size := Nat.le_trans k1.size k2.size
  have curk : (w2.setCell ⟨hb, 0, none⟩ (.slice (some ⟨la, 0, none⟩) (sls.length + 1) lc)).ownsRow B 93 3 (.slice a n cc) n (marks mk n) := by
    have r1 := own_typ (t := 0) h.cur k1 (fun b hb2 => by obtain ⟨cs, t, hc, e⟩ := ty b hb2; exact ⟨cs, t, hc, by rw [e]; decide⟩)
    exact own_typ (t := 0) r1 k2 (fun b hb2 => by subst hb2; exact ⟨_, _, b2, by decide⟩)
  refine ⟨b2.set 0 _, ?_, curk, fun v hv => ?_, fun v hv b hb2 => ?_, ?_, h.size, h.gh, h.v0B, h.cnew, fun b hb2 => ?_⟩
  · rw [List.length_append, List.length_singleton]
    exact own_typ (t := 0) hown k2 (fun b hb2 => by subst hb2; exact ⟨_, _, b2, by decide⟩)
  · rw [List.mem_append, List.mem_singleton] at hv
    rcases hv with hv | hv
    · obtain ⟨a', k', c', e, h1, h2⟩ := h.each v hv
      refine ⟨a', k', c', e, h1, ?_⟩
      rcases h2 with h2 | ⟨g, cs, e2, h3, h4⟩
      · exact .inl h2
      · exact .inr ⟨g, cs, e2, keep93 g cs h3, h4⟩
    · subst hv
      refine ⟨a, n, cc, rfl, Nat.le_refl _, ?_⟩
      rcases curk.2 with ⟨_, h0⟩ | ⟨g, cap, cs, e1, _, hb3, _, _, _, ht⟩
      · exact .inl h0
      · injection e1 with e1 _ _
        exact .inr ⟨g, cs, e1, hb3, ht⟩
  · rw [List.mem_append, List.mem_singleton] at hv
    rcases hv with hv | hv
    · have := h.ownB v hv b hb2; exact ⟨this.1, by omega⟩
    · subst hv
      have := h.cur.lt b hb2
      exact ⟨this.1, by omega⟩
  · exact h.chg.from ((k1.mono (fun b hb2 => .inr (h.lnew b hb2))).trans (k2.mono (fun b hb2 => .inr (by have := h.gh; omega))))
  · simp only [Value.ownBlock, Option.some.injEq] at hb2
    rcases hat with e | e
    · exact h.lnew b (by rw [e, hb2])
    · omega

/-- a place more, in the room that there is -/
theorem KL.spare {B hb g cc n : Nat} {mk : Int} {v0 : Value} {w : World} {sls : List Value} {lv : Value} {wr w2 : World} {o : Obj} (h : KL B hb mk v0 w (.slice (some ⟨g, 0, none⟩) n cc) n sls lv wr)
    (hown : w2.ownsRow B 93 3 (.slice (some ⟨g, 0, none⟩) (n + 1) cc) (n + 1) (marks mk n ++ [.int .i64 mk, .int .i64 0, .int .i64 0])) (hg : (wr.alloc o).grownBy w2 (some g)) :
    KL B hb mk v0 w (.slice (some ⟨g, 0, none⟩) (n + 1) cc) (n + 1) sls lv w2 := by
  have k1 : Chg (fun b => b = g) wr w2 := ((Chg.refl (fun b => b = g) wr).alloc _).grown hg (fun k e => .inl (by simpa using e.symm))
  obtain ⟨gcs, hgb⟩ := own_blk h.cur (b := g) rfl
  have hm : marks mk n ++ [.int .i64 mk, .int .i64 0, .int .i64 0] = marks mk (n + 1) := rfl
  rw [hm] at hown
  obtain ⟨cs2, hb2, ht2⟩ : ∃ cs2, Blk w2 g cs2 93 ∧ cs2.toList.take ((n + 1) * 3) = marks mk (n + 1) := by
    rcases hown.2 with ⟨e, _⟩ | ⟨g', cap, cs, e1, _, hb3, _, _, _, ht⟩
    · cases e
    · injection e1 with e1 _ _
      have : g = g' := by simpa using e1
      subst this
      exact ⟨cs, hb3, ht⟩
  refine ⟨k1.blk h.blk (fun e => by subst e; exact Blk.ne h.blk hgb (by decide) rfl), own_typ (t := 0) h.lrow k1 (fun b hb3 => by subst hb3; exact ⟨_, _, hgb, by decide⟩), hown, fun v hv => ?_, fun v hv b hb3 => ?_, h.chg.from (k1.mono (fun b hb3 => by subst hb3; exact h.cnew _ rfl)), h.size, h.gh, h.v0B, h.cnew, h.lnew⟩
  · obtain ⟨a', k', c', e, h1, h2⟩ := h.each v hv
    refine ⟨a', k', c', e, by omega, ?_⟩
    rcases h2 with h2 | ⟨g', cs, e2, h3, h4⟩
    · exact .inl h2
    · right
      by_cases eg : g' = g
      · subst eg
        refine ⟨g', cs2, e2, hb2, ?_⟩
        have : (cs2.toList.take ((n + 1) * 3)).take (k' * 3) = cs2.toList.take (k' * 3) := by rw [List.take_take]; congr 1; omega
        rw [← this, ht2]
        exact marks_take mk (by omega)
      · exact ⟨g', cs, e2, k1.blk h3 eg, h4⟩
  · have := h.ownB v hv b hb3; have := k1.size; exact ⟨by omega, by omega⟩

/-- a place more, in a copy -/
theorem KL.copied {B hb cc n : Nat} {a : Option Addr} {mk : Int} {v0 v' : Value} {w : World} {sls : List Value} {lv : Value} {wr w2 : World} {o : Obj} (h : KL B hb mk v0 w (.slice a n cc) n sls lv wr)
    (hown : w2.ownsRow (wr.alloc o).heap.size 93 3 v' (n + 1) (marks mk n ++ [.int .i64 mk, .int .i64 0, .int .i64 0])) (hg : (wr.alloc o).grownBy w2 none) : KL B hb mk v0 w v' (n + 1) sls lv w2 := by
  have k1 : Chg Non wr w2 := ((Chg.refl Non wr).alloc _).grown hg (fun k e => by cases e)
  have sw := h.chg.size
  have hm : marks mk n ++ [.int .i64 mk, .int .i64 0, .int .i64 0] = marks mk (n + 1) := rfl
  rw [hm] at hown
  have hsz : (wr.alloc o).heap.size = wr.heap.size + 1 := by simp
  have hB := h.size
  refine ⟨k1.blk h.blk (fun z => z), own_kept h.lrow k1 (fun _ _ z => z), ?_, fun v hv => ?_, fun v hv b hb3 => ?_, h.chg.trans k1.of_non, h.size, h.gh, h.v0B, fun b hb3 => .inr (by have := (hown.lt b hb3).1; omega), h.lnew⟩
  · exact ⟨hown.1, hown.2.imp_right (fun ⟨g, cap, cs, e1, e2, e3⟩ => ⟨g, cap, cs, e1, by omega, e3⟩)⟩
  · obtain ⟨a', k', c', e, h1, h2⟩ := h.each v hv
    refine ⟨a', k', c', e, by omega, h2.imp_right (fun ⟨g, cs, e2, h3, h4⟩ => ⟨g, cs, e2, k1.blk h3 (fun z => z), h4⟩)⟩
  · have := h.ownB v hv b hb3; have := k1.size; exact ⟨by omega, by omega⟩

end Go.Proofs.YtigaphnafnpfnaaGreatDoor

set_option linter.unusedVariables false
set_option linter.unusedSimpArgs false
/- venuelaw.keepLevels, walked. -/
namespace Go.Proofs.YtigaphnafnpfnaaGreatDoor
open Go.RowKit
attribute [local go_sem ↓] Go.wp_at_zero Go.wp_at_succ

theorem newsM (w : World) (mk : Int) : ∀ j u, ([Value.int .i64 mk, .int .i64 0, .int .i64 0] : List Value)[j]? = some u → (w.alloc (.cells #[.int .i64 mk, .int .i64 0, .int .i64 0] 93)).cell? (Addr.add ⟨w.heap.size, 0, none⟩ j) = some u := newsL w ⟨mk, 0, 0⟩
theorem newsV (w : World) (v : Value) (t : TypeId) : ∀ j u, ([v] : List Value)[j]? = some u → (w.alloc (.cells #[v] t)).cell? (Addr.add ⟨w.heap.size, 0, none⟩ j) = some u := by
  intro j u hj
  have hb := Blk.new w #[v] t
  match j, hj with
  | 0, hj => rw [← hj]; exact hb.cell 0
  | j + 1, hj => simp at hj

theorem marks_putL {xs : List Value} {mk : Int} {i : Nat} (h : xs.take (i * 3) = marks mk i) (hs : i * 3 + 3 ≤ xs.length) :
    (((xs.set (i * 3) (.int .i64 mk)).set (i * 3 + 1) (.int .i64 0)).set (i * 3 + 2) (.int .i64 0)).take ((i + 1) * 3) = marks mk (i + 1) := by
  have := marks_put (cs := xs.toArray) (mk := mk) (i := i) (by simpa using h) (by simpa using hs)
  simpa using this

theorem info93' : (Tryz.prog.info? 93).map (fun i => (i.zero, i.size, i.bytes)) = some (some (.agg #[.int .i64 0, .int .i64 0, .int .i64 0]), 3, 24) := by kernel_rfl

set_option maxRecDepth 100000 in
theorem kl_more {ops : Array Oper} {rest : List Oper} {o : Oper} {a : Act} {Q : Exit → Act → World → Prop} (hgd : o.guard = none) (s x : Operand) (ho : o.op = .call { callee := .builtin .append, args := #[s, x], argTypes := #[63, 63] })
    {B hb n cc : Nat} {mk : Int} {v0 lv : Value} {w0 wr : World} {ao : Option Addr} {sls : List Value} (hkl : KL B hb mk v0 w0 (.slice ao n cc) n sls lv wr) (hn : n ≤ 100000) (hs : a.eval s = .slice ao n cc) (hx : a.eval x = .slice (some ⟨wr.heap.size, 0, none⟩) 1 1)
    (h : ∀ ao' cc' w2, KL B hb mk v0 w0 (.slice ao' (n + 1) cc') (n + 1) sls lv w2 → wpList Tryz.prog ops Q rest (a.put o.dst (.slice ao' (n + 1) cc')) w2) :
    wpList Tryz.prog ops Q (o :: rest) a (wr.alloc (.cells #[.int .i64 mk, .int .i64 0, .int .i64 0] 93)) := by
  obtain ⟨i0, hi0, hz0, hz1, hz2⟩ := info_parts info93'
  have kz : Chg Non wr (wr.alloc (.cells #[.int .i64 mk, .int .i64 0, .int .i64 0] 93)) := (Chg.refl Non wr).alloc _
  have hcur := own_kept hkl.cur kz (fun _ _ z => z)
  have hm1 : n + 1 ≤ maxLen := by unfold maxLen; omega
  by_cases hr : n + 1 ≤ cc
  · rcases hkl.cur.2 with ⟨e, h0⟩ | ⟨g, cap, cs, e1, _⟩
    · injection e with _ _ e3; omega
    · injection e1 with e1 _ e3
      subst e1
      exact wpList_append_own_spare _ hgd s x 63 ho B 93 i0 3 Tryz.underlying63 hi0 hz1 g n cc (marks mk n) hs hcur ⟨wr.heap.size, 0, none⟩ 1 1 [.int .i64 mk, .int .i64 0, .int .i64 0] hx rfl (newsM _ _) (by simp [Value.oneCell']) hr (fun w' h2 h3 => h _ _ w' (hkl.spare h2 h3))
  · have hlen : (marks mk n).length = n * 3 := marks_len mk n
    refine wpList_append_grows _ hgd s x 63 ho 93 i0 _ 3 24 Tryz.underlying63 hi0 hz0 hz1 hz2 rfl (by decide) ao n cc (marks mk n) hs ?_ hlen ?_ ⟨wr.heap.size, 0, none⟩ 1 1 [.int .i64 mk, .int .i64 0, .int .i64 0] hx rfl (newsM _ _) (by simp [Value.oneCell']) (by omega) hm1 (by omega) (fun v' w' h2 h3 => ?_)
    · intro e
      rcases hkl.cur.2 with ⟨e2, h0⟩ | ⟨g, cap, cs, e1, _⟩
      · injection e2 with _ _ e3; exact ⟨h0, e3⟩
      · injection e1 with e1 _ _; rw [e] at e1; cases e1
    · intro b e j u hj
      subst e
      rcases hcur.2 with ⟨e2, h0⟩ | ⟨g, cap, cs, e1, _⟩
      · cases e2
      · injection e1 with e1 _ _
        injection e1 with e1
        subst e1
        have hjl : j < n * 3 := by rw [← hlen]; exact (List.getElem?_eq_some_iff.1 hj).1
        have := (hcur.cellAt j hjl).trans hj
        rw [Addr.add_lit, Nat.zero_add]; exact this
    · obtain ⟨a', c', e⟩ := row_slice h2
      subst e
      exact h a' c' w' (hkl.copied h2 h3)

theorem kl_list {ops : Array Oper} {rest : List Oper} {o : Oper} {a : Act} {Q : Exit → Act → World → Prop} (hgd : o.guard = none) (s x : Operand) (ho : o.op = .call { callee := .builtin .append, args := #[s, x], argTypes := #[45, 45] })
    {B hb n cc : Nat} {mk : Int} {v0 lv : Value} {w0 wr : World} {ao : Option Addr} {sls : List Value} (hkl : KL B hb mk v0 w0 (.slice ao n cc) n sls lv wr) {m : Nat} (hm : sls.length = m) (hn : m ≤ 100000) (hs : a.eval s = lv) (hx : a.eval x = .slice (some ⟨wr.heap.size, 0, none⟩) 1 1)
    (h : ∀ la lc w4, Blk w4 hb #[lv, .slice none 0 0, .slice none 0 0, .int .i64 mk] 178 → KL B hb mk v0 w0 (.slice ao n cc) n (sls ++ [.slice ao n cc]) (.slice (some ⟨la, 0, none⟩) (m + 1) lc) (w4.setCell ⟨hb, 0, none⟩ (.slice (some ⟨la, 0, none⟩) (m + 1) lc)) →
      wpList Tryz.prog ops Q rest (a.put o.dst (.slice (some ⟨la, 0, none⟩) (m + 1) lc)) w4) :
    wpList Tryz.prog ops Q (o :: rest) a (wr.alloc (.cells #[.slice ao n cc] 63)) := by
  subst hm
  obtain ⟨i0, hi0, hz0, hz1, hz2⟩ := info_parts info63
  have kz : Chg Non wr (wr.alloc (.cells #[.slice ao n cc] 63)) := (Chg.refl Non wr).alloc _
  have hrow := own_kept hkl.lrow kz (fun _ _ z => z)
  have hm1 : sls.length + 1 ≤ maxLen := by unfold maxLen; omega
  have hz := hkl.size
  have hc := hkl.chg.size
  refine wpList_append_lies _ hgd s x 45 ho B 63 i0 (.slice none 0 0) 1 24 Tryz.underlying45 hi0 hz0 hz1 hz2 rfl (by decide) lv sls.length sls hs hrow ⟨wr.heap.size, 0, none⟩ 1 1 [.slice ao n cc] hx rfl (newsV _ _ _) (by simp [Value.oneCell']) (by omega) hm1 (by omega) (by simp; omega) (wr.heap.size + 1) (by simp) (fun la lc w4 hown' hgrow hat hlt2 => ?_)
  refine h la lc w4 ?_ (hkl.listed hown' hgrow (hat.imp_right (fun e => by omega)))
  exact (((Chg.refl (fun b => lv.ownBlock = some b) wr).alloc _).grown hgrow (fun k e => .inl e)).blk hkl.blk (fun e => by obtain ⟨cs, hc⟩ := own_blk hkl.lrow e; exact Blk.ne hc hkl.blk (by decide) rfl)

set_option maxRecDepth 100000 in
set_option maxHeartbeats 16000000 in
theorem keep_levels (wb n0 : Nat) (pv hv v : Value) (Hs : List Hd) (ls : List Lvl) (w : World) (hwb : Blk w wb #[pv, hv] 78) (hrow : w.ownsRow 0 133 1 hv Hs.length (Hs.map holdV)) (hl : Hs.length ≤ 100000000) (hlv : w.ownsRow n0 93 3 v ls.length (flat ls)) (hls : ls.length ≤ 1000) (hn0 : n0 ≤ w.heap.size) (hwn : wb < n0) (hhn : ∀ b, hv.ownBlock = some b → b < n0) :
    Calls Tryz.prog 104 #[.pointer (some ⟨wb, 0, none⟩), v] w fun e w' => e = .returned (.tuple #[]) ∧ ∃ sls c n lv hv' w3, KL n0 w.heap.size (-1000 - (Hs.length : Int)) v w c n sls lv w3 ∧ n ≤ 2000 ∧ sls.length ≤ 100 ∧
      Chg (fun b => b = wb ∨ hv.ownBlock = some b) w3 w' ∧ Blk w' wb #[pv, hv'] 78 ∧ w'.ownsRow 0 133 1 hv' (Hs.length + 1) (Hs.map holdV ++ [.pointer (some ⟨w.heap.size, 0, none⟩)]) ∧ (∀ b, hv'.ownBlock = some b → hv.ownBlock = some b ∨ w3.heap.size ≤ b) := by
  obtain ⟨ha, hc, rfl⟩ := row_slice hrow
  obtain ⟨va, vc, rfl⟩ := row_slice hlv
  have HM := hide (mark_any wb pv ha Hs.length hc w hwb (by omega))
  obtain ⟨mk, hmk⟩ : ∃ mk, (-1000 - (Hs.length : Int)) = mk := ⟨_, rfl⟩
  rw [hmk] at HM ⊢
  obtain ⟨n, hnl⟩ : ∃ n, ls.length = n := ⟨_, rfl⟩
  rw [hnl] at hls hlv
  rw [hnl]
  have HWB := hide hwb
  have HROW := hide hrow
  have HLV := hide hlv
  have HHN := hide hhn
  clear hmk hwb hrow hlv hhn
  go_enter Tryz.func104, Tryz.ntmps104
  go_wp2_with fail
  refine (unhide HM).mono ?_
  rintro e w1 ⟨rfl, hw1⟩
  rw [hw1]
  clear hw1 w1 HM
  go_wp2
  obtain ⟨W1, hW1⟩ : ∃ W1, W1 = w.alloc (.cells #[.slice none 0 0, .slice none 0 0, .slice none 0 0, .int .i64 mk] 178) := ⟨_, rfl⟩
  have kW1 : Chg Non w W1 := by rw [hW1]; exact (Chg.refl Non w).alloc _
  have bW1 : Blk W1 w.heap.size #[.slice none 0 0, .slice none 0 0, .slice none 0 0, .int .i64 mk] 178 := by rw [hW1]; exact Blk.new _ _ _
  obtain ⟨hb, hhb⟩ : ∃ hb, w.heap.size = hb := ⟨_, rfl⟩
  have HW1 := hide hW1
  have HHB := hide hhb
  have hst : ∃ xs, W1.ownsRow n0 93 3 (.slice va n vc) n xs ∧ xs.take (0 * 3) = marks mk 0 := ⟨_, own_kept (unhide HLV) kW1 (fun _ _ z => z), by simp [marks]⟩
  have HST := hide hst
  have HK1 := hide (kW1.of_non (S := fun b => (Value.slice va n vc).ownBlock = some b))
  rw [hhb] at bW1
  have HB1 := hide bW1
  rw [← hW1, hhb]
  clear hst kW1 bW1 hW1 hhb
  go_loopg [5] n (fun k iv wr => ∃ (i : Nat) (xs : List Value), iv = .int .i64 (i : Int) ∧ i ≤ n ∧ k = n - i ∧ wr.ownsRow n0 93 3 (.slice va n vc) n xs ∧ xs.take (i * 3) = marks mk i ∧ Blk wr hb #[.slice none 0 0, .slice none 0 0, .slice none 0 0, .int .i64 mk] 178 ∧ Chg (fun b => (Value.slice va n vc).ownBlock = some b) w wr)
  case atStart =>
    obtain ⟨xs, h1, h2⟩ := unhide HST
    exact ⟨0, xs, rfl, Nat.zero_le _, rfl, h1, h2, unhide HB1, unhide HK1⟩
  case round =>
    obtain ⟨i, xs, rfl, hi, hgk, hxs, htk, hbl, hck⟩ := hrel
    have h3 : wr.cell? ⟨hb, 3, none⟩ = some (.int .i64 mk) := hbl.cell 3
    have hlx : xs.length = n * 3 := hxs.1
    by_cases hlt : i < n
    · obtain ⟨g, rfl, hg0⟩ := row_some hxs (by omega)
      obtain ⟨gcs, hgb⟩ := own_blk hxs (b := g) rfl
      have lg := hgb.lt
      have hne : g ≠ hb := Blk.ne hgb hbl (by decide)
      have hne' := hne.symm
      obtain ⟨u0, hu0⟩ : ∃ u, xs[i * 3]? = some u := ⟨_, List.getElem?_eq_getElem (by omega)⟩
      obtain ⟨u1, hu1⟩ : ∃ u, xs[i * 3 + 1]? = some u := ⟨_, List.getElem?_eq_getElem (by omega)⟩
      obtain ⟨u2, hu2⟩ : ∃ u, xs[i * 3 + 2]? = some u := ⟨_, List.getElem?_eq_getElem (by omega)⟩
      have x0 : wr.cell? ⟨g, i * 3, none⟩ = some u0 := (hxs.cellAt _ (by omega)).trans hu0
      have x1 : wr.cell? ⟨g, i * 3 + 1, none⟩ = some u1 := (hxs.cellAt _ (by omega)).trans hu1
      have x2 : wr.cell? ⟨g, i * 3 + 2, none⟩ = some u2 := (hxs.cellAt _ (by omega)).trans hu2
      have f0 := hxs.frozenAt (i * 3)
      have f1 := hxs.frozenAt (i * 3 + 1)
      have f2 := hxs.frozenAt (i * 3 + 2)
      have HXS := hide hxs
      have HTK := hide htk
      have HBL := hide hbl
      have HCK := hide hck
      have HLX := hide hlx
      clear hxs htk hbl hck hlx hu0 hu1 hu2 hgb
      go_wp2
      go_roundg (n - (i + 1))
      case measure => omega
      case rel =>
        refine ⟨i + 1, _, by push_cast; rfl, by omega, rfl, ((((unhide HXS).stored (i * 3) (.int .i64 mk)).1.stored (i * 3 + 1) (.int .i64 0)).1.stored (i * 3 + 2) (.int .i64 0)).1, marks_putL (unhide HTK) (by have := unhide HLX; omega), ?_, ?_⟩
        · exact (((unhide HBL).other (a := ⟨g, i * 3, none⟩) hne' _).other (a := ⟨g, i * 3 + 1, none⟩) hne' _).other (a := ⟨g, i * 3 + 2, none⟩) hne' _
        · exact (((unhide HCK).setCell (p := ⟨g, i * 3, none⟩) (.inl rfl) _).setCell (p := ⟨g, i * 3 + 1, none⟩) (.inl rfl) _).setCell (p := ⟨g, i * 3 + 2, none⟩) (.inl rfl) _
    · obtain rfl : i = n := by omega
      have hmks : xs = marks mk i := by rw [← htk, List.take_of_length_le (by omega)]
      rw [hmks] at hxs
      have kl0 : KL n0 hb mk (.slice va i vc) w (.slice va i vc) i [] (.slice none 0 0) wr := by
        refine ⟨hbl, World.ownsRow_nil _ _ _ _, hxs, fun v hv => absurd hv (by simp), fun v hv => absurd hv (by simp), hck, hn0, by have := unhide HHB; omega, fun b hb2 => (hxs.lt b hb2).1, fun b hb2 => .inl hb2, fun b hb2 => by simp [Value.ownBlock] at hb2⟩
      have h0 : wr.cell? ⟨hb, 0, none⟩ = some (.slice none 0 0) := hbl.cell 0
      have lhb := hbl.lt
      have HKL := hide kl0
      have hws : w.heap.size ≤ wr.heap.size := hck.size
      clear hxs htk hbl hck hlx kl0 hmks xs
      go_wp2_with (at_builtin; refine kl_list rfl _ _ rfl (unhide HKL) rfl (by simp) rfl rfl ?_; intro la lc w4 b4 kl1; have c40 := b4.cell 0; have f40 := b4.frozen 0; have l40 := b4.lt; simp at c40; have HKL1 := hide kl1; clear kl1 b4 h0)
      simp only [List.length_nil, Nat.zero_add, List.nil_append] at HKL1
      clear c40 f40
      go_loopg [1, 6] 8 (fun k cv iv wr => ∃ (j nn cc : Nat) (a : Option Addr) (sls : List Value) (lv : Value), iv = .int .i64 (j : Int) ∧ j ≤ 8 ∧ k = 8 - j ∧ cv = .slice a nn cc ∧ nn = i + j ∧ sls.length = j + 1 ∧ KL n0 hb mk (.slice va i vc) w (.slice a nn cc) nn sls lv wr)
      case atStart =>
        exact ⟨0, i, vc, va, _, _, rfl, by omega, rfl, rfl, rfl, rfl, unhide HKL1⟩
      case round =>
        clear HKL1 HKL lhb l40
        obtain ⟨j, nn, cc, a, sls, lv, rfl, hj, hgk, rfl, hnn, hsl, hkl⟩ := hrel
        obtain ⟨xa, xc, hxv⟩ := row_slice hkl.lrow
        rw [hsl] at hxv
        subst hxv
        have HSL := hide hsl
        subst hnn
        clear hsl
        have hz3 : wr.cell? ⟨hb, 3, none⟩ = some (.int .i64 mk) := hkl.blk.cell 3
        have HL := hide hkl
        by_cases hlt : j < 8
        · clear hkl
          go_wp2_with (first | (at_builtin; refine kl_more rfl _ _ rfl (unhide HL) (by omega) rfl rfl ?_; intro ao' cc' w2 kl2; have d0 := kl2.blk.cell 0; have l2 := kl2.blk.lt; simp at d0; have HL2 := hide kl2; clear kl2) | (at_builtin; refine kl_list rfl _ _ rfl (unhide HL2) (unhide HSL) (by omega) rfl rfl ?_; intro la' lc' w5 b5 kl5; have c50 := b5.cell 0; have f50 := b5.frozen 0; have l50 := b5.lt; simp at c50; have HL5 := hide kl5; clear kl5 b5 d0))
          go_roundg (8 - (j + 1))
          case measure => omega
          case rel => exact ⟨j + 1, i + j + 1, cc', ao', _, _, by push_cast; rfl, by omega, rfl, rfl, by omega, by simp [unhide HSL], unhide HL5⟩
        · obtain rfl : j = 8 := by omega
          have b1 : Blk wr wb _ 78 := hkl.chg.blk (unhide HWB) (fun e => by have := hkl.v0B wb e; omega)
          have w1c : wr.cell? ⟨wb, 1, none⟩ = some (.slice ha Hs.length hc) := b1.cell 1
          have hrow2 := own_kept (unhide HROW) hkl.chg (fun b h1 h2 => by have := unhide HHN b h1; have := hkl.v0B b h2; omega)
          have HROW2 := hide hrow2
          have HB1' := hide b1
          have lwb := b1.lt
          obtain ⟨i0, hi0, hz0, hz1, hz2⟩ := info_parts info133
          have hm1 : Hs.length + 1 ≤ maxLen := by unfold maxLen; omega
          clear hkl hrow2 b1
          go_wp2_with (at_builtin; refine wpList_append_lies _ rfl _ _ 76 rfl 0 133 i0 (.pointer none) 1 8 Tryz.underlying76 hi0 hz0 hz1 hz2 rfl (by decide) (.slice ha Hs.length hc) Hs.length (Hs.map holdV) rfl (own_kept (unhide HROW2) ((Chg.refl Non wr).alloc _) (fun _ _ z => z)) ⟨wr.heap.size, 0, none⟩ 1 1 [.pointer (some ⟨hb, 0, none⟩)] rfl rfl (newsV _ _ _) (by simp [Value.oneCell']) (by omega) hm1 (by omega) (by omega) (wr.heap.size + 1) (by simp) ?_; intro ga gc w5 hown' hgrow hat hlt2; have b5 : Blk w5 wb _ 78 := (((Chg.refl (fun b => (Value.slice ha Hs.length hc).ownBlock = some b) wr).alloc _).grown hgrow (fun k e => .inl e)).blk (unhide HB1') (fun e => by obtain ⟨cs, hc⟩ := own_blk (unhide HROW2) e; exact Blk.ne hc (unhide HB1') (by decide) rfl); have c51 := b5.cell 1; have f51 := b5.frozen 1; have l51 := b5.lt; simp at c51; have HB5 := hide b5; have HO5 := hide hown'; have HG5 := hide hgrow; have HA5 := hide hat; clear b5 hown' hgrow hat w1c)
          go_end0
          have k5 : Chg (fun b => (Value.slice ha Hs.length hc).ownBlock = some b) wr w5 := ((Chg.refl (fun b => (Value.slice ha Hs.length hc).ownBlock = some b) wr).alloc _).grown (unhide HG5) (fun k e => .inl e)
          have k6 : Chg (fun b => b = wb) w5 (w5.setCell ⟨wb, 1, none⟩ (.slice (some ⟨ga, 0, none⟩) (Hs.length + 1) gc)) := (Chg.refl (fun b => b = wb) w5).setCell (p := ⟨wb, 1, none⟩) (.inl rfl) _
          refine ⟨rfl, sls, _, _, _, .slice (some ⟨ga, 0, none⟩) (Hs.length + 1) gc, wr, by rw [unhide HHB]; exact unhide HL, by omega, by rw [unhide HSL]; omega, (k5.mono (fun b h => .inr h)).trans (k6.mono (fun b h => .inl h)), (unhide HB5).set 1 _, ?_, ?_⟩
          · rw [unhide HHB]
            exact own_typ (t := 0) (unhide HO5) k6 (fun b hb2 => by subst hb2; exact ⟨_, _, unhide HB5, by decide⟩)
          · intro b hb2
            simp only [Value.ownBlock, Option.some.injEq] at hb2
            rcases unhide HA5 with e | e
            · left; rw [e, hb2]
            · right; omega

end Go.Proofs.YtigaphnafnpfnaaGreatDoor

