/- Good venues: an order that comes anew; how many; what the report says. Without memory. -/
import Derived.Test.YtafhnopgndemcaaGreatM3
set_option linter.unusedVariables false
set_option linter.unusedSimpArgs false
namespace Go.Proofs.YtafhnopgndemcaaGreat
open Go.RowKit

theorem pigeon : ∀ (m n : Nat) (f : Nat → Nat), (∀ a b, a < n → b < n → f a = f b → a = b) → (∀ k, k < n → f k < m) → n ≤ m := by
  intro m
  induction m with
  | zero =>
    intro n f _ h
    rcases Nat.eq_zero_or_pos n with h0 | h0
    · omega
    · exact absurd (h 0 h0) (Nat.not_lt_zero _)
  | succ m ih =>
    intro n f hi h
    rcases Nat.eq_zero_or_pos n with h0 | h0
    · omega
    · -- the last of the n: swap its value out
      obtain ⟨n', rfl⟩ : ∃ n', n = n' + 1 := ⟨n - 1, by omega⟩
      have key : n' ≤ m := by
        refine ih n' (fun k => if f k = m then f n' else f k) (fun a b ha hb e => ?_) (fun k hk => ?_)
        · by_cases e1 : f a = m <;> by_cases e2 : f b = m
          · exact hi a b (by omega) (by omega) (e1.trans e2.symm)
          · rw [if_pos e1, if_neg e2] at e
            exact absurd (hi n' b (by omega) (by omega) e) (by omega)
          · rw [if_neg e1, if_pos e2] at e
            exact absurd (hi a n' (by omega) (by omega) e) (by omega)
          · rw [if_neg e1, if_neg e2] at e
            exact hi a b (by omega) (by omega) e
        · have hk1 := h k (by omega)
          have hn1 := h n' (by omega)
          split
          · rename_i e1
            have : f n' ≠ m := fun e2 => by
              have := hi k n' (by omega) (by omega) (e1.trans e2.symm)
              omega
            omega
          · omega
      omega

theorem GV.count {V : Ven} {n : Nat} {M : Int} (h : GV V n M) (hid : ∀ id x, V.oid id = some x → (V.om x).id = id) {i s : Nat} (hi : i < 2) (hs : s < 2) : (V.B i).n s ≤ n := by
  have hm : ∀ k, k < (V.B i).n s → ∃ id, V.oid id = some ((V.B i).h s k) := fun k hk => (((h.gb i hi).mem s hs _).1 ⟨k, hk, rfl⟩).1
  have hr : ∀ k, k < (V.B i).n s → 1 ≤ (V.om ((V.B i).h s k)).id ∧ (V.om ((V.B i).h s k)).id ≤ n := fun k hk => by
    obtain ⟨id, e⟩ := hm k hk
    rw [hid id _ e]
    exact (h.oid id).1 ⟨_, e⟩
  refine pigeon n _ (fun k => ((V.om ((V.B i).h s k)).id - 1).toNat) (fun a b ha hb e => ?_) (fun k hk => ?_)
  · have h1 := hr a ha
    have h2 := hr b hb
    have e2 : (V.om ((V.B i).h s a)).id = (V.om ((V.B i).h s b)).id := by omega
    obtain ⟨ia, ea⟩ := hm a ha
    obtain ⟨ib, eb⟩ := hm b hb
    rw [hid ia _ ea, hid ib _ eb] at e2
    rw [e2, eb] at ea
    exact (h.gb i hi).inj s hs a b ha hb (Option.some.inj ea).symm
  · have := hr k hk
    omega

theorem matchF_len {oc s : Nat} : ∀ (f : Nat) (st : MS), (matchF oc s f st).lg.tr.length ≤ st.lg.tr.length + f ∧ (matchF oc s f st).lg.tp.length ≤ st.lg.tp.length + f := by
  intro f
  induction f with
  | zero => intro st; exact ⟨Nat.le_refl _, Nat.le_refl _⟩
  | succ f ih =>
    intro st
    rw [matchF]
    split
    · exact ⟨by omega, by omega⟩
    · have h := ih (mstep oc s st)
      have e : (mstep oc s st).lg.tr.length ≤ st.lg.tr.length + 1 ∧ (mstep oc s st).lg.tp.length ≤ st.lg.tp.length + 1 := by
        unfold mstep
        split
        · simp only [Lg.noted]; exact ⟨by omega, by omega⟩
        · simp [Lg.addT, Lg.told, Lg.kept, Lg.noted, tradeG_tr, tradeG_tp]
      omega

theorem mF_len {oc s : Nat} {st : MS} : (mF oc s st).lg.tr.length ≤ st.lg.tr.length + (st.B.n s + 1) ∧ (mF oc s st).lg.tp.length ≤ st.lg.tp.length + (st.B.n s + 1) := by
  have h := matchF_len (oc := oc) (s := s) (mu oc s st) st
  have hm : mu oc s st ≤ st.B.n s + 1 := by unfold mu; split <;> omega
  unfold mF
  omega

/-- what is told and noted where an order comes anew -/
def Lg.moved (G : Lg) (b : Nat) (o : Ord) : Lg := G.begun.noted [.left b, .now b o]

/-- the venue behind an order that came anew -/
def Ven.anew (V : Ven) (i b s t k g cap' : Nat) (o' : Ord) (lm' : Lm) : Ven :=
  { V with B := upd V.B i (comeB b t g cap' (mF b s ⟨(V.B i).leave V.om t k, upd V.om b o', V.lg.moved b (V.om b)⟩)), om := comeOm b (mF b s ⟨(V.B i).leave V.om t k, upd V.om b o', V.lg.moved b (V.om b)⟩),
           lg := comeG b (mF b s ⟨(V.B i).leave V.om t k, upd V.om b o', V.lg.moved b (V.om b)⟩), lm := lm' }

theorem GV.anew {V : Ven} {n : Nat} {M M' : Int} (h : GV V n M) (hMM : M ≤ M') (hM : M' ≤ 1000000) {i b s t k g cap' : Nat} {o' : Ord} {lm' : Lm} (hi : i < 2) (hs : s < 2) (ht : t = 1 - s) (hk : k < (V.B i).n t) (hb : (V.B i).h t k = b) (h1 : o'.sym = (V.om b).sym) (h2 : o'.side = (V.om b).side) (hq : Qo M' o') :
    GV (V.anew i b s t k g cap' o' lm') n M' ∧ Run b s M' ⟨(V.B i).leave V.om t k, upd V.om b o', V.lg.moved b (V.om b)⟩ (mF b s ⟨(V.B i).leave V.om t k, upd V.om b o', V.lg.moved b (V.om b)⟩) ∧ Inv b s ⟨(V.B i).leave V.om t k, upd V.om b o', V.lg.moved b (V.om b)⟩ := by
  have t2 : t < 2 := by omega
  have hm := ((h.gb i hi).mem t t2 _).1 ⟨k, hk, rfl⟩
  rw [hb] at hm
  have hVL : VL V b := hm.1
  have gi : GB ((V.B i).leave V.om t k) (upd V.om b o') (symN i) (fun x => VL V x ∧ x ≠ b) := by
    have := leave_good (h.gb i hi) t2 hk
    rw [hb] at this
    refine this.cong (fun x => ?_) (fun x hx _ _ => by rw [upd_other _ _ hx.2]; exact ⟨rfl, rfl, rfl⟩)
    constructor
    · rintro ⟨⟨a, a'⟩, c⟩; rw [upd_other _ _ a'] at c; exact ⟨⟨a, a'⟩, c⟩
    · rintro ⟨⟨a, a'⟩, c⟩; rw [upd_other _ _ a']; exact ⟨⟨a, a'⟩, c⟩
  have gj : ∀ j, j < 2 → j ≠ i → GB (V.B j) (upd V.om b o') (symN j) (VL V) := fun j hj hne => by
    have nb : ∀ x, (V.om x).sym = symN j → x ≠ b := fun x hx e => hne (by rw [e, hm.2.1] at hx; exact (symN_inj hi hj hx).symm)
    refine (h.gb j hj).cong (fun x => ?_) (fun x _ hx _ => by rw [upd_other _ _ (nb x hx)]; exact ⟨rfl, rfl, rfl⟩)
    constructor
    · rintro ⟨a, c, d⟩
      have hxs : (V.om x).sym = symN j := by
        by_cases e : x = b
        · rw [e, upd_same, h1] at c; rw [e]; exact c
        · rw [upd_other _ _ e] at c; exact c
      rw [upd_other _ _ (nb x hxs)] at d
      exact ⟨a, hxs, d⟩
    · rintro ⟨a, c, d⟩
      rw [upd_other _ _ (nb x c)]
      exact ⟨a, c, d⟩
  obtain ⟨c1, c2, c3, c4, c5⟩ := books_come (BB := V.B) (g := g) (cap' := cap') (lg := V.lg.moved b (V.om b)) hM hi hs ht hVL (by rw [upd_same, h1]; exact hm.2.1) (by rw [upd_same, h2]; exact hm.2.2.1) (fun x hx => by
    by_cases e : x = b
    · rw [e, upd_same]; exact hq
    · rw [upd_other _ _ e]; exact (h.q x hx).mono hMM) gi gj
  have o0 : ∀ x, (upd V.om b o' x).sym = (V.om x).sym ∧ (upd V.om b o' x).side = (V.om x).side := fun x => by
    by_cases e : x = b
    · rw [e, upd_same]; exact ⟨h1, h2⟩
    · rw [upd_other _ _ e]; exact ⟨rfl, rfl⟩
  refine ⟨⟨h.nb, c1, h.oid, h.no, c2, fun x hx => ?_, fun x hx => ?_⟩, c3, c5⟩
  · show (comeOm b (mF b s ⟨(V.B i).leave V.om t k, upd V.om b o', V.lg.moved b (V.om b)⟩) x).sym = _ ∨ (comeOm b (mF b s ⟨(V.B i).leave V.om t k, upd V.om b o', V.lg.moved b (V.om b)⟩) x).sym = _
    rw [(c4 x).1, (o0 x).1]; exact h.sym x hx
  · show (comeOm b (mF b s ⟨(V.B i).leave V.om t k, upd V.om b o', V.lg.moved b (V.om b)⟩) x).side = _ ∨ (comeOm b (mF b s ⟨(V.B i).leave V.om t k, upd V.om b o', V.lg.moved b (V.om b)⟩) x).side = _
    rw [(c4 x).2, (o0 x).2]; exact h.side x hx

/-- what comes of the one that came -/
theorem come_self {oc s : Nat} {M : Int} {st0 : MS} (hM : M ≤ 1000000) (run : Run oc s M st0 (mF oc s st0)) :
    (comeOm oc (mF oc s st0) oc).entered = (st0.om oc).entered ∧ (comeOm oc (mF oc s st0) oc).exp = (st0.om oc).exp ∧ (comeOm oc (mF oc s st0) oc).filled = ((mF oc s st0).om oc).filled ∧ (st0.om oc).canc ≤ (comeOm oc (mF oc s st0) oc).canc ∧ Qo M (comeOm oc (mF oc s st0) oc) := by
  have hq := run.q oc (.inl rfl)
  have hs := run.stat oc
  have hc := run.canc
  unfold comeOm
  split
  · rw [upd_same]
    exact ⟨hs.2.2.2.2.2.2.2.2.1, hs.2.2.2.2.2.2.2.2.2, rfl, by show _ ≤ ((mF oc s st0).om oc).canc; omega, ⟨hq.sum, hq.o0, hq.f0, hq.c0, hq.e0, hq.hi⟩⟩
  · rw [upd_same]
    obtain ⟨c1, c2, c3⟩ := hq.canc hM
    exact ⟨hs.2.2.2.2.2.2.2.2.1, hs.2.2.2.2.2.2.2.2.2, rfl, by rw [c3]; have := hq.o0; omega, c1⟩

/-- what the report of an order says -/
theorem rep_facts {o : Ask} {b s : Nat} {M : Int} {B : Bk} {om : Nat → Ord} {lg : Lg} (hM : M ≤ 1000000) (run : Run b s M ⟨B, upd om b (newOrd o), lg⟩ (mF b s ⟨B, upd om b (newOrd o), lg⟩)) (hlen : lg.tr.length + (B.n s + 1) ≤ 1000000) :
    ∃ f r c a m, rep (newOrd o) (comeOm b (mF b s ⟨B, upd om b (newOrd o), lg⟩) b) (lg.tr.length : Int) ((mF b s ⟨B, upd om b (newOrd o), lg⟩).lg.tr.length : Int) = repV f r c a m ∧ f + r + c = o.qty ∧ 0 ≤ f ∧ 0 ≤ r ∧ 0 ≤ c ∧ (m = 0 ↔ f = 0) ∧ f ≤ M ∧ r ≤ M ∧ c ≤ M := by
  obtain ⟨e1, e2, e3, e4, hq⟩ := come_self hM run
  have hfil := run.fil
  have heqv := run.eqv
  have htrl := run.trl
  have hl := (mF_len (oc := b) (s := s) (st := ⟨B, upd om b (newOrd o), lg⟩)).1
  simp only [upd_same] at e1 e2 e4 hfil heqv
  simp only [MS.tr] at heqv htrl
  simp only at hl
  generalize comeOm b (mF b s ⟨B, upd om b (newOrd o), lg⟩) b = O at *
  generalize hst : mF b s ⟨B, upd om b (newOrd o), lg⟩ = st at *
  have n1 : (newOrd o).entered = o.qty := rfl
  have n2 : (newOrd o).filled = 0 := rfl
  have n3 : (newOrd o).canc = 0 := rfl
  have n4 : (newOrd o).exp = 0 := rfl
  rw [n1] at e1; rw [n4] at e2; rw [n3] at e4; rw [n2] at hfil heqv
  have q1 := hq.sum; have q2 := hq.o0; have q3 := hq.f0; have q4 := hq.c0; have q5 := hq.hi
  have w1 : wrap64 (O.filled - (newOrd o).filled) = O.filled := by rw [n2]; rw [wrap64_id (by omega) (by omega)]; omega
  have w2 : wrap64 (O.canc - (newOrd o).canc) = O.canc := by rw [n3]; rw [wrap64_id (by omega) (by omega)]; omega
  unfold rep
  rw [w1, w2]
  split
  · rename_i hlt
    refine ⟨O.filled, O.opn, O.canc, _, _, rfl, by omega, by omega, by omega, by omega, ?_, by omega, by omega, by omega⟩
    rw [wrap64_id (x := ((st.lg.tr.length : Int) - (lg.tr.length : Int))) (by omega) (by omega), e3]
    constructor
    · intro h; omega
    · intro h; have := heqv.1 (by omega); omega
  · rename_i hlt
    refine ⟨O.filled, O.opn, O.canc, 0, 0, rfl, by omega, by omega, by omega, by omega, ?_, by omega, by omega, by omega⟩
    rw [e3]
    exact ⟨fun _ => by rw [heqv.2 (by omega)], fun _ => rfl⟩

end Go.Proofs.YtafhnopgndemcaaGreat
