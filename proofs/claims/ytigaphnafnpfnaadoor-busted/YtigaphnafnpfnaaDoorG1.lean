/- Busted: the two orders, without memory -/
import Derived.Test.YtigaphnafnpfnaaDoorD1
import Derived.Test.YtigaphnafnpfnaaDoorC4
set_option linter.unusedVariables false
set_option linter.unusedSimpArgs false
namespace Go.Proofs.YtigaphnafnpfnaaDoor
open Go.RowKit Go.Maps

def bsell (c s : Int) : Ask := ⟨1, 1, sG, 1, 0, c, s⟩
def bbuy (c b : Int) : Ask := ⟨2, 2, sG, 0, 2, c, b⟩

structure Bu1 (V : Ven) (bx : Nat) (c s : Int) : Prop where
  nb : V.nb = 2
  sym : (V.B 1).sym = sG
  n0 : (V.B 1).n 0 = 0
  n1 : (V.B 1).n 1 = 1
  h0 : (V.B 1).h 1 0 = bx
  b0 : ∀ t, (V.B 0).sl t = none ∧ (V.B 0).n t = 0
  oid : V.oid = fun id => if id = 1 then some bx else none
  no : V.no = 1
  lg : V.lg.tr = [] ∧ V.lg.tp = [] ∧ V.lg.day = 1 ∧ V.lg.na = 3
  om : V.om bx = { newOrd (bsell c s) with place := 1 }

theorem mF_none' {b s : Nat} {st : MS} (h : st.B.n s = 0) : mF b s st = st := by
  unfold mF
  refine matchF_stop ?_
  simp [stops, firstG, h]

theorem VG_b1 (b1 b2 : Nat) (lmv : Lm) : (VG b1 b2 lmv).B 1 = newBk sG := rfl
theorem VG_b0 (b1 b2 : Nat) (lmv : Lm) : (VG b1 b2 lmv).B 0 = newBk sA := rfl

theorem bu1 (b1 b2 bx g cap' : Nat) (lmv lm' : Lm) (c s : Int) (hs : 1 ≤ s) : Bu1 ((VG b1 b2 lmv).enter 1 bx 0 1 g cap' (bsell c s) lm') bx c s := by
  have hm : mF bx 0 ⟨(VG b1 b2 lmv).B 1, upd (VG b1 b2 lmv).om bx (newOrd (bsell c s)), (VG b1 b2 lmv).lg.opened (bsell c s).id⟩ = ⟨(VG b1 b2 lmv).B 1, upd (VG b1 b2 lmv).om bx (newOrd (bsell c s)), (VG b1 b2 lmv).lg.opened (bsell c s).id⟩ := mF_none' rfl
  have hw : waitsB (upd (VG b1 b2 lmv).om bx (newOrd (bsell c s)) bx) = true := by
    have h0 : 0 < s := by omega
    rw [upd_same]; simp [waitsB, restsB, newOrd, bsell, h0]
  have hB : comeB bx 1 g cap' ⟨(VG b1 b2 lmv).B 1, upd (VG b1 b2 lmv).om bx (newOrd (bsell c s)), (VG b1 b2 lmv).lg.opened (bsell c s).id⟩ = (newBk sG).rest (comeOm bx ⟨(VG b1 b2 lmv).B 1, upd (VG b1 b2 lmv).om bx (newOrd (bsell c s)), (VG b1 b2 lmv).lg.opened (bsell c s).id⟩) 1 bx g cap' := by
    unfold comeB; simp only; rw [if_pos hw]; rfl
  refine ⟨rfl, ?_, ?_, ?_, ?_, ?_, ?_, rfl, ?_, ?_⟩
  · simp only [Ven.enter, upd_same]; rw [hm, hB]; rfl
  · simp only [Ven.enter, upd_same]; rw [hm, hB]; rfl
  · simp only [Ven.enter, upd_same]; rw [hm, hB]; rfl
  · simp only [Ven.enter, upd_same]; rw [hm, hB]
    simp only [Bk.rest, upd_same]
    show upF _ _ 0 0 = bx
    rw [upF_stop (.inl rfl)]
    rfl
  · intro t
    simp only [Ven.enter]
    rw [upd_other _ _ (by omega), VG_b0]
    exact ⟨rfl, rfl⟩
  · rfl
  · simp only [Ven.enter]; rw [hm]; exact ⟨rfl, rfl, rfl, rfl⟩
  · simp only [Ven.enter]; rw [hm]
    unfold comeOm
    simp only
    have e : wrap64 (((VG b1 b2 lmv).B 1).places + 1) = 1 := by show wrap64 (0 + 1) = 1; exact wrap64_id (by omega) (by omega)
    rw [if_pos hw, upd_same, upd_same, e]

structure Bu2 (V : Ven) (bx by' : Nat) (c s b : Int) : Prop where
  nb : V.nb = 2
  sym : (V.B 1).sym = sG
  n0 : (V.B 1).n 0 = 0
  n1 : (V.B 1).n 1 = if s ≤ b then 0 else 1
  h0 : ¬ s ≤ b → (V.B 1).h 1 0 = bx
  b0 : ∀ t, (V.B 0).sl t = none ∧ (V.B 0).n t = 0
  oid : V.oid = fun id => if id = 2 then some by' else if id = 1 then some bx else none
  no : V.no = 2
  tr : V.lg.tr = [⟨⟨1, sG, c, min s b, 2, 1, 1⟩, true⟩]
  tp : V.lg.tp.length = 1
  day : V.lg.day = 1
  na : V.lg.na = 4
  omx : V.om bx = { newOrd (bsell c s) with place := 1, opn := s - min s b, filled := min s b }
  omy : V.om by' = { newOrd (bbuy c b) with opn := 0, filled := min s b, canc := b - min s b }

theorem bu2 {V : Ven} {bx by' g cap' : Nat} {lm' : Lm} {c s b : Int} (h : Bu1 V bx c s) (hne : bx ≠ by') (hs : 1 ≤ s) (hs2 : s ≤ 1000) (hb : 1 ≤ b) (hb2 : b ≤ 1000) :
    Bu2 (V.enter 1 by' 1 0 g cap' (bbuy c b) lm') bx by' c s b ∧ rep (newOrd (bbuy c b)) ((V.enter 1 by' 1 0 g cap' (bbuy c b) lm').om by') V.tr (V.enter 1 by' 1 0 g cap' (bbuy c b) lm').tr = repV (min s b) 0 (b - min s b) 1 1 := by
  obtain ⟨q, hq⟩ : ∃ q, min b s = q := ⟨_, rfl⟩
  have hq' : min s b = q := by omega
  have q1 : 1 ≤ q := by omega
  have ox : upd V.om by' (newOrd (bbuy c b)) bx = { newOrd (bsell c s) with place := 1 } := by rw [upd_other _ _ hne, h.om]
  have oy : upd V.om by' (newOrd (bbuy c b)) by' = newOrd (bbuy c b) := upd_same _ _ _
  obtain ⟨st0, hst0⟩ : ∃ st0 : MS, st0 = ⟨V.B 1, upd V.om by' (newOrd (bbuy c b)), V.lg.opened (bbuy c b).id⟩ := ⟨_, rfl⟩
  have s0B : st0.B = V.B 1 := by rw [hst0]
  have s0m : st0.om = upd V.om by' (newOrd (bbuy c b)) := by rw [hst0]
  have s0l : st0.lg.tr = [] ∧ st0.lg.tp = [] ∧ st0.lg.day = 1 ∧ st0.lg.na = 4 := by
    rw [hst0]
    exact ⟨h.lg.1, h.lg.2.1, h.lg.2.2.1, by show V.lg.na + 1 = 4; rw [h.lg.2.2.2]⟩
  have hst : stops by' 1 st0 = false := by
    have h0 : 0 < b := by omega
    simp only [stops, s0B, s0m, oy, firstG, h.n1, h.h0, ox]
    simp [newOrd, bbuy, bsell, askOf, goodB, h0]
  have hty : tradeOm st0.om by' bx by' = { newOrd (bbuy c b) with opn := b - q, filled := q } := by
    unfold tradeOm fillO
    simp only
    rw [upd_other _ _ (fun e => hne e.symm), upd_same, s0m, oy, ox]
    simp only [newOrd, bbuy, bsell]
    rw [hq, wrap64_id (by omega) (by omega), wrap64_id (by omega) (by omega)]
    simp
  have htx : tradeOm st0.om by' bx bx = { newOrd (bsell c s) with place := 1, opn := s - q, filled := q } := by
    unfold tradeOm fillO
    simp only
    rw [upd_same, s0m, oy, ox]
    simp only [newOrd, bbuy, bsell]
    rw [hq, wrap64_id (by omega) (by omega), wrap64_id (by omega) (by omega)]
    simp
  have hms : mstep by' 1 st0 = ⟨tradeB st0.B st0.om by' bx 1, tradeOm st0.om by' bx, (tradeG st0.lg st0.om by' bx).addT (tradeT st0.B st0.om by' bx)⟩ := by
    unfold mstep
    rw [s0B, h.h0, s0m, if_neg]
    rw [ox, oy]
    simp [newOrd, bbuy, bsell]
  have hn1 : (tradeB st0.B st0.om by' bx 1).n 1 = if s ≤ b then 0 else 1 := by
    unfold tradeB
    rw [htx]
    simp only
    by_cases e : s ≤ b
    · rw [if_pos (by omega), if_pos e]; simp only [Bk.leave, upd_same, s0B, h.n1]
    · rw [if_neg (by omega), if_neg e, s0B, h.n1]
  have hst1 : stops by' 1 (mstep by' 1 st0) = true := by
    rw [hms]
    simp only [stops, hty]
    by_cases e : s ≤ b
    · have : firstG (tradeB st0.B st0.om by' bx 1) (tradeOm st0.om by' bx) (askOf { newOrd (bbuy c b) with opn := b - q, filled := q }) 1 = none := by
        unfold firstG; rw [if_pos (by rw [hn1, if_pos e])]
      rw [this]; simp
    · have : b ≤ q := by omega
      simp [this]
  have hmu : mu by' 1 st0 = 2 := by
    unfold mu
    rw [s0B, h.n1, s0m, oy, if_pos]
    simp only [newOrd, bbuy]; omega
  have hmF : mF by' 1 st0 = mstep by' 1 st0 := by
    unfold mF
    rw [hmu, matchF, if_neg (by rw [hst]; simp), matchF, if_pos hst1]
  have hwt : waitsB ((mstep by' 1 st0).om by') = false := by
    rw [hms]; simp only [hty]; simp [waitsB, restsB, newOrd, bbuy]
  have hcB : comeB by' 0 g cap' (mstep by' 1 st0) = tradeB st0.B st0.om by' bx 1 := by
    unfold comeB; rw [hwt, hms]; rfl
  have hcm : comeOm by' (mstep by' 1 st0) = upd (tradeOm st0.om by' bx) by' (cancO (tradeOm st0.om by' bx by')) := by
    unfold comeOm; rw [hwt, hms]; rfl
  have hcy : comeOm by' (mstep by' 1 st0) by' = { newOrd (bbuy c b) with opn := 0, filled := q, canc := b - q } := by
    rw [hcm, upd_same, hty]
    simp only [cancO, newOrd, bbuy]
    rw [wrap64_id (by omega) (by omega)]
    simp
  have hcx : comeOm by' (mstep by' 1 st0) bx = { newOrd (bsell c s) with place := 1, opn := s - q, filled := q } := by
    rw [hcm, upd_other _ _ hne, htx]
  have hT : tradeT st0.B st0.om by' bx = ⟨0, sG, c, q, 2, 1, 0⟩ := by
    unfold tradeT
    rw [s0B, h.sym, s0m, oy, ox]
    simp [newOrd, bbuy, bsell, hq]
  have hlg : (mstep by' 1 st0).lg.tr = [⟨⟨1, sG, c, q, 2, 1, 1⟩, true⟩] ∧ (mstep by' 1 st0).lg.tp.length = 1 ∧ (mstep by' 1 st0).lg.day = 1 ∧ (mstep by' 1 st0).lg.na = 4 := by
    rw [hms, hT]
    simp only [Lg.addT, Lg.told, Lg.kept, Lg.noted, Lg.stamp, tradeG_tr, tradeG_tp, tradeG_day, tradeG_na, s0l.1, s0l.2.1, s0l.2.2.1, s0l.2.2.2]
    exact ⟨rfl, rfl, trivial, trivial⟩
  have hBn0 : (tradeB st0.B st0.om by' bx 1).n 0 = 0 := by
    unfold tradeB
    split
    · simp only [Bk.leave]; rw [upd_other _ _ (by omega), s0B, h.n0]
    · rw [s0B, h.n0]
  have hBs : (tradeB st0.B st0.om by' bx 1).sym = sG := by
    unfold tradeB
    split
    · simp only [Bk.leave]; rw [s0B, h.sym]
    · rw [s0B, h.sym]
  have hB0 : ¬ s ≤ b → (tradeB st0.B st0.om by' bx 1).h 1 0 = bx := by
    intro e
    unfold tradeB
    rw [htx, if_neg (by simp only; omega), s0B, h.h0]
  rw [hst0] at hmF hms hcB hcm hcy hcx hlg hwt
  rw [hst0] at hBn0 hBs hB0 hn1
  refine ⟨⟨h.nb, ?_, ?_, ?_, ?_, ?_, ?_, ?_, ?_, ?_, ?_, ?_, ?_, ?_⟩, ?_⟩
  · simp only [Ven.enter, upd_same]; rw [hmF, hcB]; exact hBs
  · simp only [Ven.enter, upd_same]; rw [hmF, hcB]; exact hBn0
  · simp only [Ven.enter, upd_same]; rw [hmF, hcB]; exact hn1
  · intro e; simp only [Ven.enter, upd_same]; rw [hmF, hcB]; exact hB0 e
  · intro t; simp only [Ven.enter]; rw [upd_other _ _ (by omega)]; exact h.b0 t
  · simp only [Ven.enter]; rw [h.oid]; rfl
  · simp only [Ven.enter]; rw [h.no]
  · simp only [Ven.enter]; rw [hmF, comeG_tr, hlg.1, hq']
  · simp only [Ven.enter]; rw [hmF, comeG_tp]; exact hlg.2.1
  · simp only [Ven.enter]; rw [hmF, comeG_day]; exact hlg.2.2.1
  · simp only [Ven.enter]; rw [hmF, comeG_na]; exact hlg.2.2.2
  · simp only [Ven.enter]; rw [hmF, hcx, hq']
  · simp only [Ven.enter]; rw [hmF, hcy, hq']
  · simp only [Ven.enter, Ven.tr]
    rw [hmF, hcy, comeG_tr, hlg.1, h.lg.1, hq']
    simp only [newOrd, bbuy, List.length_cons, List.length_nil, rep]
    have e1 : wrap64 (q - 0) = q := by rw [Int.sub_zero]; exact wrap64_id (by omega) (by omega)
    have e2 : wrap64 (b - q - 0) = b - q := by rw [Int.sub_zero]; exact wrap64_id (by omega) (by omega)
    have e3 : wrap64 (((0 : Nat) : Int) + 1) = 1 := wrap64_id (by omega) (by omega)
    have e4 : wrap64 (((0 + 1 : Nat) : Int) - ((0 : Nat) : Int)) = 1 := wrap64_id (by omega) (by omega)
    rw [e1, e2, e3, e4]
    exact if_pos (by decide)

end Go.Proofs.YtigaphnafnpfnaaDoor
