import Derived.Test.YtigaphnafnpfnaaGreatDoorPVB4
set_option linter.unusedVariables false
set_option linter.unusedSimpArgs false
namespace Go.Proofs.YtigaphnafnpfnaaGreatDoor
open Go.RowKit
attribute [local go_sem ↓] Go.wp_at_zero Go.wp_at_succ

structure MS where
  B : Bk
  om : Nat → Ord
  lg : Lg

/-- how many trades -/
def MS.tr (st : MS) : Int := st.lg.tr.length

def askOf (o : Ord) : Ask := ⟨o.id, o.owner, o.sym, o.side, o.kind, o.price, o.qty⟩

def cancO (o : Ord) : Ord := { o with opn := 0, canc := wrap64 (o.canc + o.opn) }

/-- one that comes meets the first of the other side -/
def mstep (oc s : Nat) (st : MS) : MS :=
  if (st.om (st.B.h s 0)).owner = (st.om oc).owner then ⟨st.B.leave st.om s 0, upd st.om (st.B.h s 0) (cancO (st.om (st.B.h s 0))), st.lg.noted [.left (st.B.h s 0), .now (st.B.h s 0) (st.om (st.B.h s 0))]⟩
  else ⟨tradeB st.B st.om oc (st.B.h s 0) s, tradeOm st.om oc (st.B.h s 0), (tradeG st.lg st.om oc (st.B.h s 0)).addT (tradeT st.B st.om oc (st.B.h s 0))⟩

def stops (oc s : Nat) (st : MS) : Bool := !decide (0 < (st.om oc).opn) || (firstG st.B st.om (askOf (st.om oc)) s).isNone

def matchF (oc s : Nat) : Nat → MS → MS
  | 0, st => st
  | f + 1, st => if stops oc s st then st else matchF oc s f (mstep oc s st)

def mu (oc s : Nat) (st : MS) : Nat := st.B.n s + (if 0 < (st.om oc).opn then 1 else 0)

def mF (oc s : Nat) (st : MS) : MS := matchF oc s (mu oc s st) st

structure Inv (oc s : Nat) (st : MS) : Prop where
  mem : ∀ k, k < st.B.n s → (st.om (st.B.h s k)).side = (s : Int) ∧ 0 < (st.om (st.B.h s k)).opn ∧ (st.om (st.B.h s k)).opn ≤ 1000000000000000 ∧ st.B.h s k ≠ oc
  inj : Inj (st.B.n s) (st.B.h s)
  lo : 0 ≤ (st.om oc).opn
  hi : (st.om oc).opn ≤ 1000000000000000
  side : (st.om oc).side = 1 - (s : Int)

theorem wrap64_id {x : Int} (h1 : -9223372036854775808 ≤ x) (h2 : x < 9223372036854775808) : wrap64 x = x := by
  unfold wrap64; omega

theorem leave_mem {B : Bk} {om : Nat → Ord} {s : Nat} (hinj : Inj (B.n s) (B.h s)) (hn : 0 < B.n s) : ∀ k, k < (B.leave om s 0).n s → ∃ k', k' < B.n s ∧ (B.leave om s 0).h s k = B.h s k' ∧ B.h s k' ≠ B.h s 0 := by
  intro k hk
  simp only [Bk.leave, upd_same] at hk ⊢
  have h0 : Inj (B.n s - 1 + 1) (B.h s) := by rw [show B.n s - 1 + 1 = B.n s by omega]; exact hinj
  obtain ⟨⟨k', hk', e⟩, hne⟩ := (mem_remove (lt := ltB om) (B.h s) 0 (n := B.n s - 1) (by omega) (h0.remove (by omega)) _).1 ⟨k, hk, rfl⟩
  exact ⟨k', by omega, e, by rw [← e]; exact hne⟩

theorem leave_inj {B : Bk} {om : Nat → Ord} {s : Nat} (hinj : Inj (B.n s) (B.h s)) (hn : 0 < B.n s) : Inj ((B.leave om s 0).n s) ((B.leave om s 0).h s) := by
  have h0 : Inj (B.n s - 1 + 1) (B.h s) := by rw [show B.n s - 1 + 1 = B.n s by omega]; exact hinj
  simp only [Bk.leave, upd_same]
  exact fun a b ha hb e => (h0.remove (lt := ltB om) (i := 0) (by omega)) a b (by omega) (by omega) e

theorem firstG_some {B : Bk} {om : Nat → Ord} {o : Ask} {s b : Nat} (h : firstG B om o s = some b) : 0 < B.n s ∧ b = B.h s 0 := by
  unfold firstG at h
  split at h
  · simp at h
  · split at h
    · simp at h; exact ⟨by omega, h.symm⟩
    · simp at h

theorem mstep_ok {oc s : Nat} {st : MS} (iv : Inv oc s st) (hn : 0 < st.B.n s) (hp : 0 < (st.om oc).opn) : Inv oc s (mstep oc s st) ∧ mu oc s (mstep oc s st) < mu oc s st ∧ (∀ b, SdB (mstep oc s st).B s b → SdB st.B s b) := by
  obtain ⟨B, om, tr⟩ := st
  have h0 := iv.mem 0 hn
  simp only at h0 hn hp
  have ivm := iv.mem
  have ivi := iv.inj
  have ivl := iv.lo
  have ivh := iv.hi
  have ivs := iv.side
  simp only at ivm ivi ivl ivh ivs
  obtain ⟨hs0, hpos, hmax, hne⟩ := h0
  have hne' : oc ≠ B.h s 0 := fun e => hne e.symm
  have leaveSub : ∀ om' b, SdB (B.leave om' s 0) s b → SdB B s b := by
    rintro om' b (h | ⟨k, hk, e⟩)
    · exact .inl h
    · obtain ⟨k', hk', e', _⟩ := leave_mem (om := om') ivi hn k hk
      exact .inr ⟨k', hk', by rw [e, e']⟩
  have leaveN : ∀ om', (B.leave om' s 0).n s = B.n s - 1 := fun om' => by simp only [Bk.leave, upd_same]
  unfold mstep
  simp only
  split
  · have hoc : upd om (B.h s 0) (cancO (om (B.h s 0))) oc = om oc := upd_other _ _ hne'
    refine ⟨⟨?_, leave_inj ivi hn, by simp only [hoc]; exact ivl, by simp only [hoc]; exact ivh, by simp only [hoc]; exact ivs⟩, ?_, leaveSub om⟩
    · intro k hk
      obtain ⟨k', hk', e, hne0⟩ := leave_mem (om := om) ivi hn k hk
      simp only [e, upd_other _ _ hne0]
      exact ivm k' hk'
    · unfold mu
      simp only [hoc, leaveN]
      omega
  · obtain ⟨q, hq⟩ : ∃ q, min (om oc).opn (om (B.h s 0)).opn = q := ⟨_, rfl⟩
    have hq0 : 0 < q := by omega
    have hq1 : q ≤ (om oc).opn := by omega
    have hq2 : q ≤ (om (B.h s 0)).opn := by omega
    have toc : tradeOm om oc (B.h s 0) oc = fillO (om oc) q := by unfold tradeOm; rw [upd_other _ _ hne', upd_same, hq]
    have tow : tradeOm om oc (B.h s 0) (B.h s 0) = fillO (om (B.h s 0)) q := by unfold tradeOm; rw [upd_same, hq]
    have tot : ∀ x, x ≠ oc → x ≠ B.h s 0 → tradeOm om oc (B.h s 0) x = om x := fun x h1 h2 => by unfold tradeOm; rw [upd_other _ _ h2, upd_other _ _ h1]
    have oc8 : (fillO (om oc) q).opn = (om oc).opn - q := by simp only [fillO]; exact wrap64_id (by omega) (by omega)
    have ow8 : (fillO (om (B.h s 0)) q).opn = (om (B.h s 0)).opn - q := by simp only [fillO]; exact wrap64_id (by omega) (by omega)
    unfold tradeB
    rw [tow, ow8]
    by_cases hz : (om (B.h s 0)).opn - q = 0
    · rw [if_pos hz]
      refine ⟨⟨?_, leave_inj ivi hn, by simp only [toc, oc8]; omega, by simp only [toc, oc8]; omega, by simp only [toc]; exact ivs⟩, ?_, leaveSub _⟩
      · intro k hk
        obtain ⟨k', hk', e, hne0⟩ := leave_mem (om := tradeOm om oc (B.h s 0)) ivi hn k hk
        simp only [e]
        rw [tot _ (ivm k' hk').2.2.2 hne0]
        exact ivm k' hk'
      · unfold mu
        simp only [toc, oc8, leaveN]
        rw [if_pos hp]
        split <;> omega
    · rw [if_neg hz]
      refine ⟨⟨?_, ivi, by simp only [toc, oc8]; omega, by simp only [toc, oc8]; omega, by simp only [toc]; exact ivs⟩, ?_, fun b h => h⟩
      · intro k hk
        simp only
        by_cases e : k = 0
        · subst e
          rw [tow]
          refine ⟨hs0, by rw [ow8]; omega, by rw [ow8]; omega, hne⟩
        · have : B.h s k ≠ B.h s 0 := fun h => e (ivi k 0 hk hn h)
          rw [tot _ (ivm k hk).2.2.2 this]
          exact ivm k hk
      · unfold mu
        simp only [toc, oc8]
        rw [if_pos hp, if_neg (by omega)]
        omega

theorem matchF_stop {oc s f : Nat} {st : MS} (h : stops oc s st = true) : matchF oc s f st = st := by
  cases f with
  | zero => rfl
  | succ f => rw [matchF, if_pos h]

set_option maxHeartbeats 2000000 in
set_option maxRecDepth 100000 in
theorem match_any (bv bb oc s bm bo : Nat) (st0 : MS) (lm : Lm) (L : Nat → Prop) (w : World) (hv : IsLog w bv bm bo st0.lg lm) (m : Mk w bb st0.B st0.om L) (hs : s < 2) (hc : L oc) (iv : Inv oc s st0) (M : Nat) (hM : M < 1000000000) (hl1 : st0.lg.tp.length + mu oc s st0 ≤ M) (hl2 : st0.lg.tr.length + mu oc s st0 ≤ M) (hna : 0 < st0.lg.na) (hna2 : st0.lg.na ≤ 3000000) (hl3 : st0.lg.nt.length + 4 * mu oc s st0 ≤ M) :
    Calls Tryz.prog 120 #[.pointer (some ⟨bv, 0, none⟩), .pointer (some ⟨bb, 0, none⟩), .pointer (some ⟨oc, 0, none⟩)] w fun e w' => e = .returned (.tuple #[]) ∧
      Mk w' bb (mF oc s st0).B (mF oc s st0).om L ∧ (∃ lm', IsLog w' bv bm bo (mF oc s st0).lg lm' ∧ ∀ b, lm'.F b → lm.F b ∨ w.heap.size ≤ b) ∧ Inv oc s (mF oc s st0) ∧ Chg (fun b => b = bv ∨ lm.F b ∨ b = bb ∨ b = oc ∨ SdB st0.B s b) w w' := by
  go_enter Tryz.func120, Tryz.ntmps120
  go_wp2
  go_loopg [6] (mu oc s st0) (fun k _ wr => ∃ (st : MS) (lm1 : Lm), mu oc s st ≤ k ∧ matchF oc s k st = mF oc s st0 ∧ Mk wr bb st.B st.om L ∧ IsLog wr bv bm bo st.lg lm1 ∧ Inv oc s st ∧ (∀ b, SdB st.B s b → SdB st0.B s b) ∧ Chg (fun b => b = bv ∨ lm.F b ∨ b = bb ∨ b = oc ∨ SdB st0.B s b) w wr ∧ (∀ b, lm1.F b → lm.F b ∨ w.heap.size ≤ b) ∧ st.lg.tp.length + k ≤ M ∧ st.lg.tr.length + k ≤ M ∧ st.lg.na = st0.lg.na ∧ st.lg.nt.length + 4 * k ≤ M)
  case atStart => exact ⟨st0, lm, Nat.le_refl _, rfl, m, hv, iv, fun _ h => h, Chg.refl _ _, fun _ h => .inl h, hl1, hl2, rfl, hl3⟩
  case round =>
    obtain ⟨st, lm1, hk, hm, m1, hv1, iv1, sub, c1, hf1, hb1, hb2, hb3, hb4⟩ := hrel
    rw [← hb3] at hna hna2
    have HM := hide hm
    have HF1 := hide hf1
    have HB3 := hide hb3
    clear hm m hv iv hf1 hl1 hl2 hl3 hb3
    obtain ⟨ixc, hoc⟩ := m1.ords oc hc
    have c8 : wr.cell? ⟨oc, 8, none⟩ = some (.int .i64 (st.om oc).opn) := hoc.cell 8
    by_cases hp : 0 < (st.om oc).opn
    · have cc0 : wr.cell? ⟨oc, 0, none⟩ = some (.int .i64 (st.om oc).id) := hoc.cell 0
      have cc1 : wr.cell? ⟨oc, 1, none⟩ = some (.int .i64 (st.om oc).owner) := hoc.cell 1
      have cc2 : wr.cell? ⟨oc, 2, none⟩ = some (.string (st.om oc).sym) := hoc.cell 2
      have cc3 : wr.cell? ⟨oc, 3, none⟩ = some (.int .i64 (st.om oc).side) := hoc.cell 3
      have cc4 : wr.cell? ⟨oc, 4, none⟩ = some (.int .i64 (st.om oc).kind) := hoc.cell 4
      have cc5 : wr.cell? ⟨oc, 5, none⟩ = some (.int .i64 (st.om oc).price) := hoc.cell 5
      have cc6 : wr.cell? ⟨oc, 6, none⟩ = some (.int .i64 (st.om oc).qty) := hoc.cell 6
      go_wp2_with fail
      refine (firstGood_any bb st.B st.om (askOf (st.om oc)) s wr m1.book hs iv1.side).mono ?_
      rintro e w2 ⟨rfl, k2⟩
      have m2 := m1.kept k2 (fun x => x) (fun _ _ x => x) (fun _ _ _ _ x => x)
      have hv2 := hv1.kept0 k2
      clear cc0 cc2 cc3 cc4 cc5 cc6 c8
      cases hf : firstG st.B st.om (askOf (st.om oc)) s
      · have hst : stops oc s st = true := by simp [stops, hf]
        have HS := hide hst
        clear hf hst
        simp only [ptrO]
        go_wp2
        try simp only [Exit.inBlock, Exit.then]
        refine bodyPost_ret (results_none rfl _ _ _) rfl ?_
        have hfin : mF oc s st0 = st := by rw [← unhide HM, matchF_stop (unhide HS)]
        rw [hfin]
        exact ⟨rfl, m2, ⟨lm1, hv2, unhide HF1⟩, iv1, c1.trans k2.of_non⟩
      · rename_i b
        obtain ⟨hn, rfl⟩ := firstG_some hf
        have hst : stops oc s st = false := by simp [stops, hf, hp]
        obtain ⟨iv3, mu3, sub3⟩ := mstep_ok iv1 hn hp
        obtain ⟨g, rfl⟩ : ∃ g, gk = g + 1 := ⟨gk - 1, by omega⟩
        have hm3 : matchF oc s g (mstep oc s st) = mF oc s st0 := by rw [← unhide HM, matchF, hst]; rfl
        have H3 := hide hm3
        have HI := hide iv3
        have HU := hide mu3
        clear hf hst hm3 iv3 mu3 HM
        obtain ⟨ixc2, hoc2⟩ := m2.ords oc hc
        obtain ⟨ixw2, how2⟩ := m2.ords _ (m2.mem s hs 0 hn)
        have a1 : w2.cell? ⟨oc, 1, none⟩ = some (.int .i64 (st.om oc).owner) := hoc2.cell 1
        have b1 : w2.cell? ⟨st.B.h s 0, 1, none⟩ = some (.int .i64 (st.om (st.B.h s 0)).owner) := how2.cell 1
        have i0 := iv1.mem 0 hn
        simp only [ptrO]
        by_cases ho : (st.om (st.B.h s 0)).owner = (st.om oc).owner
        · have e1 : ((st.om (st.B.h s 0)).owner == (st.om oc).owner) = true := by simp [ho]
          have HE : Hid (mstep oc s st = ⟨st.B.leave st.om s 0, upd st.om (st.B.h s 0) (cancO (st.om (st.B.h s 0))), st.lg.noted [.left (st.B.h s 0), .now (st.B.h s 0) (st.om (st.B.h s 0))]⟩) := by show _ = _; unfold mstep; rw [if_pos ho]
          clear ho cc1
          go_wp2
          go_quiet (fail)
          go_wp2_with fail
          have m2' := m2.kept ((Chg.refl Non w2).drewN nq) (fun x => x) (fun _ _ x => x) (fun _ _ _ _ x => x)
          refine (leave_mk bb st.B st.om L s 0 _ m2' hs hn i0.1).mono ?_
          rintro e w3 ⟨fn3, cp3, rfl, -, m3, k3⟩
          clear a1 b1
          go_wp2_with fail
          refine (cancelOpen_mk bb (st.B.h s 0) _ st.om L _ m3 (m2.mem s hs 0 hn)).mono ?_
          rintro e w4 ⟨fn4, cp4, rfl, -, m4, k4⟩
          have hv3 := (hv2.kept0 ((Chg.refl Non w2).drewN nq)).keptT k3 (fun b h => m2'.typ (by rcases h with h | h; exact .inl h; exact .inr (.inr ⟨s, hs, h⟩)))
          have hv4 := hv3.keptT k4 (fun b h => by subst h; exact m3.typ (.inr (.inl (m2.mem s hs 0 hn))))
          have HNt := hide (note2 bv bm bo _ lm1 (.left (st.B.h s 0)) (.now (st.B.h s 0) (st.om (st.B.h s 0))) fn3 fn4 cp3 cp4 w4 hv4 hna hna2 (by omega))
          go_wp2_with fail
          refine (unhide HNt).mono ?_
          rintro e w5 ⟨rfl, lm5, hv5, hf5, k5⟩
          go_wp2
          go_roundg g
          case measure => omega
          case rel =>
            have m5 := m4.keptLog hv4 (k5.mono (fun b h => .inr h))
            have hh := unhide HE
            have hi := unhide HI
            have hu := unhide HU
            have h3 := unhide H3
            rw [hh] at hi hu h3 sub3
            have kc4 : Chg (fun b => b = bv ∨ lm.F b ∨ b = bb ∨ b = oc ∨ SdB st0.B s b) w w4 := ((c1.trans k2.of_non).drewN _).trans ((k3.mono (fun b h => by rcases h with h | h; exact .inr (.inr (.inl h)); exact .inr (.inr (.inr (.inr (sub b h)))))).trans (k4.mono (fun b h => .inr (.inr (.inr (.inr (sub b (.inr ⟨0, hn, h⟩))))))))
            refine ⟨_, lm5, by omega, h3, m5, hv5, hi, fun b hb => sub b (sub3 b hb), kc4.from (k5.mono (fun b h => (unhide HF1 b h).imp_left (fun h => .inr (.inl h)))), fun b hb => ?_, by simp only [Lg.noted]; omega, by simp only [Lg.noted]; omega, unhide HB3, by simp only [Lg.noted, List.length_append, List.length_cons, List.length_nil]; omega⟩
            rcases hf5 b hb with h | h
            · exact unhide HF1 b h
            · exact .inr (Nat.le_trans kc4.size h)
        · have e1 : ((st.om (st.B.h s 0)).owner == (st.om oc).owner) = false := by simp [ho]
          have HE : Hid (mstep oc s st = ⟨tradeB st.B st.om oc (st.B.h s 0) s, tradeOm st.om oc (st.B.h s 0), (tradeG st.lg st.om oc (st.B.h s 0)).addT (tradeT st.B st.om oc (st.B.h s 0))⟩) := by show _ = _; unfold mstep; rw [if_neg ho]
          clear ho cc1
          go_wp2
          go_quiet (fail)
          go_wp2_with fail
          refine (trade_any bv bb oc s bm bo st.lg lm1 st.B st.om L _ (hv2.kept0 ((Chg.refl Non w2).drewN _)) (m2.kept ((Chg.refl Non w2).drewN _) (fun x => x) (fun _ _ x => x) (fun _ _ _ _ x => x)) hs hn hc i0.2.2.2 i0.1 (by omega) (by omega) hna hna2 (by omega)).mono ?_
          rintro e w3 ⟨rfl, m3, lm3, hv3, hf3, k3⟩
          clear a1 b1
          go_wp2
          go_roundg g
          case measure => omega
          case rel =>
            have hh := unhide HE
            have hi := unhide HI
            have hu := unhide HU
            have h3 := unhide H3
            rw [hh] at hi hu h3 sub3
            have hsz := ((c1.trans k2.of_non).drewN nq).size
            have g4 := tradeG_nt st.lg st.om oc (st.B.h s 0)
            refine ⟨_, lm3, by omega, h3, m3, hv3, hi, fun b hb => sub b (sub3 b hb), ((c1.trans k2.of_non).drewN _).from (k3.mono (fun b h => ?_)), fun b hb => ?_, by simp only [Lg.addT, Lg.told, Lg.kept, Lg.noted, tradeG_tp, List.length_append, List.length_cons, List.length_nil]; omega, by simp only [Lg.addT, Lg.told, Lg.kept, Lg.noted, tradeG_tr, List.length_append, List.length_cons, List.length_nil]; omega, by simp only [Lg.addT, Lg.told, Lg.kept, Lg.noted, tradeG_na]; exact unhide HB3, by simp only [Lg.addT, Lg.told, Lg.kept, Lg.noted, List.length_append, List.length_cons, List.length_nil]; omega⟩
            · rcases h with h | h | h | h | h
              · exact .inl (.inl h)
              · exact (unhide HF1 b h).imp_left (fun h => .inr (.inl h))
              · exact .inl (.inr (.inr (.inl h)))
              · exact .inl (.inr (.inr (.inr (.inl h))))
              · exact .inl (.inr (.inr (.inr (.inr (sub b h)))))
            · rcases hf3 b hb with h | h
              · exact unhide HF1 b h
              · exact .inr (Nat.le_trans hsz h)
    · have hst : stops oc s st = true := by simp [stops, hp]
      have HS := hide hst
      clear hst
      go_wp2
      go_end0
      have hfin : mF oc s st0 = st := by rw [← unhide HM, matchF_stop (unhide HS)]
      rw [hfin]
      exact ⟨rfl, m1, ⟨lm1, hv1, unhide HF1⟩, iv1, c1⟩

end Go.Proofs.YtigaphnafnpfnaaGreatDoor

