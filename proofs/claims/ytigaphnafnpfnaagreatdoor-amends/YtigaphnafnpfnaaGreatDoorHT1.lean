import Derived.Test.YtigaphnafnpfnaaGreatDoorHP1
import Derived.Test.YtigaphnafnpfnaaGreatDoorHS1
/- Enter, Cancel, Replace on a good venue whose tape tells its trades -/
set_option linter.unusedVariables false
set_option linter.unusedSimpArgs false
namespace Go.Proofs.YtigaphnafnpfnaaGreatDoor
open Go.RowKit Go.Maps

theorem mstep_day (oc s : Nat) (st : MS) : (mstep oc s st).lg.day = st.lg.day := by
  unfold mstep
  split
  · rfl
  · simp only [Lg.addT, Lg.told, Lg.kept, Lg.noted, tradeG_day]

theorem matchF_day (oc s : Nat) : ∀ (f : Nat) (st : MS), (matchF oc s f st).lg.day = st.lg.day
  | 0, st => rfl
  | f + 1, st => by
    rw [matchF]
    split
    · rfl
    · exact (matchF_day oc s f (mstep oc s st)).trans (mstep_day oc s st)

theorem mstep_tpge (oc s : Nat) (st : MS) : st.lg.tp.length ≤ (mstep oc s st).lg.tp.length := by
  unfold mstep
  split
  · exact Nat.le_refl _
  · simp only [Lg.addT, Lg.told, Lg.kept, Lg.noted, tradeG_tp, List.length_append]
    omega

theorem matchF_tpge (oc s : Nat) : ∀ (f : Nat) (st : MS), st.lg.tp.length ≤ (matchF oc s f st).lg.tp.length
  | 0, st => Nat.le_refl _
  | f + 1, st => by
    rw [matchF]
    split
    · exact Nat.le_refl _
    · exact Nat.le_trans (mstep_tpge oc s st) (matchF_tpge oc s f (mstep oc s st))

theorem ven_cancelA (bv bm bo n K : Nat) (V : Ven) (M id : Int) (w : World) (R : Rep w bv bm bo V) (hT : Tab w) (h : GV V n M) (av : AV V) (hM : M ≤ 1000000) (hn : n ≤ 200) (hK : LenOK V K) (hK2 : K + 300 < 1000000) (h1 : 1 ≤ id) (h2 : id ≤ n) :
    Calls Tryz.prog 37 #[.pointer (some ⟨bv, 0, none⟩), .int .i64 id] w fun e w' => (e = .returned (.int .i64 10) ∧ Chg Non w w') ∨ (e = .returned (.int .i64 0) ∧ Next bv bm bo V (fun V2 => AQ n (K + 101) M V2 ∧ V2.lg.day = V.lg.day ∧ V.lg.tp.length ≤ V2.lg.tp.length) w w') := by
  obtain ⟨b, hb⟩ := h.has h1 h2
  have hVL : VL V b := ⟨id, hb⟩
  by_cases h0 : (V.om b).opn = 0
  · refine (cancel_closed bv bm bo b V id w R (idwf h1 h2 hn) hb h0).mono ?_
    rintro e w' ⟨rfl, k⟩
    exact .inl ⟨rfl, k⟩
  · obtain ⟨i, s, k, hi, hs, hk, rfl, a, b', c⟩ := h.open hVL h0
    have hi' : i < V.nb := by rw [h.nb]; exact hi
    refine (cancel_ok bv bm bo i s k V id w R hT (idwf h1 h2 hn) hi' hs hk hb h0 c (by rw [a, b']) (by rw [b']; exact symN_size i) (by unfold LenOK at hK; omega)).mono ?_
    rintro e w' ⟨rfl, hm, ⟨lm', hl, hf⟩, kc⟩
    refine .inr ⟨rfl, Next.of R hi' _ hm hl hf kc (fun x hx => ?_) (fun j hj hne t ht l hl => ?_) (fun x => ?_) rfl (fun t ht x hx => ?_) ⟨⟨?_, ?_, av.turn rfl (fun x => ?_) rfl rfl⟩, rfl, Nat.le_refl _⟩⟩
    · rcases hx with hx | hx | hx | hx
      · exact .inl hx
      · exact .inr (.inl hx)
      · exact .inr (.inr (.inl hx))
      · exact .inr (.inr (.inr (.inl ⟨s, hs, hx⟩)))
    · refine upd_other _ _ (fun e => h.apart R hVL a hi j hj hne t ht ?_)
      rw [← e]; exact .inr ⟨l, hl, rfl⟩
    · by_cases e : x = (V.B i).h s k
      · rw [e, upd_same]; rfl
      · rw [upd_other _ _ e]
    · left
      by_cases e : t = s
      · subst e
        refine ⟨t, ht, ?_⟩
        rcases hx with hx | ⟨l, hl, hx⟩
        · exact .inl hx
        · obtain ⟨k', hk', e', _⟩ := leave_memk (om := V.om) ((h.gb i hi).inj t ht) hk l hl
          exact .inr ⟨k', hk', by rw [hx, e']⟩
      · refine ⟨t, ht, ?_⟩
        unfold SdB at hx ⊢
        simp only [Bk.leave, upd_other _ _ e] at hx
        exact hx
    · exact (h.leaves (o' := cancO (V.om ((V.B i).h s k))) hi hs hk rfl rfl rfl ((h.q _ hVL).canc hM).1).relog _ _
    · unfold LenOK at hK ⊢
      simp only [Ven.turnL, Lg.begun, Lg.noted]
      exact ⟨by omega, by omega, hK.2.2.1, by omega⟩
    · show (upd V.om _ (cancO _) x).sym = _ ∧ (upd V.om _ (cancO _) x).side = _ ∧ (upd V.om _ (cancO _) x).id = _ ∧ (upd V.om _ (cancO _) x).filled = _
      by_cases e : x = (V.B i).h s k
      · rw [e, upd_same]; exact ⟨rfl, rfl, rfl, rfl⟩
      · rw [upd_other _ _ e]; exact ⟨rfl, rfl, rfl, rfl⟩

theorem ven_replaceA (bv bm bo n K : Nat) (V : Ven) (M id price qty : Int) (w : World) (R : Rep w bv bm bo V) (hT : Tab w) (h : GV V n M) (av : AV V) (hM : M + 9 ≤ 1000000) (hn : n ≤ 100) (hK : LenOK V K) (hK2 : K + 300 < 1000000) (h1 : 1 ≤ id) (h2 : id ≤ n) (p1 : 1 ≤ price) (p2 : price ≤ 1000) (q1 : 1 ≤ qty) (q2 : qty ≤ 9) :
    Calls Tryz.prog 38 #[.pointer (some ⟨bv, 0, none⟩), .int .i64 id, .int .i64 price, .int .i64 qty] w fun e w' => ∃ f r c a m E, e = .returned (.tuple #[.agg #[.int .i64 f, .int .i64 r, .int .i64 c, .int .i64 a, .int .i64 m], .int .i64 E]) ∧ ((E = 10 ∧ Chg Non w w') ∨ (E = 0 ∧ Next bv bm bo V (fun V2 => AQ n (K + 101) (M + 9) V2 ∧ V2.lg.day = V.lg.day ∧ V.lg.tp.length ≤ V2.lg.tp.length) w w')) := by
  obtain ⟨b, hb⟩ := h.has h1 h2
  have hVL : VL V b := ⟨id, hb⟩
  have hwf := idwf h1 h2 (by omega : n ≤ 200)
  have hidO : ∀ id x, V.oid id = some x → (V.om x).id = id := fun id x hx => (R.ords id x hx).1
  by_cases h0 : (V.om b).opn = 0
  · refine (replace_closed bv bm bo b V id price qty w R hwf hb h0).mono ?_
    rintro e w' ⟨rfl, k⟩
    exact ⟨_, _, _, _, _, _, rfl, .inl ⟨rfl, k⟩⟩
  · obtain ⟨i, t, k, hi, ht, hk, hkb, a, b', c⟩ := h.open hVL h0
    have hi' : i < V.nb := by rw [h.nb]; exact hi
    have hap := h.apart R hVL a hi
    by_cases hkeep : price = (V.om b).price ∧ qty ≤ (V.om b).opn
    · refine (replace_keep bv bm bo b i V id price qty w R hT hwf hb h0 (numB_small p1 p2) (numB_small q1 (by omega)) hi' hkeep.1 hkeep.2 (by unfold LenOK at hK; omega)).mono ?_
      rintro e w' ⟨rfl, hm, ⟨lm', hl, hf⟩, kc⟩
      have hpr := hkeep.1
      subst hpr
      have hq := repO_q (price := (V.om b).price) (h.q b hVL) hM q1 q2
      refine ⟨_, _, _, _, _, _, rfl, .inr ⟨rfl, Next.of R hi' _ hm hl hf kc (fun x hx => ?_) (fun j hj hne t' ht' l hl => ?_) (fun x => ?_) rfl (fun t' ht' x hx => .inl ⟨t', ht', hx⟩) ⟨⟨?_, by unfold LenOK at hK ⊢; simp only [Ven.turnL, Lg.begun, Lg.noted]; exact ⟨by omega, by omega, hK.2.2.1, by omega⟩, av.turn rfl (fun x => ?_) rfl rfl⟩, rfl, Nat.le_refl _⟩⟩⟩
      · rcases hx with hx | hx | hx
        · exact .inl hx
        · exact .inr (.inl hx)
        · exact .inr (.inr (.inr (.inr ⟨by rw [hx]; exact hVL, by rw [hx]; exact hap⟩)))
      · refine upd_other _ _ (fun e => hap j hj hne t' ht' ?_)
        rw [← e]; exact .inr ⟨l, hl, rfl⟩
      · by_cases e : x = b
        · rw [e, upd_same]; rfl
        · rw [upd_other _ _ e]
      · have hh : 0 < qty ↔ 0 < (V.om b).opn := by have := (h.q b hVL).o0; omega
        exact (h.keepRank (M' := M + 9) (by omega) (o' := repO (V.om b) (V.om b).price qty) hVL rfl rfl rfl rfl hh hq.1 i).relog _ _
      · show (upd V.om b (repO (V.om b) (V.om b).price qty) x).sym = _ ∧ (upd V.om b (repO (V.om b) (V.om b).price qty) x).side = _ ∧ (upd V.om b (repO (V.om b) (V.om b).price qty) x).id = _ ∧ (upd V.om b (repO (V.om b) (V.om b).price qty) x).filled = _
        by_cases e : x = b
        · rw [e, upd_same]; exact ⟨rfl, rfl, rfl, rfl⟩
        · rw [upd_other _ _ e]; exact ⟨rfl, rfl, rfl, rfl⟩
    · obtain ⟨s, hs, hts⟩ : ∃ s, s < 2 ∧ t = 1 - s := ⟨1 - t, by omega, by omega⟩
      have hq := repO_q (price := price) (h.q b hVL) hM q1 q2
      have hcn := h.count hidO hi ht
      have hcs := h.count hidO hi hs
      have iv := (h.anew (g := 0) (cap' := 0) (lm' := V.lm) (by omega) hM hi hs hts hk hkb (o' := repO (V.om b) price qty) rfl rfl hq.1).2.2
      refine (replace_anew bv bm bo b i s t k V id price qty w R hT hwf hb h0 (numB_small p1 p2) (numB_small q1 (by omega)) hi' (by rw [a, b']) (by rw [b']; exact symN_size i) hs hts hk hkb c hkeep iv (by omega) (by omega) (by unfold LenOK at hK; omega) (by unfold LenOK at hK; omega) (by unfold LenOK at hK; omega)).mono ?_
      rintro e w' ⟨v, w3, lm3, rfl, k3, hf3, w4, ⟨hv, g, cap', lm', hm, hl, hf, k4, hg⟩, hr4, k5⟩
      obtain ⟨f, r, ca, a', m, hrep⟩ := rep_form ((⟨(V.B i).leave V.om t k, upd V.om b (repO (V.om b) price qty), V.lg.moved b (V.om b)⟩ : MS).om b) (comeOm b (mF b s ⟨(V.B i).leave V.om t k, upd V.om b (repO (V.om b) price qty), V.lg.moved b (V.om b)⟩) b) (MS.tr ⟨(V.B i).leave V.om t k, upd V.om b (repO (V.om b) price qty), V.lg.moved b (V.om b)⟩) (mF b s ⟨(V.B i).leave V.om t k, upd V.om b (repO (V.om b) price qty), V.lg.moved b (V.om b)⟩).tr
      refine ⟨f, r, ca, a', m, 0, by rw [hv]; simp only at hrep ⊢; rw [hrep], .inr ⟨rfl, ?_⟩⟩
      obtain ⟨gv, run, _⟩ := h.anew (g := g) (cap' := cap') (lm' := lm') (by omega) hM hi hs hts hk hkb (o' := repO (V.om b) price qty) rfl rfl hq.1
      have hav := av.anew (g' := g) (cap' := cap') (lm' := lm') h (by omega) hM hi hs hts hk hkb (o' := repO (V.om b) price qty) rfl rfl rfl rfl hq.1 iv
      have hdy := matchF_day b s (mu b s ⟨(V.B i).leave V.om t k, upd V.om b (repO (V.om b) price qty), V.lg.moved b (V.om b)⟩) ⟨(V.B i).leave V.om t k, upd V.om b (repO (V.om b) price qty), V.lg.moved b (V.om b)⟩
      have hgw := matchF_tpge b s (mu b s ⟨(V.B i).leave V.om t k, upd V.om b (repO (V.om b) price qty), V.lg.moved b (V.om b)⟩) ⟨(V.B i).leave V.om t k, upd V.om b (repO (V.om b) price qty), V.lg.moved b (V.om b)⟩
      have sz3 := k3.size
      have subL : ∀ y, y < 2 → ∀ x, SdB ((V.B i).leave V.om t k) y x → SdB (V.B i) y x := fun y hy x hx => by
        by_cases e : y = t
        · subst e
          rcases hx with hx | ⟨l, hl, hx⟩
          · exact .inl hx
          · obtain ⟨k', hk', e', _⟩ := leave_memk (om := V.om) ((h.gb i hi).inj y hy) hk l hl
            exact .inr ⟨k', hk', by rw [hx, e']⟩
        · unfold SdB at hx ⊢
          simp only [Bk.leave, upd_other _ _ e] at hx
          exact hx
      obtain ⟨f1, f2, f3, f4, f5⟩ := matchF_frame b s (mu b s ⟨(V.B i).leave V.om t k, upd V.om b (repO (V.om b) price qty), V.lg.moved b (V.om b)⟩) ⟨(V.B i).leave V.om t k, upd V.om b (repO (V.om b) price qty), V.lg.moved b (V.om b)⟩
      have kk : Chg (fun x => x = bv ∨ V.lm.F x ∨ x = V.bk i ∨ x = b ∨ SdB (V.B i) s x ∨ SdB (V.B i) t x) w w4 := by
        refine (k3.mono (fun x hx => ?_)).from (k4.mono (fun x hx => ?_))
        · rcases hx with hx | hx | hx | hx | hx
          · exact .inl hx
          · exact .inr (.inl hx)
          · exact .inr (.inr (.inl hx))
          · exact .inr (.inr (.inr (.inl hx)))
          · exact .inr (.inr (.inr (.inr (.inr hx))))
        · rcases hx with hx | hx | hx | hx | hx | hx
          · exact .inl (.inl hx)
          · exact (hf3 x hx).imp_left (fun h => .inr (.inl h))
          · exact .inl (.inr (.inr (.inl hx)))
          · exact .inl (.inr (.inr (.inr (.inl hx))))
          · exact .inl (.inr (.inr (.inr (.inr (.inl (subL s hs x hx))))))
          · exact .inl (.inr (.inr (.inr (.inr (.inr (subL t ht x hx))))))
      have stat : ∀ x, Stat (upd V.om b (repO (V.om b) price qty) x) ((mF b s ⟨(V.B i).leave V.om t k, upd V.om b (repO (V.om b) price qty), V.lg.moved b (V.om b)⟩).om x) := run.stat
      have far := run.far
      have gbi := (h.gb i hi)
      have hN := Next.of R hi' (fun V2 => AQ n (K + 101) (M + 9) V2 ∧ V2.lg.day = V.lg.day ∧ V.lg.tp.length ≤ V2.lg.tp.length) hm hl (fun x hx => (hf x hx).elim (fun h => hf3 x h) (fun h => .inr (Nat.le_trans sz3 h))) kk (fun x hx => ?_) (fun j hj hne t' ht' l hl => ?_) (fun x => ?_) ?_ (fun t' ht' x hx => ?_) ⟨⟨gv, ?_, hav⟩, hdy, hgw⟩
      · exact hN.keep hr4 (Nat.le_refl _) k5
      · rcases hx with hx | hx | hx | hx | hx | hx
        · exact .inl hx
        · exact .inr (.inl hx)
        · exact .inr (.inr (.inl hx))
        · exact .inr (.inr (.inr (.inr ⟨by rw [hx]; exact hVL, by rw [hx]; exact hap⟩)))
        · exact .inr (.inr (.inr (.inl ⟨s, hs, hx⟩)))
        · exact .inr (.inr (.inr (.inl ⟨t, ht, hx⟩)))
      · have hne2 : (V.B j).h t' l ≠ b := fun e => hap j hj hne t' ht' (by rw [← e]; exact .inr ⟨l, hl, rfl⟩)
        rw [comeOm_far _ _ hne2, far _ hne2 (fun hmm => ?_)]
        · exact upd_other _ _ hne2
        · obtain ⟨k2, hk2, e2⟩ := hmm
          have hsd : SdB (V.B i) s ((V.B j).h t' l) := subL s hs _ (.inr ⟨k2, hk2, e2⟩)
          exact R.seps i j hi' hj (fun e => hne e.symm) s t' hs ht' _ hsd (.inr ⟨l, hl, rfl⟩)
      · rw [comeOm_id]
        rw [(stat x).1]
        by_cases e : x = b
        · rw [e, upd_same]; rfl
        · rw [upd_other _ _ e]
      · rw [comeB_sym]
        exact f4
      · rcases comeB_sd hx with hx | hx | hx
        · left
          by_cases es : t' = s
          · subst es
            refine ⟨t', ht', subL t' ht' x ?_⟩
            exact (matchF_om _ _ iv).2.2.1 x hx
          · refine ⟨t', ht', subL t' ht' x ?_⟩
            unfold SdB mF at hx
            rw [f2, (f1 t' es).1, (f1 t' es).2] at hx
            exact hx
        · exact .inr (.inl ⟨by rw [hx]; exact hVL, by rw [hx]; exact hap⟩)
        · rcases hg with hg | hg
          · exact .inl ⟨t, ht, .inl (by rw [hx]; exact hg)⟩
          · right; right; omega
      · have hl' := mF_len (oc := b) (s := s) (st := ⟨(V.B i).leave V.om t k, upd V.om b (repO (V.om b) price qty), V.lg.moved b (V.om b)⟩)
        have hns : ((V.B i).leave V.om t k).n s = (V.B i).n s := by simp only [Bk.leave]; rw [upd_other _ _ (by omega)]
        simp only [hns] at hl'
        have hsy := matchF_sy (oc := b) (s := s) (mu b s ⟨(V.B i).leave V.om t k, upd V.om b (repO (V.om b) price qty), V.lg.moved b (V.om b)⟩) ⟨(V.B i).leave V.om t k, upd V.om b (repO (V.om b) price qty), V.lg.moved b (V.om b)⟩ (by show (V.B i).sym.size ≤ 100000; rw [b']; exact symN_small i) hK.2.2.1
        have hna := (matchF_na b s (mu b s ⟨(V.B i).leave V.om t k, upd V.om b (repO (V.om b) price qty), V.lg.moved b (V.om b)⟩) ⟨(V.B i).leave V.om t k, upd V.om b (repO (V.om b) price qty), V.lg.moved b (V.om b)⟩).1
        change (mF b s ⟨(V.B i).leave V.om t k, upd V.om b (repO (V.om b) price qty), V.lg.moved b (V.om b)⟩).lg.na = V.lg.na + 1 at hna
        unfold LenOK at hK ⊢
        simp only [Ven.turnL, comeG_tr, comeG_tp, comeG_na]
        simp only [Lg.moved, Lg.begun, Lg.noted] at hl' hna ⊢
        exact ⟨by omega, by omega, hsy, by omega⟩

def EnterResA (bv bm bo n K : Nat) (V : Ven) (M : Int) (o : Ask) (w : World) (f r c a m E : Int) (w' : World) : Prop :=
  (E = 0 ∧ Next bv bm bo V (fun V2 => AQ (n + 1) (K + 101) M V2 ∧ V2.lg.day = V.lg.day ∧ V.lg.tp.length ≤ V2.lg.tp.length) w w' ∧ f + r + c = o.qty ∧ 0 ≤ f ∧ 0 ≤ r ∧ 0 ≤ c ∧ (m = 0 ↔ f = 0)) ∨ (E = 9 ∧ o.kind = 3 ∧ Chg Non w w') ∨ (E = 8 ∧ o.kind = 4 ∧ Chg Non w w')

theorem ven_enterA (bv bm bo n K i t : Nat) (V : Ven) (M : Int) (o : Ask) (w : World) (R : Rep w bv bm bo V) (hT : Tab w) (h : GV V n M) (av : AV V) (h9 : 9 ≤ M) (hM : M ≤ 1000000) (hn : n < 100) (hK : LenOK V K) (hK2 : K + 300 < 1000000) (hi : i < 2) (ht : t < 2) (ho : AskOK o n i t) :
    Calls Tryz.prog 64 #[.pointer (some ⟨bv, 0, none⟩), o.val] w fun e w' => ∃ f r c a m E, e = .returned (.tuple #[.agg #[.int .i64 f, .int .i64 r, .int .i64 c, .int .i64 a, .int .i64 m], .int .i64 E]) ∧ EnterResA bv bm bo n K V M o w f r c a m E w' := by
  obtain ⟨s, hs, hts⟩ : ∃ s, s < 2 ∧ t = 1 - s := ⟨1 - t, by omega, by omega⟩
  have hi' : i < V.nb := by rw [h.nb]; exact hi
  have hidO : ∀ id x, V.oid id = some x → (V.om x).id = id := fun id x hx => (R.ords id x hx).1
  have hsymB : (V.B i).sym = o.sym := by rw [(h.gb i hi).bsym, ho.sym]
  have hlen : o.sym.size ≤ maxLen := by rw [ho.sym]; exact symN_size i
  have hlen1 : o.sym.size ≤ 100 := by rw [ho.sym]; unfold symN; split <;> decide
  have bPr : i64B o.price := i64_of (by have h7 := ho.price; unfold priceB at h7; split at h7 <;> simp [numB] at h7 <;> omega)
  have h1 : numB o.id = true := numB_of (by rw [ho.id]; omega) (by rw [ho.id]; omega)
  have h2 : V.oid o.id = none := by
    cases e : V.oid o.id with
    | none => rfl
    | some x => have := (h.oid o.id).1 ⟨x, e⟩; rw [ho.id] at this; omega
  have h3 : ownB' o.owner = true := ownB_of ho.own.1 ho.own.2
  have h4 : sideB o.side = true := by
    rw [ho.side]
    have : t = 0 ∨ t = 1 := by omega
    rcases this with rfl | rfl <;> rfl
  have h5 : kindB o.kind = true := kindB_of ho.kind.1 ho.kind.2
  have h6 : numB o.qty = true := numB_of ho.qty.1 (by have := ho.qty.2; omega)
  have h8 : V.no < 200 := by rw [h.no]; omega
  have hside : o.side = 1 - (s : Int) := by rw [ho.side]; omega
  have hinv : ∀ k, k < (V.B i).n s → (V.om ((V.B i).h s k)).side = (s : Int) ∧ 0 < (V.om ((V.B i).h s k)).opn ∧ (V.om ((V.B i).h s k)).opn ≤ 1000000 := fun k hk => by
    obtain ⟨a, b, c, d⟩ := ((h.gb i hi).mem s hs _).1 ⟨k, hk, rfl⟩
    have q := h.q _ a
    exact ⟨c, d, by have := q.sum; have := q.f0; have := q.c0; have := q.e0; have := q.hi; omega⟩
  have good : (∀ W, Rep W bv bm bo V → Calls Tryz.prog 111 #[.pointer (some ⟨bv, 0, none⟩), o.val] W fun e w' => e = .returned (.int .i64 0) ∧ Chg Non W w') →
      Calls Tryz.prog 64 #[.pointer (some ⟨bv, 0, none⟩), o.val] w fun e w' => ∃ f r c a m E, e = .returned (.tuple #[.agg #[.int .i64 f, .int .i64 r, .int .i64 c, .int .i64 a, .int .i64 m], .int .i64 E]) ∧ EnterResA bv bm bo n K V M o w f r c a m E w' := by
    intro hrf
    have hct := h.count hidO hi ht
    have hcs := h.count hidO hi hs
    refine (enter_gen bv bm bo i s t V o w R hT hi' hsymB hlen1 (i64_of (by have := ho.own; omega)) (i64_of (by have := ho.kind; omega)) bPr h1 h2 h6 h8 hrf hs hts ho.side hinv (by rw [h.no]; exact hct) (by rw [h.no]; exact hcs) (by unfold LenOK at hK; omega) (by unfold LenOK at hK; omega) (by unfold LenOK at hK; omega)).mono ?_
    rintro e w' ⟨v, rfl, b, g, cap', lm', hb, rfl, R', k, hF, _⟩
    have hbn : ¬ VL V b := fun ⟨id, hx⟩ => by
      obtain ⟨_, ix, hob⟩ := R.ords id b hx
      have := hob.lt; omega
    obtain ⟨gv, run, iv⟩ := h.enter (g := g) (cap' := cap') (lm' := lm') hM hi hs hts ho.sym ho.side (by have := ho.qty.1; omega) (by have := ho.qty.2; omega) ho.id hbn
    obtain ⟨f, r, c, a, m, hrep, hsum, f0, r0, c0, hmf, _⟩ := rep_facts hM run (by unfold LenOK at hK; simp only [Lg.opened, Lg.begun, Lg.noted]; omega)
    have hl' := mF_len (oc := b) (s := s) (st := ⟨V.B i, upd V.om b (newOrd o), V.lg.opened o.id⟩)
    simp only at hl'
    have hna := (matchF_na b s (mu b s ⟨V.B i, upd V.om b (newOrd o), V.lg.opened o.id⟩) ⟨V.B i, upd V.om b (newOrd o), V.lg.opened o.id⟩).1
    change (mF b s ⟨V.B i, upd V.om b (newOrd o), V.lg.opened o.id⟩).lg.na = V.lg.na + 1 at hna
    have hav := av.enter (g' := g) (cap' := cap') (lm' := lm') (t := t) h hM hi hs ho.sym (by have := ho.qty.1; omega) (by have := ho.qty.2; omega) h2 hbn iv
    have hdy := matchF_day b s (mu b s ⟨V.B i, upd V.om b (newOrd o), V.lg.opened o.id⟩) ⟨V.B i, upd V.om b (newOrd o), V.lg.opened o.id⟩
    have hgw := matchF_tpge b s (mu b s ⟨V.B i, upd V.om b (newOrd o), V.lg.opened o.id⟩) ⟨V.B i, upd V.om b (newOrd o), V.lg.opened o.id⟩
    refine ⟨f, r, c, a, m, 0, ?_, .inl ⟨rfl, ⟨_, R', ⟨⟨gv, ?_, hav⟩, hdy, hgw⟩, k, hF⟩, hsum, f0, r0, c0, hmf⟩⟩
    · simp only [Ven.tr, Ven.enter, comeG_tr]
      have e : (V.lg.opened o.id).tr = V.lg.tr := rfl
      rw [e] at hrep
      rw [hrep]
      rfl
    · have hsy := matchF_sy (oc := b) (s := s) (mu b s ⟨V.B i, upd V.om b (newOrd o), V.lg.opened o.id⟩) ⟨V.B i, upd V.om b (newOrd o), V.lg.opened o.id⟩ (by show (V.B i).sym.size ≤ 100000; rw [hsymB, ho.sym]; exact symN_small i) hK.2.2.1
      unfold LenOK at hK ⊢
      simp only [Ven.enter, comeG_tr, comeG_tp, comeG_na]
      simp only [Lg.opened, Lg.begun, Lg.noted] at hl' hna ⊢
      exact ⟨by omega, by omega, hsy, by omega⟩
  by_cases hk3 : o.kind = 3
  · have hrw := fun W (RW : Rep W bv bm bo V) => refusal_whole bv bm bo i s V o W RW hi' hsymB hlen h1 h2 h3 h4 h5 h6 ho.price h8 hk3 hs hside (fun k hk => ⟨by have := (hinv k hk).2.1; omega, (hinv k hk).2.2⟩)
    by_cases hlt : supF V.om ((V.B i).h s) o ((V.B i).n s) < o.qty
    · refine (enter_err bv o 9 w (by decide) (fun W kW => ?_)).mono ?_
      · have := hrw W (R.kept0 kW)
        rw [if_pos hlt] at this
        exact this
      · rintro e w' ⟨rfl, k⟩
        exact ⟨0, 0, 0, 0, 0, 9, rfl, .inr (.inl ⟨rfl, hk3, k⟩)⟩
    · refine good (fun W RW => ?_)
      have := hrw W RW
      rw [if_neg hlt] at this
      exact this
  · by_cases hk4 : o.kind = 4
    · have hrw := fun W (RW : Rep W bv bm bo V) => refusal_post bv bm bo i s V o W RW hi' hsymB hlen h1 h2 h3 h4 h5 h6 ho.price h8 hk4 hs hside
      by_cases hsm : (firstG (V.B i) V.om o s).isSome = true
      · refine (enter_err bv o 8 w (by decide) (fun W kW => ?_)).mono ?_
        · have := hrw W (R.kept0 kW)
          rw [if_pos hsm] at this
          exact this
        · rintro e w' ⟨rfl, k⟩
          exact ⟨0, 0, 0, 0, 0, 8, rfl, .inr (.inr ⟨rfl, hk4, k⟩)⟩
      · refine good (fun W RW => ?_)
        have := hrw W RW
        rw [if_neg hsm] at this
        exact this
    · exact good (fun W RW => refusal_ok bv bm bo i V o W RW hi' hsymB hlen h1 h2 h3 h4 h5 h6 ho.price h8 hk3 hk4)

end Go.Proofs.YtigaphnafnpfnaaGreatDoor

