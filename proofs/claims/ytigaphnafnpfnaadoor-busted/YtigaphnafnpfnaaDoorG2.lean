/- Busted: what is taken back -/
import Derived.Test.YtigaphnafnpfnaaDoorF5
import Derived.Test.YtigaphnafnpfnaaDoorG1
set_option linter.unusedVariables false
set_option linter.unusedSimpArgs false
namespace Go.Proofs.YtigaphnafnpfnaaDoor
open Go.RowKit Go.Maps

theorem Turned.of {w w' : World} {bv bm bo i : Nat} {V : Ven} (R : Rep w bv bm bo V) (hi : i < V.nb) {B' : Bk} {om' : Nat → Ord} {S : Nat → Prop} (Q : Ven → Prop) {ds : List Back} (hds : ds.length ≤ 3) (hn : Noted bv bm bo V.lg V.lm ds w w')
    (hm : Mk w' (V.bk i) B' om' (fun x => ∃ id, V.oid id = some x)) (k : Chg (fun x => S x ∨ ActF V.lm.av V.lm.ac x) w w') (hS : ∀ x, S x → x = V.bk i ∨ (∃ s, s < 2 ∧ SdB (V.B i) s x) ∨ ((∃ id, V.oid id = some x) ∧ Apart V i x))
    (hom : ∀ x, Apart V i x ∨ om' x = V.om x) (hid : ∀ x, (om' x).id = (V.om x).id) (hsym : B'.sym = (V.B i).sym)
    (hsd : ∀ s, s < 2 → ∀ x, SdB B' s x → (∃ t, t < 2 ∧ SdB (V.B i) t x) ∨ ((∃ id, V.oid id = some x) ∧ Apart V i x) ∨ w.heap.size ≤ x) (hQ : ∀ G' lm', Q { V.turn i B' om' with lg := G', lm := lm' }) : Turned bv bm bo V Q w w' := by
  have apart0 : ∀ s, s < 2 → ∀ x, SdB (V.B i) s x → Apart V i x := fun s hs x hx j hj hne t ht h => R.seps i j hi hj (fun e => hne e.symm) s t hs ht x hx h
  obtain ⟨lm', hl, hF⟩ := hn
  refine ⟨{ V.turn i B' om' with lg := V.lg.noted ds, lm := lm' }, R.turnG hi hm hl (k.mono (fun x h => h.imp_right (fun h => .inr (.inr (.inr h))))) hS (fun j hj hne s hs l hl => ?_) hid hsym (fun s hs x hx => ?_), hQ _ _, ⟨rfl, rfl, rfl, rfl, by simp only [Lg.noted, List.length_append]; omega⟩, fun b c t hb ht => ?_, rfl, k.mono (fun x hx => ?_), fun x hx => ?_⟩
  · rcases hom ((V.B j).h s l) with h | h
    · exact absurd (.inr ⟨l, hl, rfl⟩) (h j hj hne s hs)
    · exact h
  · rcases hsd s hs x hx with ⟨t, ht, h⟩ | ⟨_, h⟩ | h
    · exact .inl (apart0 t ht x h)
    · exact .inl h
    · exact .inr h
  · refine k.blk hb ?_
    rintro (h | h)
    · obtain ⟨c', t', hc, ht'⟩ := (R.mkt hi).typ (b := b) (by
        rcases hS b h with h | h | ⟨h, _⟩
        · exact .inl h
        · exact .inr (.inr h)
        · exact .inr (.inl h))
      exact Blk.ne hb hc (by rcases ht with rfl | rfl | rfl <;> rcases ht' with rfl | rfl | rfl <;> decide) rfl
    · obtain ⟨c', t', hc, ht'⟩ := R.log.log.act.typ h
      exact Blk.ne hb hc (by rcases ht with rfl | rfl | rfl <;> rcases ht' with rfl | rfl <;> decide) rfl
  · rcases hx with hx | hx
    · rcases hS x hx with h | ⟨s, hs, h⟩ | ⟨h, _⟩
      · exact .inr (.inr (.inr (.inl ⟨i, hi, .inl h⟩)))
      · exact .inr (.inr (.inr (.inl ⟨i, hi, .inr ⟨s, hs, h⟩⟩)))
      · exact .inr (.inr (.inr (.inr (.inl h))))
    · exact .inr (.inr (.inr (.inr (.inr (.inr (.inr (.inr hx)))))))
  · rcases hx with h | h | h | ⟨j, hj, h⟩ | h | h
    · exact .inl (.inl h)
    · exact .inl (.inr (.inl h))
    · exact .inl (.inr (.inr (.inl h)))
    · rcases h with h | ⟨s, hs, h⟩
      · exact .inl (.inr (.inr (.inr (.inl ⟨j, hj, .inl h⟩))))
      · by_cases e : j = i
        · subst e
          simp only [Ven.turn, upd_same] at h
          rcases hsd s hs x h with ⟨t, ht, h⟩ | ⟨h, _⟩ | h
          · exact .inl (.inr (.inr (.inr (.inl ⟨j, hj, .inr ⟨t, ht, h⟩⟩))))
          · exact .inl (.inr (.inr (.inr (.inr (.inl h)))))
          · exact .inr h
        · simp only [Ven.turn, upd_other _ _ e] at h
          exact .inl (.inr (.inr (.inr (.inl ⟨j, hj, .inr ⟨s, hs, h⟩⟩))))
    · exact .inl (.inr (.inr (.inr (.inr (.inl h)))))
    · exact (hF x h).imp_left (fun h => .inr (.inr (.inr (.inr (.inr h)))))

structure BuC (V : Ven) (bx by' : Nat) (s b : Int) (ox oy : Ord) : Prop where
  nb : V.nb = 2
  sym : (V.B 1).sym = sG
  n0 : (V.B 1).n 0 = 0
  n1 : (V.B 1).n 1 = if s ≤ b then 0 else 1
  h0 : ¬ s ≤ b → (V.B 1).h 1 0 = bx
  b0 : ∀ t, (V.B 0).sl t = none ∧ (V.B 0).n t = 0
  oid : V.oid = fun id => if id = 2 then some by' else if id = 1 then some bx else none
  omx : V.om bx = ox
  omy : V.om by' = oy

theorem BuC.apart {V : Ven} {bx by' : Nat} {s b : Int} {ox oy : Ord} (h : BuC V bx by' s b ox oy) (x : Nat) : Apart V 1 x := by
  intro j hj hne t ht hx
  obtain rfl : j = 0 := by rw [h.nb] at hj; omega
  rcases hx with hx | ⟨l, hl, _⟩
  · rw [(h.b0 t).1] at hx; simp [adB] at hx
  · rw [(h.b0 t).2] at hl; omega

/-- it is cancelled -/
theorem tb_cancel (bv bm bo bz o : Nat) (V : Ven) (bx by' : Nat) (s b q id : Int) (ox oy : Ord) (again : Bool) (w : World) (R : Rep w bv bm bo V) (h : BuC V bx by' s b ox oy) (hid : V.oid id = some bz) (ho : o < 2) (hside : (V.om bz).side = 1 - (o : Int)) (hsym : (V.om bz).sym = sG) (hc : again = false ∨ restsB (V.om bz).kind = false) (hna : 0 < V.lg.na) (hna2 : V.lg.na ≤ 1000000) (hnt : V.lg.nt.length ≤ 100) :
    Calls Tryd.prog 27 #[.pointer (some ⟨bv, 0, none⟩), .pointer (some ⟨bz, 0, none⟩), .int .i64 q, .bool again] w fun e w' => e = .returned (.tuple #[]) ∧
      Turned bv bm bo V (fun V' => BuC V' bx by' s b (upd V.om bz (cancelF (V.om bz) q) bx) (upd V.om bz (cancelF (V.om bz) q) by')) w w' := by
  have hi : 1 < V.nb := by rw [h.nb]; omega
  refine (takeBack_cancel bv bm bo 1 bz o V id q again w R hi hid (by rw [hsym, h.sym]) (by rw [h.sym]; decide) ho hside (hc.elim .inl (fun h => .inr (.inl h))) hna hna2 (by omega)).mono ?_
  rintro e w' ⟨rfl, hm, hno, k⟩
  refine ⟨rfl, Turned.of R hi _ (ds := [.now bz (V.om bz)]) (by simp) hno hm k (fun x hx => .inr (.inr ⟨⟨id, by rw [hx]; exact hid⟩, h.apart x⟩)) (fun x => .inl (h.apart x)) (fun x => ?_) rfl (fun t ht x hx => .inl ⟨t, ht, hx⟩) ?_⟩
  · by_cases e : x = bz
    · rw [e, upd_same]; rfl
    · rw [upd_other _ _ e]
  · intro G' lm'
    refine ⟨h.nb, ?_, ?_, ?_, ?_, ?_, h.oid, rfl, rfl⟩
    · simp only [Ven.turn, upd_same]; exact h.sym
    · simp only [Ven.turn, upd_same]; exact h.n0
    · simp only [Ven.turn, upd_same]; exact h.n1
    · intro e; simp only [Ven.turn, upd_same]; exact h.h0 e
    · intro t; simp only [Ven.turn]; rw [upd_other _ _ (by omega)]; exact h.b0 t

/-- it comes again -/
theorem tb_again (bv bm bo : Nat) (V : Ven) (bx by' : Nat) (s b q : Int) (ox oy : Ord) (w : World) (R : Rep w bv bm bo V) (h : BuC V bx by' s b ox oy) (hne : bx ≠ by') (hside : ox.side = 1) (hsym : ox.sym = sG) (hr : restsB ox.kind = true) (h0 : 0 < ox.opn ↔ ¬ s ≤ b) (hna : 0 < V.lg.na) (hna2 : V.lg.na ≤ 1000000) (hnt : V.lg.nt.length ≤ 100) :
    Calls Tryd.prog 27 #[.pointer (some ⟨bv, 0, none⟩), .pointer (some ⟨bx, 0, none⟩), .int .i64 q, .bool true] w fun e w' => e = .returned (.tuple #[]) ∧
      Turned bv bm bo V (fun V' => (∃ pl, V'.om bx = { openF ox q with place := pl }) ∧ V'.om by' = oy) w w' := by
  have hi : 1 < V.nb := by rw [h.nb]; omega
  have hid : V.oid 1 = some bx := by rw [h.oid]; rfl
  have hf : firstG (V.B 1) V.om (askOf (V.om bx)) 0 = none := by unfold firstG; rw [if_pos h.n0]
  have hidx : ∀ x, (againOm V 1 bx q x).id = (V.om x).id := fun x => by
    unfold againOm
    by_cases e : x = bx
    · rw [e, upd_same]; rfl
    · rw [upd_other _ _ e, upd_other _ _ e]
  have hQ : ∀ B' G' lm', (∃ pl, ({ V.turn 1 B' (againOm V 1 bx q) with lg := G', lm := lm' } : Ven).om bx = { openF ox q with place := pl }) ∧ ({ V.turn 1 B' (againOm V 1 bx q) with lg := G', lm := lm' } : Ven).om by' = oy := fun B' G' lm' => by
    simp only [Ven.turn]
    refine ⟨⟨_, by unfold againOm; rw [upd_same, h.omx]⟩, ?_⟩
    unfold againOm
    rw [upd_other _ _ (fun e => hne e.symm), upd_other _ _ (fun e => hne e.symm), h.omy]
  have hcap : (V.B 1).n 1 < 1000 := by rw [h.n1]; split <;> omega
  by_cases e : s ≤ b
  · have hn1 : (V.B 1).n 1 = 0 := by rw [h.n1, if_pos e]
    refine (takeBack_new bv bm bo 1 bx 0 1 V 1 q w R hi hid (by rw [h.omx, hsym, h.sym]) (by rw [h.sym]; decide) (by omega) rfl (by rw [h.omx, hside]; rfl) (by rw [h.omx]; exact hr) hf (by rw [h.omx]; exact fun hh => (h0.1 hh) e) (fun x hx k hk => ?_) hcap hna hna2 (by omega)).mono ?_
    · have : x = 0 ∨ x = 1 := by omega
      rcases this with rfl | rfl
      · rw [h.n0] at hk; omega
      · rw [hn1] at hk; omega
    · rintro e' w' ⟨rfl, g, cap', hm, hno, k, hg⟩
      refine ⟨rfl, Turned.of R hi _ (ds := [.now bx (V.om bx), .rested bx (V.om bx).place]) (by simp) hno hm k (fun x hx => ?_) (fun x => .inl (h.apart x)) hidx rfl (fun t ht x hx => ?_) (hQ _)⟩
      · rcases hx with hx | hx | hx
        · exact .inl hx
        · exact .inr (.inr ⟨⟨1, by rw [hx]; exact hid⟩, h.apart x⟩)
        · exact .inr (.inl ⟨1, by omega, hx⟩)
      · by_cases et : t = 1
        · subst et
          rcases hx with hx | ⟨l, hl, hx⟩
          · simp only [Bk.rest, upd_same, adB, Option.some.injEq] at hx
            rcases hg with hg | hg
            · exact .inl ⟨1, by omega, .inl (by rw [hg, hx])⟩
            · right; right; omega
          · simp only [Bk.rest, upd_same] at hl hx
            rcases (mem_push (lt := ltB (againOm V 1 bx q)) ((V.B 1).h 1) bx _).1 ⟨l, hl, rfl⟩ with h' | h'
            · obtain ⟨k', hk', e'⟩ := h'
              rw [hn1] at hk'; omega
            · exact .inr (.inl ⟨⟨1, by rw [hx, h']; exact hid⟩, h.apart x⟩)
        · left
          refine ⟨t, ht, ?_⟩
          unfold SdB at hx ⊢
          simp only [Bk.rest, upd_other _ _ et] at hx
          exact hx
  · have hn1 : (V.B 1).n 1 = 1 := by rw [h.n1, if_neg e]
    refine (takeBack_more bv bm bo 1 bx 0 1 0 V 1 q w R hi hid (by rw [h.omx, hsym, h.sym]) (by rw [h.sym]; decide) (by omega) rfl (by rw [h.omx, hside]; rfl) (by rw [h.omx]; exact hr) hf (by rw [h.omx]; exact h0.2 e) (by rw [hn1]; omega) (h.h0 e) hcap hna hna2 (by omega)).mono ?_
    rintro e' w' ⟨rfl, g, cap', hm, hno, k, hg⟩
    refine ⟨rfl, Turned.of R hi _ (ds := [.left bx, .now bx (V.om bx), .rested bx (V.om bx).place]) (by simp) hno hm k (fun x hx => ?_) (fun x => .inl (h.apart x)) hidx rfl (fun t ht x hx => ?_) (hQ _)⟩
    · rcases hx with hx | hx | hx
      · exact .inl hx
      · exact .inr (.inr ⟨⟨1, by rw [hx]; exact hid⟩, h.apart x⟩)
      · exact .inr (.inl ⟨1, by omega, hx⟩)
    · by_cases et : t = 1
      · subst et
        rcases hx with hx | ⟨l, hl, hx⟩
        · simp only [Bk.rest, Bk.leave, upd_same, adB, Option.some.injEq] at hx
          rcases hg with hg | hg
          · exact .inl ⟨1, by omega, .inl (by rw [hg, hx])⟩
          · right; right; omega
        · simp only [Bk.rest, upd_same] at hl hx
          rcases (mem_push (lt := ltB (againOm V 1 bx q)) (((V.B 1).leave V.om 1 0).h 1) bx _).1 ⟨l, hl, rfl⟩ with h' | h'
          · obtain ⟨k', hk', e'⟩ := h'
            simp only [Bk.leave, upd_same, hn1] at hk'; omega
          · exact .inr (.inl ⟨⟨1, by rw [hx, h']; exact hid⟩, h.apart x⟩)
      · left
        refine ⟨t, ht, ?_⟩
        unfold SdB at hx ⊢
        simp only [Bk.rest, Bk.leave, upd_other _ _ et] at hx
        exact hx

end Go.Proofs.YtigaphnafnpfnaaDoor
