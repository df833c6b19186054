/- Good venues: Enter, Status, Book -/
import Derived.Test.YtafhnopgndemcaaGreatP1
set_option linter.unusedVariables false
set_option linter.unusedSimpArgs false
namespace Go.Proofs.YtafhnopgndemcaaGreat
open Go.RowKit Go.Maps

/-- an order that a player may send -/
structure AskOK (o : Ask) (n i t : Nat) : Prop where
  id : o.id = (n : Int) + 1
  own : 0 ≤ o.owner ∧ o.owner ≤ 9
  sym : o.sym = symN i
  side : o.side = (t : Int)
  kind : 0 ≤ o.kind ∧ o.kind ≤ 5
  price : priceB o.kind o.price = true
  qty : 1 ≤ o.qty ∧ o.qty ≤ 9

def EnterRes (bv bm bo n K : Nat) (V : Ven) (M : Int) (o : Ask) (w : World) (f r c a m E : Int) (w' : World) : Prop :=
  (E = 0 ∧ Next bv bm bo V (fun V2 => GV V2 (n + 1) M ∧ LenOK V2 (K + 101)) w w' ∧ f + r + c = o.qty ∧ 0 ≤ f ∧ 0 ≤ r ∧ 0 ≤ c ∧ (m = 0 ↔ f = 0)) ∨ (E = 9 ∧ o.kind = 3 ∧ Chg Non w w') ∨ (E = 8 ∧ o.kind = 4 ∧ Chg Non w w')

theorem ven_enter (bv bm bo n K i t : Nat) (V : Ven) (M : Int) (o : Ask) (w : World) (R : Rep w bv bm bo V) (h : GV V n M) (h9 : 9 ≤ M) (hM : M ≤ 1000000) (hn : n < 100) (hK : LenOK V K) (hK2 : K + 300 < 1000000) (hi : i < 2) (ht : t < 2) (ho : AskOK o n i t) :
    Calls Tryz.prog 54 #[.pointer (some ⟨bv, 0, none⟩), o.val] w fun e w' => ∃ f r c a m E, e = .returned (.tuple #[.agg #[.int .i64 f, .int .i64 r, .int .i64 c, .int .i64 a, .int .i64 m], .int .i64 E]) ∧ EnterRes bv bm bo n K V M o w f r c a m E w' := by
  obtain ⟨s, hs, hts⟩ : ∃ s, s < 2 ∧ t = 1 - s := ⟨1 - t, by omega, by omega⟩
  have hi' : i < V.nb := by rw [h.nb]; exact hi
  have hidO : ∀ id x, V.oid id = some x → (V.om x).id = id := fun id x hx => (R.ords id x hx).1
  have hsymB : (V.B i).sym = o.sym := by rw [(h.gb i hi).bsym, ho.sym]
  have hlen : o.sym.size ≤ maxLen := by rw [ho.sym]; exact symN_size i
  have h1 : numB o.id = true := numB_of (by rw [ho.id]; omega) (by rw [ho.id]; omega)
  have h2 : V.oid o.id = none := by
    cases e : V.oid o.id with
    | none => rfl
    | some x => have := (h.oid o.id).1 ⟨x, e⟩; rw [ho.id] at this; omega
  have h3 : ownB' o.owner = true := ownB_of ho.own.1 ho.own.2
  have h4 : sideB o.side = true := by
    rw [ho.side]
    have : t = 0 ∨ t = 1 := by omega
    rcases this with rfl | rfl <;> rfl
  have h5 : kindB o.kind = true := kindB_of ho.kind.1 ho.kind.2
  have h6 : numB o.qty = true := numB_of ho.qty.1 (by have := ho.qty.2; omega)
  have h8 : V.no < 200 := by rw [h.no]; omega
  have hside : o.side = 1 - (s : Int) := by rw [ho.side]; omega
  have hinv : ∀ k, k < (V.B i).n s → (V.om ((V.B i).h s k)).side = (s : Int) ∧ 0 < (V.om ((V.B i).h s k)).opn ∧ (V.om ((V.B i).h s k)).opn ≤ 1000000 := fun k hk => by
    obtain ⟨a, b, c, d⟩ := ((h.gb i hi).mem s hs _).1 ⟨k, hk, rfl⟩
    have q := h.q _ a
    exact ⟨c, d, by have := q.sum; have := q.f0; have := q.c0; have := q.e0; have := q.hi; omega⟩
  have good : (∀ W, Rep W bv bm bo V → Calls Tryz.prog 89 #[.pointer (some ⟨bv, 0, none⟩), o.val] W fun e w' => e = .returned (.int .i64 0) ∧ Chg Non W w') →
      Calls Tryz.prog 54 #[.pointer (some ⟨bv, 0, none⟩), o.val] w fun e w' => ∃ f r c a m E, e = .returned (.tuple #[.agg #[.int .i64 f, .int .i64 r, .int .i64 c, .int .i64 a, .int .i64 m], .int .i64 E]) ∧ EnterRes bv bm bo n K V M o w f r c a m E w' := by
    intro hrf
    have hct := h.count hidO hi ht
    have hcs := h.count hidO hi hs
    refine (enter_gen bv bm bo i s t V o w R hi' hsymB hlen h1 h2 h6 h8 hrf hs hts ho.side hinv (by rw [h.no]; exact hct) (by rw [h.no]; exact hcs) (by unfold LenOK at hK; omega) (by unfold LenOK at hK; omega) (by unfold LenOK at hK; omega)).mono ?_
    rintro e w' ⟨v, rfl, b, g, cap', lm', hb, rfl, R', k, hF, _⟩
    have hbn : ¬ VL V b := fun ⟨id, hx⟩ => by
      obtain ⟨_, ix, hob⟩ := R.ords id b hx
      have := hob.lt; omega
    obtain ⟨gv, run, _⟩ := h.enter (g := g) (cap' := cap') (lm' := lm') hM hi hs hts ho.sym ho.side (by have := ho.qty.1; omega) (by have := ho.qty.2; omega) ho.id hbn
    obtain ⟨f, r, c, a, m, hrep, hsum, f0, r0, c0, hmf, _⟩ := rep_facts hM run (by unfold LenOK at hK; simp only [Lg.opened, Lg.begun, Lg.noted]; omega)
    have hl' := mF_len (oc := b) (s := s) (st := ⟨V.B i, upd V.om b (newOrd o), V.lg.opened o.id⟩)
    simp only at hl'
    have hna := (matchF_na b s (mu b s ⟨V.B i, upd V.om b (newOrd o), V.lg.opened o.id⟩) ⟨V.B i, upd V.om b (newOrd o), V.lg.opened o.id⟩).1
    change (mF b s ⟨V.B i, upd V.om b (newOrd o), V.lg.opened o.id⟩).lg.na = V.lg.na + 1 at hna
    refine ⟨f, r, c, a, m, 0, ?_, .inl ⟨rfl, ⟨_, R', ⟨gv, ?_⟩, k, hF⟩, hsum, f0, r0, c0, hmf⟩⟩
    · simp only [Ven.tr, Ven.enter, comeG_tr]
      have e : (V.lg.opened o.id).tr = V.lg.tr := rfl
      rw [e] at hrep
      rw [hrep]
      rfl
    · have hsy := matchF_sy (oc := b) (s := s) (mu b s ⟨V.B i, upd V.om b (newOrd o), V.lg.opened o.id⟩) ⟨V.B i, upd V.om b (newOrd o), V.lg.opened o.id⟩ (by show (V.B i).sym.size ≤ 100000; rw [hsymB, ho.sym]; exact symN_small i) hK.2.2.1
      unfold LenOK at hK ⊢
      simp only [Ven.enter, comeG_tr, comeG_tp, comeG_na]
      simp only [Lg.opened, Lg.begun, Lg.noted] at hl' hna ⊢
      exact ⟨by omega, by omega, hsy, by omega⟩
  by_cases hk3 : o.kind = 3
  · have hrw := fun W (RW : Rep W bv bm bo V) => refusal_whole bv bm bo i s V o W RW hi' hsymB hlen h1 h2 h3 h4 h5 h6 ho.price h8 hk3 hs hside (fun k hk => ⟨by have := (hinv k hk).2.1; omega, (hinv k hk).2.2⟩)
    by_cases hlt : supF V.om ((V.B i).h s) o ((V.B i).n s) < o.qty
    · refine (enter_err bv o 9 w (by decide) (fun W kW => ?_)).mono ?_
      · have := hrw W (R.kept0 kW)
        rw [if_pos hlt] at this
        exact this
      · rintro e w' ⟨rfl, k⟩
        exact ⟨0, 0, 0, 0, 0, 9, rfl, .inr (.inl ⟨rfl, hk3, k⟩)⟩
    · refine good (fun W RW => ?_)
      have := hrw W RW
      rw [if_neg hlt] at this
      exact this
  · by_cases hk4 : o.kind = 4
    · have hrw := fun W (RW : Rep W bv bm bo V) => refusal_post bv bm bo i s V o W RW hi' hsymB hlen h1 h2 h3 h4 h5 h6 ho.price h8 hk4 hs hside
      by_cases hsm : (firstG (V.B i) V.om o s).isSome = true
      · refine (enter_err bv o 8 w (by decide) (fun W kW => ?_)).mono ?_
        · have := hrw W (R.kept0 kW)
          rw [if_pos hsm] at this
          exact this
        · rintro e w' ⟨rfl, k⟩
          exact ⟨0, 0, 0, 0, 0, 8, rfl, .inr (.inr ⟨rfl, hk4, k⟩)⟩
      · refine good (fun W RW => ?_)
        have := hrw W RW
        rw [if_neg hsm] at this
        exact this
    · exact good (fun W RW => refusal_ok bv bm bo i V o W RW hi' hsymB hlen h1 h2 h3 h4 h5 h6 ho.price h8 hk3 hk4)

theorem ven_status (bv bm bo n : Nat) (V : Ven) (M id : Int) (w : World) (R : Rep w bv bm bo V) (h : GV V n M) (hn : n ≤ 200) (h1 : 1 ≤ id) (h2 : id ≤ n) :
    Calls Tryz.prog 23 #[.pointer (some ⟨bv, 0, none⟩), .int .i64 id] w fun e w' => ∃ b, V.oid id = some b ∧ e = .returned (.tuple #[.agg (statC (V.om b)), .int .i64 0]) ∧ Chg Non w w' := by
  obtain ⟨b, hb⟩ := h.has h1 h2
  refine (status_some bv bm bo b V id w R (idwf h1 h2 hn) hb ?_).mono ?_
  · rcases h.sym b ⟨id, hb⟩ with e | e <;> rw [e] <;> decide
  · rintro e w' ⟨rfl, k⟩
    exact ⟨b, hb, rfl, k⟩

end Go.Proofs.YtafhnopgndemcaaGreat
