import Derived.Test.YtigaphnafnpfnaaGreatDoorPVE14
import Derived.Test.YtigaphnafnpfnaaGreatDoorPVM2
import Derived.Test.YtigaphnafnpfnaaGreatDoorPVY3
/- Replace -/
set_option linter.unusedVariables false
set_option linter.unusedSimpArgs false
namespace Go.Proofs.YtigaphnafnpfnaaGreatDoor
open Go.RowKit Go.Maps
attribute [local go_sem ↓] Go.wp_at_zero Go.wp_at_succ

/-- what is told and noted where an order comes anew -/
def Lg.moved (G : Lg) (b : Nat) (o : Ord) : Lg := G.begun.noted [.left b, .now b o]

theorem res25 (tmps : Array Value) (H : Nat) (w : World) (a b c d e E : Int) (ht : tmps.getD 8 undef = .pointer (some ⟨H, 0, none⟩)) (hu : tmps.getD 9 undef = .int .i64 E) (hb : Blk w H #[.int .i64 a, .int .i64 b, .int .i64 c, .int .i64 d, .int .i64 e] 87) :
    (results Tryz.f38 tmps).run Tryz.prog w = .ok (.tuple #[.agg #[.int .i64 a, .int .i64 b, .int .i64 c, .int .i64 d, .int .i64 e], .int .i64 E]) w := by
  have c0 : w.cell? ⟨H, 0, none⟩ = some (.int .i64 a) := hb.cell 0
  have c1 : w.cell? ⟨H, 1, none⟩ = some (.int .i64 b) := hb.cell 1
  have c2 : w.cell? ⟨H, 2, none⟩ = some (.int .i64 c) := hb.cell 2
  have c3 : w.cell? ⟨H, 3, none⟩ = some (.int .i64 d) := hb.cell 3
  have c4 : w.cell? ⟨H, 4, none⟩ = some (.int .i64 e) := hb.cell 4
  simp only [Array.getD_eq_getD_getElem?] at ht hu
  simp [results, Tryz.results38, go_sem, ht, hu, c0, c1, c2, c3, c4]

set_option maxRecDepth 100000 in
set_option maxHeartbeats 4000000 in
theorem replace_closed (bv bm bo b : Nat) (V : Ven) (id price qty : Int) (w : World) (R : Rep w bv bm bo V) (hid : (Lit.int .i64 id).wf = true) (hn : V.oid id = some b) (h0 : (V.om b).opn = 0) :
    Calls Tryz.prog 38 #[.pointer (some ⟨bv, 0, none⟩), .int .i64 id, .int .i64 price, .int .i64 qty] w fun e w' => e = .returned (.tuple #[.agg #[.int .i64 0, .int .i64 0, .int .i64 0, .int .i64 0, .int .i64 0], .int .i64 10]) ∧ Chg Non w w' := by
  have k1 : Chg Non w (w.alloc (.cells #[.int .i64 0, .int .i64 0, .int .i64 0, .int .i64 0, .int .i64 0] 87)) := (Chg.refl Non w).alloc _
  have L2 := (R.kept0 k1).lookO hid
  rw [hn] at L2
  simp only [ptrO] at L2
  obtain ⟨-, ix, ho⟩ := R.ords id b hn
  have o8 : w.cell? ⟨b, 8, none⟩ = some (.int .i64 0) := by rw [← h0]; exact ho.cell 8
  have v1 : w.cell? ⟨bv, 1, none⟩ = some (.map (some bo)) := R.ven.cell 1
  have lv := R.ven.lt
  have lo := ho.lt
  clear R hn ho h0
  go_enter Tryz.func38, Tryz.ntmps38
  go_wp2
  refine bodyPost_ret (res25 _ w.heap.size _ 0 0 0 0 0 10 rfl rfl ?_) rfl ⟨rfl, ?_⟩
  · exact Blk.new w _ _
  · exact (Chg.refl Non w).alloc _

def repO (o : Ord) (price qty : Int) : Ord := { o with price := price, entered := wrap64 (o.entered + wrap64 (qty - o.opn)), opn := qty }

set_option maxHeartbeats 1000000 in
theorem amend_any (b : Nat) (o : Ord) (ix price qty : Int) (w : World) (ho : IsOrd w b o ix) :
    Calls Tryz.prog 69 #[.pointer (some ⟨b, 0, none⟩), .int .i64 price, .int .i64 qty] w fun e w' => e = .returned (.func (.func 151) #[] #[.pointer (some ⟨w.heap.size + 1, 0, none⟩), .pointer (some ⟨w.heap.size, 0, none⟩)]) ∧ NowB w' w.heap.size b o ∧ IsOrd w' b (repO o price qty) ix ∧ Chg (fun x => x = b) w w' := by
  have HA := hide (asNow_any b o ix w ho)
  have lo := ho.lt
  go_enter Tryz.func69, Tryz.ntmps69
  go_wp2_with fail
  refine (unhide HA).mono ?_
  rintro e w1 ⟨rfl, n1, k1⟩
  have ho1 := k1.blk ho (fun x => x)
  have h7 : w1.cell? ⟨b, 7, none⟩ = some (.int .i64 o.entered) := Blk.cell ho1 7
  have h8 : w1.cell? ⟨b, 8, none⟩ = some (.int .i64 o.opn) := Blk.cell ho1 8
  have h5 : w1.cell? ⟨b, 5, none⟩ = some (.int .i64 o.price) := Blk.cell ho1 5
  have f7 := Blk.frozen ho1 7
  have f8 := Blk.frozen ho1 8
  have f5 := Blk.frozen ho1 5
  go_wp2
  go_region
  go_wp2
  go_ret
  have k2 := ((((Chg.refl (fun x => x = b) w1).setCell (p := ⟨b, 7, none⟩) (.inl rfl) (.int .i64 (wrap64 (o.entered + wrap64 (qty - o.opn))))).setCell (p := ⟨b, 8, none⟩) (.inl rfl) (.int .i64 qty)).setCell (p := ⟨b, 5, none⟩) (.inl rfl) (.int .i64 price)).drew
  refine ⟨rfl, n1.kept k2 (by omega) (by omega), ?_, k1.of_non.trans k2⟩
  have := ((ho1.set 7 (.int .i64 (wrap64 (o.entered + wrap64 (qty - o.opn))))).set 8 (.int .i64 qty)).set 5 (.int .i64 price)
  exact this

theorem amend_mk (bb b : Nat) (B : Bk) (om : Nat → Ord) (L : Nat → Prop) (price qty : Int) (w : World) (m : Mk w bb B om L) (hb : L b) :
    Calls Tryz.prog 69 #[.pointer (some ⟨b, 0, none⟩), .int .i64 price, .int .i64 qty] w fun e w' => ∃ fn cp, e = .returned (.func fn #[] cp) ∧ IsNowF w' b (om b) w.heap.size fn cp ∧ Mk w' bb B (upd om b (repO (om b) price qty)) L ∧ Chg (fun x => x = b) w w' := by
  obtain ⟨ix, ho⟩ := m.ords b hb
  refine (amend_any b (om b) ix price qty w ho).mono ?_
  rintro e w' ⟨rfl, h0, h1, h2⟩
  exact ⟨_, _, rfl, ⟨rfl, _, Nat.le_refl _, rfl, h0⟩, m.upd ho h2 h1, h2⟩

set_option maxRecDepth 100000 in
set_option maxHeartbeats 4000000 in
theorem replace_keep (bv bm bo b i : Nat) (V : Ven) (id price qty : Int) (w : World) (R : Rep w bv bm bo V) (hT : Tab w) (hid : (Lit.int .i64 id).wf = true) (hn : V.oid id = some b) (h0 : (V.om b).opn ≠ 0) (hp : numB price = true) (hq : numB qty = true) (hi : i < V.nb)
    (hpr : price = (V.om b).price) (hle : qty ≤ (V.om b).opn) (hna : V.lg.na < 3000000) :
    Calls Tryz.prog 38 #[.pointer (some ⟨bv, 0, none⟩), .int .i64 id, .int .i64 price, .int .i64 qty] w fun e w' => e = .returned (.tuple #[.agg #[.int .i64 0, .int .i64 qty, .int .i64 0, .int .i64 0, .int .i64 0], .int .i64 0]) ∧
      Mk w' (V.bk i) (V.B i) (upd V.om b (repO (V.om b) price qty)) (fun x => ∃ id, V.oid id = some x) ∧ Acted bv bm bo V.lg V.lm [.now b (V.om b)] w w' ∧ Chg (fun x => x = bv ∨ V.lm.F x ∨ x = b) w w' := by
  obtain ⟨wa, hwa⟩ : ∃ wa, wa = w.alloc (.cells zero5 87) := ⟨_, rfl⟩
  have ka : Chg Non w wa := by rw [hwa]; exact (Chg.refl Non w).alloc _
  have hra : Blk wa w.heap.size zero5 87 := by rw [hwa]; exact Blk.new w _ _
  have L2 := (R.kept0 ka).lookO hid
  rw [hn] at L2
  simp only [ptrO] at L2
  rw [hwa] at L2
  simp only [zero5] at L2
  obtain ⟨-, ix, ho⟩ := R.ords id b hn
  have o8 : w.cell? ⟨b, 8, none⟩ = some (.int .i64 (V.om b).opn) := ho.cell 8
  have v1 : w.cell? ⟨bv, 1, none⟩ = some (.map (some bo)) := R.ven.cell 1
  have lv := R.ven.lt
  have lo := ho.lt
  have e0 : ((V.om b).opn == 0) = false := by simp [h0]
  have e1 : decide (qty ≤ (V.om b).opn) = true := by simp [hle]
  have HW : Hid (wa = w.alloc (.cells #[.int .i64 0, .int .i64 0, .int .i64 0, .int .i64 0, .int .i64 0] 87)) := hwa
  have hLs := lines_from ⟨#[114, 101, 112, 108, 97, 99, 101]⟩ (three id price qty) 3 wa (hT.kept0 ka) (by decide) (by decide) (by omega) (fun i hi => by
    match i, hi with
    | 0, _ => exact bounds_i64 hid
    | 1, _ => exact i64_of (by simp [numB] at hp; show -1000000 ≤ price ∧ price ≤ 1000000; omega)
    | 2, _ => exact i64_of (by simp [numB] at hq; show -1000000 ≤ qty ∧ qty ≤ 1000000; omega))
  generalize lineF (three id price qty) ⟨#[114, 101, 112, 108, 97, 99, 101]⟩ 3 = ln at hLs
  have HBeg := hide (begin_from bv bm bo V.lg V.lm ln wa (R.kept0 ka).log hna hLs.1.1 hLs.1.2)
  have HLs := hide hLs.2
  have hsz : wa.heap.size = w.heap.size + 1 := by rw [hwa]; simp
  have HCl : Hid (∀ i, i < 3 → (wa.alloc (.cells #[.int .i64 id, .int .i64 price, .int .i64 qty] 3)).cell? ⟨w.heap.size + 1, i, none⟩ = some (.int .i64 (three id price qty i))) := by
    intro i hi
    rw [← hsz]
    match i, hi with
    | 0, _ => exact (Blk.new wa _ _).cell 0
    | 1, _ => exact (Blk.new wa _ _).cell 1
    | 2, _ => exact (Blk.new wa _ _).cell 2
  clear hLs hsz
  have HR := hide R
  have HN := hide hn
  have HPR := hide hpr
  have HE1 := hide e1
  clear R hn ho h0 hle hpr hwa e1
  go_enter Tryz.func38, Tryz.ntmps38
  go_wp2_with (first | (go_at_call 68; refine (isNumber_any _ _).mono ?_; rintro e w' ⟨rfl, rfl⟩) | fail)
  rw [← unhide HW]
  refine (unhide HLs _ ((Chg.refl Non wa).alloc _) _ _ (unhide HCl)).mono ?_
  rintro e wl ⟨rfl, kl⟩
  have HKl := hide kl
  clear kl
  go_wp2_with fail
  refine (unhide HBeg _ (unhide HKl)).mono ?_
  rintro e wb ⟨rfl, lmb, hLb, hFb, kb, -, -⟩
  clear HLs HKl HCl
  clear L2 o8 v1
  have Rb := ((unhide HR).kept0 ka).turnLog hLb kb
  have hnb : ({ V with lg := V.lg.begun, lm := lmb } : Ven).oid id = some b := unhide HN
  obtain ⟨-, ixb, hob⟩ := Rb.ords id b hnb
  have o8 : wb.cell? ⟨b, 8, none⟩ = some (.int .i64 (V.om b).opn) := Blk.cell hob 8
  have o5 : wb.cell? ⟨b, 5, none⟩ = some (.int .i64 price) := by rw [unhide HPR]; exact Blk.cell hob 5
  have e1 := unhide HE1
  have hrb := kb.blk hra (by
    rintro (e | e)
    · omega
    · have := (unhide HR).log.log.lt e; omega)
  have hFb' : ∀ x, lmb.F x → V.lm.F x ∨ w.heap.size ≤ x := fun x h => (hFb x h).imp_right (fun h => Nat.le_trans ka.size h)
  have kkb : Chg (fun x => x = bv ∨ V.lm.F x ∨ x = b) w wb := ka.of_non.trans (kb.mono (fun x h => h.imp_right .inl))
  have HAm := hide (amend_mk (V.bk i) b (V.B i) V.om (fun x => ∃ id, V.oid id = some x) price qty wb (Rb.mkt hi) ⟨id, unhide HN⟩)
  have HNt : Hid (∀ w3 fn3 cp3, Mk w3 (V.bk i) (V.B i) (upd V.om b (repO (V.om b) price qty)) (fun x => ∃ id, V.oid id = some x) → Chg (fun x => x = b) wb w3 →
      Calls Tryz.prog 53 #[.pointer (some ⟨bv, 0, none⟩), .slice (some ⟨w3.heap.size, 0, none⟩) 1 1] (w3.alloc (.cells #[.func fn3 #[] cp3] 1)) fun e w' => e = .returned (.tuple #[]) ∧
        Mk w' (V.bk i) (V.B i) (upd V.om b (repO (V.om b) price qty)) (fun x => ∃ id, V.oid id = some x) ∧ Acted bv bm bo V.lg V.lm [.now b (V.om b)] w w' ∧ Chg (fun x => x = bv ∨ V.lm.F x ∨ x = b) w w' ∧ Blk w' w.heap.size zero5 87) := by
    intro w3 fn3 cp3 m3 k3
    have h3 := hLb.keptT k3 (fun x h => by subst h; exact (Rb.mkt hi).typ (.inr (.inl ⟨id, unhide HN⟩)))
    have hr3 := k3.blk hrb (fun h => by omega)
    refine (note1 bv bm bo _ lmb (.now b (V.om b)) fn3 cp3 w3 h3 (by show 0 < V.lg.na + 1; omega) (by show V.lg.na + 1 ≤ 3000000; omega) (by show 0 + 1 < 1000000000; omega)).mono ?_
    rintro e w' ⟨rfl, lm', a1, a2, a3⟩
    have kc3 := kkb.trans (k3.mono (fun x h => .inr (.inr h)))
    refine ⟨rfl, m3.keptLog h3 (a3.mono (fun _ h => .inr h)), ⟨lm', a1, fun x hx => ?_⟩, kc3.from (a3.mono (fun x h => (hFb' x h).imp_left (fun h => .inr (.inl h)))), a3.blk hr3 (h3.log.ne hr3 (by decide) (by decide) (by decide))⟩
    rcases a2 x hx with h | h
    · exact hFb' x h
    · exact .inr (Nat.le_trans kc3.size h)
  clear hob hnb Rb hLb hFb kb HBeg hrb hFb' kkb ka hra HW
  go_wp2_with fail
  refine (unhide HAm).mono ?_
  rintro e w3 ⟨fn3, cp3, rfl, -, m3, k3⟩
  go_wp2_with fail
  refine (unhide HNt w3 fn3 cp3 m3 k3).mono ?_
  rintro e w4 ⟨rfl, m4, ac4, kc4, hr4⟩
  have r0 : w4.cell? ⟨w.heap.size, 0, none⟩ = some (.int .i64 0) := hr4.cell 0
  have r1 : w4.cell? ⟨w.heap.size, 1, none⟩ = some (.int .i64 0) := hr4.cell 1
  have r2 : w4.cell? ⟨w.heap.size, 2, none⟩ = some (.int .i64 0) := hr4.cell 2
  have r3 : w4.cell? ⟨w.heap.size, 3, none⟩ = some (.int .i64 0) := hr4.cell 3
  have r4 : w4.cell? ⟨w.heap.size, 4, none⟩ = some (.int .i64 0) := hr4.cell 4
  have q0 := hr4.frozen 0
  have q1 := hr4.frozen 1
  have q2 := hr4.frozen 2
  have q3 := hr4.frozen 3
  have q4 := hr4.frozen 4
  have HM4 := hide m4
  have HA4 := hide ac4
  have HK4 := hide kc4
  clear m3 k3 m4 ac4 kc4 o8 o5
  go_wp2
  have kB : Chg (fun x => x = w.heap.size) w4 (((((w4.setCell ⟨w.heap.size, 0, none⟩ (.int .i64 0)).setCell ⟨w.heap.size, 1, none⟩ (.int .i64 qty)).setCell ⟨w.heap.size, 2, none⟩ (.int .i64 0)).setCell ⟨w.heap.size, 3, none⟩ (.int .i64 0)).setCell ⟨w.heap.size, 4, none⟩ (.int .i64 0)) :=
    (((((Chg.refl (fun x => x = w.heap.size) w4).setCell (p := ⟨w.heap.size, 0, none⟩) (.inl rfl) _).setCell (p := ⟨w.heap.size, 1, none⟩) (.inl rfl) _).setCell (p := ⟨w.heap.size, 2, none⟩) (.inl rfl) _).setCell (p := ⟨w.heap.size, 3, none⟩) (.inl rfl) _).setCell (p := ⟨w.heap.size, 4, none⟩) (.inl rfl) _
  refine bodyPost_ret (res25 _ w.heap.size _ 0 qty 0 0 0 0 rfl rfl ?_) rfl ⟨rfl, ?_, ?_, ?_⟩
  · exact ((((hr4.set 0 _).set 1 _).set 2 _).set 3 _).set 4 _
  · have mA := unhide HM4
    refine mA.kept kB (fun e => ?_) (fun x hx e => ?_) (fun y hy x hx e => ?_)
    · have := ((unhide HR).book i hi).blk.lt; omega
    · obtain ⟨ix', ho'⟩ := mA.ords x hx
      subst e
      exact Blk.ne ho' hr4 (by decide) rfl
    · subst e
      exact (mA.book.side y hy).ne hr4 (by decide) hx
  · obtain ⟨lm', a1, a2⟩ := unhide HA4
    exact ⟨lm', a1.kept kB (by omega) (fun x hx e => a1.log.ne hr4 (by decide) (by decide) (by decide) (by decide) (by decide) (e ▸ hx)), a2⟩
  · exact (unhide HK4).from (kB.mono (fun x h => .inr (by omega)))

end Go.Proofs.YtigaphnafnpfnaaGreatDoor

set_option linter.unusedVariables false
set_option linter.unusedSimpArgs false
/- The other refusals of List, Replace, Book. -/
namespace Go.Proofs.YtigaphnafnpfnaaGreatDoor
open Go.RowKit Go.Maps
attribute [local go_sem ↓] Go.wp_at_zero Go.wp_at_succ

set_option maxRecDepth 100000 in
set_option maxHeartbeats 4000000 in
theorem replace_unknown (bv bm bo : Nat) (V : Ven) (id price qty : Int) (w : World) (R : Rep w bv bm bo V) (hid : (Lit.int .i64 id).wf = true) (hn : V.oid id = none) :
    Calls Tryz.prog 38 #[.pointer (some ⟨bv, 0, none⟩), .int .i64 id, .int .i64 price, .int .i64 qty] w fun e w' => e = .returned (.tuple #[.agg #[.int .i64 0, .int .i64 0, .int .i64 0, .int .i64 0, .int .i64 0], .int .i64 6]) ∧ Chg Non w w' := by
  have k1 : Chg Non w (w.alloc (.cells #[.int .i64 0, .int .i64 0, .int .i64 0, .int .i64 0, .int .i64 0] 87)) := (Chg.refl Non w).alloc _
  have L2 := (R.kept0 k1).lookO hid
  rw [hn] at L2
  simp only [ptrO] at L2
  have v1 : w.cell? ⟨bv, 1, none⟩ = some (.map (some bo)) := R.ven.cell 1
  have lv := R.ven.lt
  clear R hn
  go_enter Tryz.func38, Tryz.ntmps38
  go_wp2
  refine bodyPost_ret (res25 _ w.heap.size _ 0 0 0 0 0 6 rfl rfl ?_) rfl ⟨rfl, ?_⟩
  · exact Blk.new w _ _
  · exact (Chg.refl Non w).alloc _

set_option maxRecDepth 100000 in
set_option maxHeartbeats 4000000 in
theorem replace_range (bv bm bo b : Nat) (V : Ven) (id price qty : Int) (w : World) (R : Rep w bv bm bo V) (hid : (Lit.int .i64 id).wf = true) (hn : V.oid id = some b) (h0 : (V.om b).opn ≠ 0) (hr : numB price = false ∨ (numB price = true ∧ numB qty = false)) :
    Calls Tryz.prog 38 #[.pointer (some ⟨bv, 0, none⟩), .int .i64 id, .int .i64 price, .int .i64 qty] w fun e w' => e = .returned (.tuple #[.agg #[.int .i64 0, .int .i64 0, .int .i64 0, .int .i64 0, .int .i64 0], .int .i64 4]) ∧ Chg Non w w' := by
  have k1 : Chg Non w (w.alloc (.cells #[.int .i64 0, .int .i64 0, .int .i64 0, .int .i64 0, .int .i64 0] 87)) := (Chg.refl Non w).alloc _
  have L2 := (R.kept0 k1).lookO hid
  rw [hn] at L2
  simp only [ptrO] at L2
  obtain ⟨-, ix, ho⟩ := R.ords id b hn
  have o8 : w.cell? ⟨b, 8, none⟩ = some (.int .i64 (V.om b).opn) := ho.cell 8
  have e0 : ((V.om b).opn == 0) = false := by simp [h0]
  have v1 : w.cell? ⟨bv, 1, none⟩ = some (.map (some bo)) := R.ven.cell 1
  have lv := R.ven.lt
  have lo := ho.lt
  clear R hn ho h0
  rcases hr with h1 | ⟨h1, h2⟩
  all_goals
    go_enter Tryz.func38, Tryz.ntmps38
    go_wp2_with (first | (go_at_call 68; refine (isNumber_any _ _).mono ?_; rintro e w' ⟨rfl, rfl⟩))
    refine bodyPost_ret (res25 _ w.heap.size _ 0 0 0 0 0 4 rfl rfl ?_) rfl ⟨rfl, ?_⟩
    · exact Blk.new w _ _
    · exact (Chg.refl Non w).alloc _

set_option maxHeartbeats 1000000 in
theorem list_limit (bv bm bo : Nat) (V : Ven) (s : ByteArray) (w : World) (R : Rep w bv bm bo V) (hn : NameSays s true) (hlen : s.size ≤ maxLen) (hfree : ∀ i, i < V.nb → (V.B i).sym ≠ s) (hnb : 6 ≤ V.nb) : Calls Tryz.prog 27 #[.pointer (some ⟨bv, 0, none⟩), .string s] w fun e w' => e = .returned (.int .i64 7) ∧ Chg Non w w' := by
  obtain ⟨fB, mB, fB1, fB2⟩ := R.books
  have hl : fB (sl s) = none := by
    cases h : fB (sl s) with
    | none => rfl
    | some b =>
      obtain ⟨i, hi, _, h2⟩ := fB2 s b h
      exact absurd h2 (hfree i hi)
  have HL := hide hl
  obtain ⟨n, hnn⟩ : ∃ n, V.nb = n := ⟨_, rfl⟩
  have e6 : decide ((6 : Int) ≤ (n : Int)) = true := by simp; omega
  have hK : ∀ w', Chg Non w w' → (Instr.lookup 94 (.map (some bm)) (.string s) false).run Tryz.prog w' = .ok (.pointer none) w' ∧ w'.cell? ⟨bv, 0, none⟩ = some (.map (some bm)) ∧ (Builtin.len_ #[94] 3 #[.map (some bm)]).run Tryz.prog w' = .ok (.int .i64 (n : Int)) w' := fun w' k => by
    refine ⟨?_, (k.blk R.ven (fun x => x)).cell 0, by rw [← hnn]; exact (mB.kept k (fun x => x)).len Tryz.underlying94 _⟩
    rw [(mB.kept k (fun x => x)).look law9 Tryz.underlying94 (zero70 _) (WideMaps.keyOf_string_mk Tryz.underlying9 hlen)]
    show _ = Result.ok (ptrO none) _
    rw [← unhide HL]; rfl
  have lv := R.ven.lt
  have HK := hide hK
  clear hl R hK hnn mB fB1 fB2
  go_enter Tryz.func27, Tryz.ntmps27
  go_wp2_with fail
  refine (hn _).mono ?_
  rintro e w' ⟨rfl, k⟩
  have k2 := ((Chg.refl Non w).alloc (.cells #[.pointer (some ⟨bv, 0, none⟩)] 35)).trans k
  obtain ⟨g1, g2, g3⟩ := unhide HK w' k2
  have hb : Blk w' w.heap.size #[.pointer (some ⟨bv, 0, none⟩)] 35 := k.blk (Blk.new w _ _) (fun x => x)
  have g4 : w'.cell? ⟨w.heap.size, 0, none⟩ = some (.pointer (some ⟨bv, 0, none⟩)) := hb.cell 0
  have HK2 := hide k2
  clear k k2 hb
  go_wp2
  go_ret
  exact ⟨rfl, unhide HK2⟩

set_option maxHeartbeats 1000000 in
theorem book_unknown (bv bm bo : Nat) (V : Ven) (s : ByteArray) (side : Int) (w : World) (R : Rep w bv bm bo V) (hlen : s.size ≤ maxLen) (hfree : ∀ i, i < V.nb → (V.B i).sym ≠ s) :
    Calls Tryz.prog 25 #[.pointer (some ⟨bv, 0, none⟩), .string s, .int .i64 side] w fun e w' => e = .returned (.tuple #[.slice none 0 0, .int .i64 6]) ∧ Chg Non w w' := by
  obtain ⟨fB, mB, fB1, fB2⟩ := R.books
  have hl : fB (sl s) = none := by
    cases h : fB (sl s) with
    | none => rfl
    | some b =>
      obtain ⟨i, hi, _, h2⟩ := fB2 s b h
      exact absurd h2 (hfree i hi)
  have L1 : (Instr.lookup 94 (.map (some bm)) (.string s) false).run Tryz.prog w = .ok (.pointer none) w := by
    rw [mB.look law9 Tryz.underlying94 (zero70 _) (WideMaps.keyOf_string_mk Tryz.underlying9 hlen)]
    show _ = Result.ok (ptrO none) _
    rw [← hl]; rfl
  have v0 : w.cell? ⟨bv, 0, none⟩ = some (.map (some bm)) := R.ven.cell 0
  clear R hl mB fB1 fB2
  go_enter Tryz.func25, Tryz.ntmps25
  go_wp2
  go_ret2
  exact ⟨rfl, Chg.refl _ _⟩

set_option maxHeartbeats 1000000 in
theorem book_range (bv bm bo i : Nat) (V : Ven) (side : Int) (w : World) (R : Rep w bv bm bo V) (hi : i < V.nb) (hlen : (V.B i).sym.size ≤ maxLen) (hs : sideB side = false) :
    Calls Tryz.prog 25 #[.pointer (some ⟨bv, 0, none⟩), .string (V.B i).sym, .int .i64 side] w fun e w' => e = .returned (.tuple #[.slice none 0 0, .int .i64 4]) ∧ Chg Non w w' := by
  have L1 := R.lookB hi hlen
  have v0 : w.cell? ⟨bv, 0, none⟩ = some (.map (some bm)) := R.ven.cell 0
  clear R
  go_enter Tryz.func25, Tryz.ntmps25
  go_wp2_with (first | (go_at_call 47; refine (isSide_any _ _).mono ?_; rintro e w' ⟨rfl, rfl⟩))
  go_ret2
  exact ⟨rfl, Chg.refl _ _⟩

end Go.Proofs.YtigaphnafnpfnaaGreatDoor

