import Derived.Test.YtigaphnafnpfnaaGreatDoorHE12
import Derived.Test.YtigaphnafnpfnaaGreatDoorHM3
import Derived.Test.YtigaphnafnpfnaaGreatDoorHF4
/- Replace -/
set_option linter.unusedVariables false
set_option linter.unusedSimpArgs false
namespace Go.Proofs.YtigaphnafnpfnaaGreatDoor
open Go.RowKit Go.Maps
attribute [local go_sem ↓] Go.wp_at_zero Go.wp_at_succ

theorem res25 (tmps : Array Value) (H : Nat) (w : World) (a b c d e E : Int) (ht : tmps.getD 8 undef = .pointer (some ⟨H, 0, none⟩)) (hu : tmps.getD 9 undef = .int .i64 E) (hb : Blk w H #[.int .i64 a, .int .i64 b, .int .i64 c, .int .i64 d, .int .i64 e] 87) :
    (results Tryz.f38 tmps).run Tryz.prog w = .ok (.tuple #[.agg #[.int .i64 a, .int .i64 b, .int .i64 c, .int .i64 d, .int .i64 e], .int .i64 E]) w := by
  have c0 : w.cell? ⟨H, 0, none⟩ = some (.int .i64 a) := hb.cell 0
  have c1 : w.cell? ⟨H, 1, none⟩ = some (.int .i64 b) := hb.cell 1
  have c2 : w.cell? ⟨H, 2, none⟩ = some (.int .i64 c) := hb.cell 2
  have c3 : w.cell? ⟨H, 3, none⟩ = some (.int .i64 d) := hb.cell 3
  have c4 : w.cell? ⟨H, 4, none⟩ = some (.int .i64 e) := hb.cell 4
  simp only [Array.getD_eq_getD_getElem?] at ht hu
  simp [results, Tryz.results38, go_sem, ht, hu, c0, c1, c2, c3, c4]

set_option maxRecDepth 100000 in
set_option maxHeartbeats 4000000 in
theorem replace_closed (bv bm bo b : Nat) (V : Ven) (id price qty : Int) (w : World) (R : Rep w bv bm bo V) (hid : (Lit.int .i64 id).wf = true) (hn : V.oid id = some b) (h0 : (V.om b).opn = 0) :
    Calls Tryz.prog 38 #[.pointer (some ⟨bv, 0, none⟩), .int .i64 id, .int .i64 price, .int .i64 qty] w fun e w' => e = .returned (.tuple #[.agg #[.int .i64 0, .int .i64 0, .int .i64 0, .int .i64 0, .int .i64 0], .int .i64 10]) ∧ Chg Non w w' := by
  have k1 : Chg Non w (w.alloc (.cells #[.int .i64 0, .int .i64 0, .int .i64 0, .int .i64 0, .int .i64 0] 87)) := (Chg.refl Non w).alloc _
  have L2 := (R.kept0 k1).lookO hid
  rw [hn] at L2
  simp only [ptrO] at L2
  obtain ⟨-, ix, ho⟩ := R.ords id b hn
  have o8 : w.cell? ⟨b, 8, none⟩ = some (.int .i64 0) := by rw [← h0]; exact ho.cell 8
  have v1 : w.cell? ⟨bv, 1, none⟩ = some (.map (some bo)) := R.ven.cell 1
  have lv := R.ven.lt
  have lo := ho.lt
  clear R hn ho h0
  go_enter Tryz.func38, Tryz.ntmps38
  go_wp2
  refine bodyPost_ret (res25 _ w.heap.size _ 0 0 0 0 0 10 rfl rfl ?_) rfl ⟨rfl, ?_⟩
  · exact Blk.new w _ _
  · exact (Chg.refl Non w).alloc _

def repO (o : Ord) (price qty : Int) : Ord := { o with price := price, entered := wrap64 (o.entered + wrap64 (qty - o.opn)), opn := qty }

set_option maxHeartbeats 1000000 in
theorem amend_any (b : Nat) (o : Ord) (ix price qty : Int) (w : World) (ho : IsOrd w b o ix) :
    Calls Tryz.prog 69 #[.pointer (some ⟨b, 0, none⟩), .int .i64 price, .int .i64 qty] w fun e w' => e = .returned (.func (.func 151) #[] #[.pointer (some ⟨w.heap.size + 1, 0, none⟩), .pointer (some ⟨w.heap.size, 0, none⟩)]) ∧ NowB w' w.heap.size b o ∧ IsOrd w' b (repO o price qty) ix ∧ Chg (fun x => x = b) w w' := by
  have HA := hide (asNow_any b o ix w ho)
  have lo := ho.lt
  go_enter Tryz.func69, Tryz.ntmps69
  go_wp2_with fail
  refine (unhide HA).mono ?_
  rintro e w1 ⟨rfl, n1, k1⟩
  have ho1 := k1.blk ho (fun x => x)
  have h7 : w1.cell? ⟨b, 7, none⟩ = some (.int .i64 o.entered) := Blk.cell ho1 7
  have h8 : w1.cell? ⟨b, 8, none⟩ = some (.int .i64 o.opn) := Blk.cell ho1 8
  have h5 : w1.cell? ⟨b, 5, none⟩ = some (.int .i64 o.price) := Blk.cell ho1 5
  have f7 := Blk.frozen ho1 7
  have f8 := Blk.frozen ho1 8
  have f5 := Blk.frozen ho1 5
  go_wp2
  go_region
  go_wp2
  go_ret
  have k2 := ((((Chg.refl (fun x => x = b) w1).setCell (p := ⟨b, 7, none⟩) (.inl rfl) (.int .i64 (wrap64 (o.entered + wrap64 (qty - o.opn))))).setCell (p := ⟨b, 8, none⟩) (.inl rfl) (.int .i64 qty)).setCell (p := ⟨b, 5, none⟩) (.inl rfl) (.int .i64 price)).drew
  refine ⟨rfl, n1.kept k2 (by omega) (by omega), ?_, k1.of_non.trans k2⟩
  have := ((ho1.set 7 (.int .i64 (wrap64 (o.entered + wrap64 (qty - o.opn))))).set 8 (.int .i64 qty)).set 5 (.int .i64 price)
  exact this

theorem amend_mk (bb b : Nat) (B : Bk) (om : Nat → Ord) (L : Nat → Prop) (price qty : Int) (w : World) (m : Mk w bb B om L) (hb : L b) :
    Calls Tryz.prog 69 #[.pointer (some ⟨b, 0, none⟩), .int .i64 price, .int .i64 qty] w fun e w' => ∃ fn cp, e = .returned (.func fn #[] cp) ∧ IsNowF w' b (om b) w.heap.size fn cp ∧ Mk w' bb B (upd om b (repO (om b) price qty)) L ∧ Chg (fun x => x = b) w w' := by
  obtain ⟨ix, ho⟩ := m.ords b hb
  refine (amend_any b (om b) ix price qty w ho).mono ?_
  rintro e w' ⟨rfl, h0, h1, h2⟩
  exact ⟨_, _, rfl, ⟨rfl, _, Nat.le_refl _, rfl, h0⟩, m.upd ho h2 h1, h2⟩

set_option maxRecDepth 100000 in
set_option maxHeartbeats 4000000 in
theorem replace_keep (bv bm bo b i : Nat) (V : Ven) (id price qty : Int) (w : World) (R : Rep w bv bm bo V) (hT : Tab w) (hid : (Lit.int .i64 id).wf = true) (hn : V.oid id = some b) (h0 : (V.om b).opn ≠ 0) (hp : numB price = true) (hq : numB qty = true) (hi : i < V.nb)
    (hpr : price = (V.om b).price) (hle : qty ≤ (V.om b).opn) (hna : V.lg.na < 1000000) :
    Calls Tryz.prog 38 #[.pointer (some ⟨bv, 0, none⟩), .int .i64 id, .int .i64 price, .int .i64 qty] w fun e w' => e = .returned (.tuple #[.agg #[.int .i64 0, .int .i64 qty, .int .i64 0, .int .i64 0, .int .i64 0], .int .i64 0]) ∧
      Mk w' (V.bk i) (V.B i) (upd V.om b (repO (V.om b) price qty)) (fun x => ∃ id, V.oid id = some x) ∧ Acted bv bm bo V.lg V.lm [.now b (V.om b)] w w' ∧ Chg (fun x => x = bv ∨ V.lm.F x ∨ x = b) w w' := by
  obtain ⟨wa, hwa⟩ : ∃ wa, wa = w.alloc (.cells zero5 87) := ⟨_, rfl⟩
  have ka : Chg Non w wa := by rw [hwa]; exact (Chg.refl Non w).alloc _
  have hra : Blk wa w.heap.size zero5 87 := by rw [hwa]; exact Blk.new w _ _
  have L2 := (R.kept0 ka).lookO hid
  rw [hn] at L2
  simp only [ptrO] at L2
  rw [hwa] at L2
  simp only [zero5] at L2
  obtain ⟨-, ix, ho⟩ := R.ords id b hn
  have o8 : w.cell? ⟨b, 8, none⟩ = some (.int .i64 (V.om b).opn) := ho.cell 8
  have v1 : w.cell? ⟨bv, 1, none⟩ = some (.map (some bo)) := R.ven.cell 1
  have lv := R.ven.lt
  have lo := ho.lt
  have e0 : ((V.om b).opn == 0) = false := by simp [h0]
  have e1 : decide (qty ≤ (V.om b).opn) = true := by simp [hle]
  have HW : Hid (wa = w.alloc (.cells #[.int .i64 0, .int .i64 0, .int .i64 0, .int .i64 0, .int .i64 0] 87)) := hwa
  have hLs := lines_from ⟨#[114, 101, 112, 108, 97, 99, 101]⟩ (three id price qty) 3 wa (hT.kept0 ka) (by decide) (by decide) (by omega) (fun i hi => by
    match i, hi with
    | 0, _ => exact bounds_i64 hid
    | 1, _ => exact i64_of (by simp [numB] at hp; show -1000000 ≤ price ∧ price ≤ 1000000; omega)
    | 2, _ => exact i64_of (by simp [numB] at hq; show -1000000 ≤ qty ∧ qty ≤ 1000000; omega))
  generalize lineF (three id price qty) ⟨#[114, 101, 112, 108, 97, 99, 101]⟩ 3 = ln at hLs
  have HBeg := hide (begin_from bv bm bo V.lg V.lm ln wa (R.kept0 ka).log hna hLs.1.1 hLs.1.2)
  have HLs := hide hLs.2
  have hsz : wa.heap.size = w.heap.size + 1 := by rw [hwa]; simp
  have HCl : Hid (∀ i, i < 3 → (wa.alloc (.cells #[.int .i64 id, .int .i64 price, .int .i64 qty] 3)).cell? ⟨w.heap.size + 1, i, none⟩ = some (.int .i64 (three id price qty i))) := by
    intro i hi
    rw [← hsz]
    match i, hi with
    | 0, _ => exact (Blk.new wa _ _).cell 0
    | 1, _ => exact (Blk.new wa _ _).cell 1
    | 2, _ => exact (Blk.new wa _ _).cell 2
  clear hLs hsz
  have HR := hide R
  have HN := hide hn
  have HPR := hide hpr
  have HE1 := hide e1
  clear R hn ho h0 hle hpr hwa e1
  go_enter Tryz.func38, Tryz.ntmps38
  go_wp2_with (first | (go_at_call 68; refine (isNumber_any _ _).mono ?_; rintro e w' ⟨rfl, rfl⟩) | fail)
  rw [← unhide HW]
  refine (unhide HLs _ ((Chg.refl Non wa).alloc _) _ _ (unhide HCl)).mono ?_
  rintro e wl ⟨rfl, kl⟩
  have HKl := hide kl
  clear kl
  go_wp2_with fail
  refine (unhide HBeg _ (unhide HKl)).mono ?_
  rintro e wb ⟨rfl, lmb, hLb, hFb, kb, -, -⟩
  clear HLs HKl HCl
  clear L2 o8 v1
  have Rb := ((unhide HR).kept0 ka).turnLog hLb kb
  have hnb : ({ V with lg := V.lg.begun, lm := lmb } : Ven).oid id = some b := unhide HN
  obtain ⟨-, ixb, hob⟩ := Rb.ords id b hnb
  have o8 : wb.cell? ⟨b, 8, none⟩ = some (.int .i64 (V.om b).opn) := Blk.cell hob 8
  have o5 : wb.cell? ⟨b, 5, none⟩ = some (.int .i64 price) := by rw [unhide HPR]; exact Blk.cell hob 5
  have e1 := unhide HE1
  have hrb := kb.blk hra (by
    rintro (e | e)
    · omega
    · have := (unhide HR).log.log.lt e; omega)
  have hFb' : ∀ x, lmb.F x → V.lm.F x ∨ w.heap.size ≤ x := fun x h => (hFb x h).imp_right (fun h => Nat.le_trans ka.size h)
  have kkb : Chg (fun x => x = bv ∨ V.lm.F x ∨ x = b) w wb := ka.of_non.trans (kb.mono (fun x h => h.imp_right .inl))
  have HAm := hide (amend_mk (V.bk i) b (V.B i) V.om (fun x => ∃ id, V.oid id = some x) price qty wb (Rb.mkt hi) ⟨id, unhide HN⟩)
  have HNt : Hid (∀ w3 fn3 cp3, Mk w3 (V.bk i) (V.B i) (upd V.om b (repO (V.om b) price qty)) (fun x => ∃ id, V.oid id = some x) → Chg (fun x => x = b) wb w3 →
      Calls Tryz.prog 53 #[.pointer (some ⟨bv, 0, none⟩), .slice (some ⟨w3.heap.size, 0, none⟩) 1 1] (w3.alloc (.cells #[.func fn3 #[] cp3] 1)) fun e w' => e = .returned (.tuple #[]) ∧
        Mk w' (V.bk i) (V.B i) (upd V.om b (repO (V.om b) price qty)) (fun x => ∃ id, V.oid id = some x) ∧ Acted bv bm bo V.lg V.lm [.now b (V.om b)] w w' ∧ Chg (fun x => x = bv ∨ V.lm.F x ∨ x = b) w w' ∧ Blk w' w.heap.size zero5 87) := by
    intro w3 fn3 cp3 m3 k3
    have h3 := hLb.keptT k3 (fun x h => by subst h; exact (Rb.mkt hi).typ (.inr (.inl ⟨id, unhide HN⟩)))
    have hr3 := k3.blk hrb (fun h => by omega)
    refine (note1 bv bm bo _ lmb (.now b (V.om b)) fn3 cp3 w3 h3 (by show 0 < V.lg.na + 1; omega) (by show V.lg.na + 1 ≤ 1000000; omega) (by show 0 + 1 < 1000000; omega)).mono ?_
    rintro e w' ⟨rfl, lm', a1, a2, a3⟩
    have kc3 := kkb.trans (k3.mono (fun x h => .inr (.inr h)))
    refine ⟨rfl, m3.keptLog h3 (a3.mono (fun _ h => .inr h)), ⟨lm', a1, fun x hx => ?_⟩, kc3.from (a3.mono (fun x h => (hFb' x h).imp_left (fun h => .inr (.inl h)))), a3.blk hr3 (h3.log.ne hr3 (by decide) (by decide) (by decide))⟩
    rcases a2 x hx with h | h
    · exact hFb' x h
    · exact .inr (Nat.le_trans kc3.size h)
  clear hob hnb Rb hLb hFb kb HBeg hrb hFb' kkb ka hra HW
  go_wp2_with fail
  refine (unhide HAm).mono ?_
  rintro e w3 ⟨fn3, cp3, rfl, -, m3, k3⟩
  go_wp2_with fail
  refine (unhide HNt w3 fn3 cp3 m3 k3).mono ?_
  rintro e w4 ⟨rfl, m4, ac4, kc4, hr4⟩
  have r0 : w4.cell? ⟨w.heap.size, 0, none⟩ = some (.int .i64 0) := hr4.cell 0
  have r1 : w4.cell? ⟨w.heap.size, 1, none⟩ = some (.int .i64 0) := hr4.cell 1
  have r2 : w4.cell? ⟨w.heap.size, 2, none⟩ = some (.int .i64 0) := hr4.cell 2
  have r3 : w4.cell? ⟨w.heap.size, 3, none⟩ = some (.int .i64 0) := hr4.cell 3
  have r4 : w4.cell? ⟨w.heap.size, 4, none⟩ = some (.int .i64 0) := hr4.cell 4
  have q0 := hr4.frozen 0
  have q1 := hr4.frozen 1
  have q2 := hr4.frozen 2
  have q3 := hr4.frozen 3
  have q4 := hr4.frozen 4
  have HM4 := hide m4
  have HA4 := hide ac4
  have HK4 := hide kc4
  clear m3 k3 m4 ac4 kc4 o8 o5
  go_wp2
  have kB : Chg (fun x => x = w.heap.size) w4 (((((w4.setCell ⟨w.heap.size, 0, none⟩ (.int .i64 0)).setCell ⟨w.heap.size, 1, none⟩ (.int .i64 qty)).setCell ⟨w.heap.size, 2, none⟩ (.int .i64 0)).setCell ⟨w.heap.size, 3, none⟩ (.int .i64 0)).setCell ⟨w.heap.size, 4, none⟩ (.int .i64 0)) :=
    (((((Chg.refl (fun x => x = w.heap.size) w4).setCell (p := ⟨w.heap.size, 0, none⟩) (.inl rfl) _).setCell (p := ⟨w.heap.size, 1, none⟩) (.inl rfl) _).setCell (p := ⟨w.heap.size, 2, none⟩) (.inl rfl) _).setCell (p := ⟨w.heap.size, 3, none⟩) (.inl rfl) _).setCell (p := ⟨w.heap.size, 4, none⟩) (.inl rfl) _
  refine bodyPost_ret (res25 _ w.heap.size _ 0 qty 0 0 0 0 rfl rfl ?_) rfl ⟨rfl, ?_, ?_, ?_⟩
  · exact ((((hr4.set 0 _).set 1 _).set 2 _).set 3 _).set 4 _
  · have mA := unhide HM4
    refine mA.kept kB (fun e => ?_) (fun x hx e => ?_) (fun y hy x hx e => ?_)
    · have := ((unhide HR).book i hi).blk.lt; omega
    · obtain ⟨ix', ho'⟩ := mA.ords x hx
      subst e
      exact Blk.ne ho' hr4 (by decide) rfl
    · subst e
      exact (mA.book.side y hy).ne hr4 (by decide) hx
  · obtain ⟨lm', a1, a2⟩ := unhide HA4
    exact ⟨lm', a1.kept kB (by omega) (fun x hx e => a1.log.ne hr4 (by decide) (by decide) (by decide) (by decide) (by decide) (e ▸ hx)), a2⟩
  · exact (unhide HK4).from (kB.mono (fun x h => .inr (by omega)))

end Go.Proofs.YtigaphnafnpfnaaGreatDoor

/- Replace: the order comes anew -/
set_option linter.unusedVariables false
set_option linter.unusedSimpArgs false
namespace Go.Proofs.YtigaphnafnpfnaaGreatDoor
open Go.RowKit Go.Maps
attribute [local go_sem ↓] Go.wp_at_zero Go.wp_at_succ

def AnewPost (bv bm bo i b s t k : Nat) (V : Ven) (lm3 : Lm) (price qty : Int) (w : World) (v : Value) (w' : World) : Prop :=
  ComePost bv (V.bk i) b s t bm bo ⟨(V.B i).leave V.om t k, upd V.om b (repO (V.om b) price qty), V.lg.moved b (V.om b)⟩ lm3 (fun x => ∃ id, V.oid id = some x) w v w'

set_option maxRecDepth 100000 in
set_option maxHeartbeats 4000000 in
theorem replace_anew (bv bm bo b i s t k : Nat) (V : Ven) (id price qty : Int) (w : World) (R : Rep w bv bm bo V) (hT : Tab w) (hid : (Lit.int .i64 id).wf = true) (hn : V.oid id = some b) (h0 : (V.om b).opn ≠ 0) (hp : numB price = true) (hq : numB qty = true) (hi : i < V.nb) (hsym : (V.om b).sym = (V.B i).sym) (hlen : (V.B i).sym.size ≤ maxLen)
    (hs : s < 2) (ht : t = 1 - s) (hk : k < (V.B i).n t) (hkb : (V.B i).h t k = b) (hside : (V.om b).side = (t : Int)) (hnk : ¬ (price = (V.om b).price ∧ qty ≤ (V.om b).opn))
    (iv : Inv b s ⟨(V.B i).leave V.om t k, upd V.om b (repO (V.om b) price qty), V.lg.moved b (V.om b)⟩) (hcn : (V.B i).n t < 1000) (hcs : (V.B i).n s ≤ 250) (hl1 : V.lg.tp.length + 300 < 1000000) (hl2 : V.lg.tr.length + 300 < 1000000) (hna : V.lg.na < 1000000) :
    Calls Tryz.prog 38 #[.pointer (some ⟨bv, 0, none⟩), .int .i64 id, .int .i64 price, .int .i64 qty] w fun e w' => ∃ v w3 lm3, e = .returned (.tuple #[v, .int .i64 0]) ∧ Chg (fun x => x = bv ∨ V.lm.F x ∨ x = V.bk i ∨ x = b ∨ SdB (V.B i) t x) w w3 ∧ (∀ x, lm3.F x → V.lm.F x ∨ w.heap.size ≤ x) ∧ ∃ w4, AnewPost bv bm bo i b s t k V lm3 price qty w3 v w4 ∧ Blk w4 w.heap.size zero5 87 ∧ Chg (fun x => x = w.heap.size) w4 w' := by
  have t2 : t < 2 := by omega
  obtain ⟨wa, hwa⟩ : ∃ wa, wa = w.alloc (.cells zero5 87) := ⟨_, rfl⟩
  have ka : Chg Non w wa := by rw [hwa]; exact (Chg.refl Non w).alloc _
  have hra : Blk wa w.heap.size zero5 87 := by rw [hwa]; exact Blk.new w _ _
  have L2 := (R.kept0 ka).lookO hid
  rw [hn] at L2
  simp only [ptrO] at L2
  rw [hwa] at L2
  simp only [zero5] at L2
  obtain ⟨-, ix, ho⟩ := R.ords id b hn
  have o8 : w.cell? ⟨b, 8, none⟩ = some (.int .i64 (V.om b).opn) := ho.cell 8
  have v1 : w.cell? ⟨bv, 1, none⟩ = some (.map (some bo)) := R.ven.cell 1
  have lv := R.ven.lt
  have lo := ho.lt
  have lb := (R.book i hi).blk.lt
  have e0 : ((V.om b).opn == 0) = false := by simp [h0]
  have hinj : Inj ((V.B i).n t) ((V.B i).h t) := ((R.book i hi).side t t2).inj
  have hnew : ∀ x, x < 2 → ∀ l, l < ((V.B i).leave V.om t k).n x → ((V.B i).leave V.om t k).h x l ≠ b := by
    intro x hx l hl
    by_cases e : x = t
    · subst e
      obtain ⟨k', _, e', hne⟩ := leave_memk (om := V.om) hinj hk l hl
      rw [e', ← hkb]; exact hne
    · simp only [Bk.leave, upd_other _ _ e] at hl ⊢
      rw [← hkb]
      have hd := (R.book i hi).disj
      have : (x = 0 ∧ t = 1) ∨ (x = 1 ∧ t = 0) := by omega
      rcases this with ⟨rfl, rfl⟩ | ⟨rfl, rfl⟩
      · exact hd l k hl hk
      · exact fun e => hd k l hk hl e.symm
  have hmu : mu b s ⟨(V.B i).leave V.om t k, upd V.om b (repO (V.om b) price qty), V.lg.moved b (V.om b)⟩ ≤ 251 := by
    unfold mu
    simp only [Bk.leave]
    rw [upd_other _ _ (by omega)]
    split <;> omega
  have HCome : Hid (∀ W lm3, Mk W (V.bk i) ((V.B i).leave V.om t k) (upd V.om b (repO (V.om b) price qty)) (fun x => ∃ id, V.oid id = some x) → IsLog W bv bm bo (V.lg.moved b (V.om b)) lm3 → Calls Tryz.prog 70 #[.pointer (some ⟨bv, 0, none⟩), .pointer (some ⟨V.bk i, 0, none⟩), .pointer (some ⟨b, 0, none⟩)] W fun e w' => ∃ v, e = .returned v ∧ AnewPost bv bm bo i b s t k V lm3 price qty W v w') := by
    intro W lm3 m hl
    refine come_any bv (V.bk i) b s t bm bo ⟨(V.B i).leave V.om t k, upd V.om b (repO (V.om b) price qty), V.lg.moved b (V.om b)⟩ lm3 _ W hl m hs ht ⟨id, hn⟩ iv (fun x hx l hl => hnew x hx l hl) (by simp only [Bk.leave, upd_same]; omega) 999999 (by omega) ?_ ?_ ?_ ?_ ?_
    · simp only [Lg.moved, Lg.begun, Lg.noted] at hmu ⊢; omega
    · simp only [Lg.moved, Lg.begun, Lg.noted] at hmu ⊢; omega
    · show 0 < V.lg.na + 1; omega
    · show V.lg.na + 1 ≤ 1000000; omega
    · simp only [Lg.moved, Lg.begun, Lg.noted, List.nil_append, List.length_cons, List.length_nil] at hmu ⊢; omega
  have HW : Hid (wa = w.alloc (.cells #[.int .i64 0, .int .i64 0, .int .i64 0, .int .i64 0, .int .i64 0] 87)) := hwa
  have hLs := lines_from ⟨#[114, 101, 112, 108, 97, 99, 101]⟩ (three id price qty) 3 wa (hT.kept0 ka) (by decide) (by decide) (by omega) (fun i hi => by
    match i, hi with
    | 0, _ => exact bounds_i64 hid
    | 1, _ => exact i64_of (by simp [numB] at hp; show -1000000 ≤ price ∧ price ≤ 1000000; omega)
    | 2, _ => exact i64_of (by simp [numB] at hq; show -1000000 ≤ qty ∧ qty ≤ 1000000; omega))
  generalize lineF (three id price qty) ⟨#[114, 101, 112, 108, 97, 99, 101]⟩ 3 = ln at hLs
  have HBeg := hide (begin_from bv bm bo V.lg V.lm ln wa (R.kept0 ka).log hna hLs.1.1 hLs.1.2)
  have HLs := hide hLs.2
  have hsz : wa.heap.size = w.heap.size + 1 := by rw [hwa]; simp
  have HCl : Hid (∀ i, i < 3 → (wa.alloc (.cells #[.int .i64 id, .int .i64 price, .int .i64 qty] 3)).cell? ⟨w.heap.size + 1, i, none⟩ = some (.int .i64 (three id price qty i))) := by
    intro i hi
    rw [← hsz]
    match i, hi with
    | 0, _ => exact (Blk.new wa _ _).cell 0
    | 1, _ => exact (Blk.new wa _ _).cell 1
    | 2, _ => exact (Blk.new wa _ _).cell 2
  clear hLs hsz
  have HR := hide R
  have HKB := hide hkb
  have hkp : ((price == (V.om b).price) && decide (qty ≤ (V.om b).opn)) = false := by
    cases h1 : (price == (V.om b).price)
    · rfl
    · have : price = (V.om b).price := by simpa using h1
      have : ¬ qty ≤ (V.om b).opn := fun h => hnk ⟨this, h⟩
      simp [this]
  have HKP := hide hkp
  have HN := hide hn
  have HSym := hide hsym
  have HSd := hide hside
  clear R hn ho h0 hsym hkb hside hnk iv hnew hinj hkp hwa hmu
  go_enter Tryz.func38, Tryz.ntmps38
  go_wp2_with (first | (go_at_call 68; refine (isNumber_any _ _).mono ?_; rintro e w' ⟨rfl, rfl⟩) | fail)
  rw [← unhide HW]
  refine (unhide HLs _ ((Chg.refl Non wa).alloc _) _ _ (unhide HCl)).mono ?_
  rintro e wl ⟨rfl, kl⟩
  have HKl := hide kl
  clear kl
  go_wp2_with fail
  refine (unhide HBeg _ (unhide HKl)).mono ?_
  rintro e wb ⟨rfl, lmb, hLb, hFb, kb, -, -⟩
  clear HLs HKl HCl
  clear L2 o8 v1
  have Rb := ((unhide HR).kept0 ka).turnLog hLb kb
  have hnb : ({ V with lg := V.lg.begun, lm := lmb } : Ven).oid id = some b := unhide HN
  obtain ⟨-, ixb, hob⟩ := Rb.ords id b hnb
  have o8 : wb.cell? ⟨b, 8, none⟩ = some (.int .i64 (V.om b).opn) := Blk.cell hob 8
  have o5 : wb.cell? ⟨b, 5, none⟩ = some (.int .i64 (V.om b).price) := Blk.cell hob 5
  have o2 : wb.cell? ⟨b, 2, none⟩ = some (.string (V.B i).sym) := by rw [← unhide HSym]; exact Blk.cell hob 2
  have v0 : wb.cell? ⟨bv, 0, none⟩ = some (.map (some bm)) := Rb.ven.cell 0
  have L1 : ∀ q, (Instr.lookup 94 (.map (some bm)) (.string (V.B i).sym) false).run Tryz.prog (wb.drewN q) = .ok (.pointer (some ⟨V.bk i, 0, none⟩)) (wb.drewN q) := fun q => Rb.lookBq hi hlen q
  have outF : ∀ x, w.heap.size ≤ x → ¬ (x = bv ∨ V.lm.F x) := by
    rintro x hx (e | e)
    · omega
    · have := (unhide HR).log.log.lt e; omega
  have hrb := kb.blk hra (outF _ (Nat.le_refl _))
  have hFb' : ∀ x, lmb.F x → V.lm.F x ∨ w.heap.size ≤ x := fun x h => (hFb x h).imp_right (fun h => Nat.le_trans ka.size h)
  have kkb : Chg (fun x => x = bv ∨ V.lm.F x) w wb := ka.of_non.trans kb
  have HLe := hide (fun q => leave_mk (V.bk i) (V.B i) V.om (fun x => ∃ id, V.oid id = some x) t k (wb.drewN q) ((Rb.kept0 ((Chg.refl Non wb).drewN q)).mkt hi) t2 hk (by rw [unhide HKB]; exact unhide HSd))
  rw [unhide HKB] at HLe
  have HAm := hide (fun (W : World) (m : Mk W (V.bk i) ((V.B i).leave V.om t k) V.om (fun x => ∃ id, V.oid id = some x)) => amend_mk (V.bk i) b ((V.B i).leave V.om t k) V.om _ price qty W m ⟨id, unhide HN⟩)
  have HNt : Hid (∀ q w2 w3 fn2 cp2 fn3 cp3, Mk w2 (V.bk i) ((V.B i).leave V.om t k) V.om (fun x => ∃ id, V.oid id = some x) → Chg (fun x => x = V.bk i ∨ SdB (V.B i) t x) (wb.drewN q) w2 → Mk w3 (V.bk i) ((V.B i).leave V.om t k) (upd V.om b (repO (V.om b) price qty)) (fun x => ∃ id, V.oid id = some x) → Chg (fun x => x = b) w2 w3 →
      Calls Tryz.prog 53 #[.pointer (some ⟨bv, 0, none⟩), .slice (some ⟨w3.heap.size, 0, none⟩) 2 2] (w3.alloc (.cells #[.func fn2 #[] cp2, .func fn3 #[] cp3] 1)) fun e w' => e = .returned (.tuple #[]) ∧
        Mk w' (V.bk i) ((V.B i).leave V.om t k) (upd V.om b (repO (V.om b) price qty)) (fun x => ∃ id, V.oid id = some x) ∧ ∃ lm3, IsLog w' bv bm bo (V.lg.moved b (V.om b)) lm3 ∧ (∀ x, lm3.F x → V.lm.F x ∨ w.heap.size ≤ x) ∧ Chg (fun x => x = bv ∨ V.lm.F x ∨ x = V.bk i ∨ x = b ∨ SdB (V.B i) t x) w w' ∧ Blk w' w.heap.size zero5 87) := by
    intro q w2 w3 fn2 cp2 fn3 cp3 m2 k2 m3 k3
    have h2 := (hLb.kept0 ((Chg.refl Non wb).drewN q)).keptT k2 (fun x h => ((Rb.kept0 ((Chg.refl Non wb).drewN q)).mkt hi).typ (by
      rcases h with h | h
      · exact .inl h
      · exact .inr (.inr ⟨t, t2, h⟩)))
    have h3 := h2.keptT k3 (fun x h => by subst h; exact m2.typ (.inr (.inl ⟨id, unhide HN⟩)))
    have hr2 := k2.blk (hrb.drewN q) (by
      rintro (h | h)
      · omega
      · have := ((unhide HR).mkt hi).sd_lt t2 h; omega)
    have hr3 := k3.blk hr2 (fun h => by omega)
    refine (note2 bv bm bo _ lmb (.left b) (.now b (V.om b)) fn2 fn3 cp2 cp3 w3 h3 (by show 0 < V.lg.na + 1; omega) (by show V.lg.na + 1 ≤ 1000000; omega) (by show 0 + 2 < 1000000; omega)).mono ?_
    rintro e w' ⟨rfl, lm', a1, a2, a3⟩
    have kc3 : Chg (fun x => x = bv ∨ V.lm.F x ∨ x = V.bk i ∨ x = b ∨ SdB (V.B i) t x) w w3 := ((kkb.mono (fun x h => h.imp_right .inl)).drewN q).trans ((k2.mono (fun x h => by rcases h with h | h; exact .inr (.inr (.inl h)); exact .inr (.inr (.inr (.inr h))))).trans (k3.mono (fun x h => .inr (.inr (.inr (.inl h))))))
    refine ⟨rfl, m3.keptLog h3 (a3.mono (fun _ h => .inr h)), lm', a1, fun x hx => ?_, kc3.from (a3.mono (fun x h => (hFb' x h).imp_left (fun h => .inr (.inl h)))), a3.blk hr3 (h3.log.ne hr3 (by decide) (by decide) (by decide))⟩
    rcases a2 x hx with h | h
    · exact hFb' x h
    · exact .inr (Nat.le_trans kc3.size h)
  clear hob hnb Rb hLb hFb kb HBeg HSym HSd outF hrb hFb' kkb ka hra HW
  have e1 : (price == (V.om b).price) = false ∨ ((price == (V.om b).price) = true ∧ decide (qty ≤ (V.om b).opn) = false) := by
    have := unhide HKP
    cases h1 : (price == (V.om b).price)
    · exact .inl rfl
    · rw [h1] at this; exact .inr ⟨rfl, by simpa using this⟩
  rcases e1 with e1 | ⟨e1, e2⟩
  all_goals
    go_wp2
    go_quiet (fail)
    go_wp2_with fail
    refine (unhide HLe _).mono ?_
    rintro e w2 ⟨fn2, cp2, rfl, -, m2, k2⟩
    go_wp2_with fail
    refine (unhide HAm w2 m2).mono ?_
    rintro e w3 ⟨fn3, cp3, rfl, -, m3, k3⟩
    go_wp2_with fail
    refine (unhide HNt _ w2 w3 fn2 cp2 fn3 cp3 m2 k2 m3 k3).mono ?_
    rintro e w4 ⟨rfl, m4, lm3, hl4, hf4, kc4, hr4⟩
    have HC4 := hide (unhide HCome w4 lm3 m4 hl4)
    have HM4 := hide m4
    have HL4 := hide hl4
    have HR4 := hide hr4
    clear m2 k2 m3 k3 m4 hl4 hr4
    go_wp2_with fail
    refine (unhide HC4).mono ?_
    rintro e w5 ⟨v, rfl, hp5⟩
    obtain ⟨f, r, c, a, n, hrep⟩ := rep_form ((⟨(V.B i).leave V.om t k, upd V.om b (repO (V.om b) price qty), V.lg.moved b (V.om b)⟩ : MS).om b) (comeOm b (mF b s ⟨(V.B i).leave V.om t k, upd V.om b (repO (V.om b) price qty), V.lg.moved b (V.om b)⟩) b) (MS.tr ⟨(V.B i).leave V.om t k, upd V.om b (repO (V.om b) price qty), V.lg.moved b (V.om b)⟩) (mF b s ⟨(V.B i).leave V.om t k, upd V.om b (repO (V.om b) price qty), V.lg.moved b (V.om b)⟩).tr
    have hv5 : v = .agg #[.int .i64 f, .int .i64 r, .int .i64 c, .int .i64 a, .int .i64 n] := by rw [hp5.1]; exact hrep
    have hr5 : Blk w5 w.heap.size zero5 87 := by
      obtain ⟨_, g, cap', lm', _, _, _, k5, _⟩ := hp5
      refine k5.blk (unhide HR4) ?_
      have hbt := unhide HR4
      rintro (h | h | h | h | h | h)
      · omega
      · exact (unhide HL4).log.ne hbt (by decide) (by decide) (by decide) (by decide) (by decide) h
      · omega
      · omega
      · rcases h with h | ⟨l, hl, h⟩
        · exact ((unhide HM4).book.side s hs).ne hbt (by decide) h
        · exact Blk.ne hbt (((unhide HM4).book.side s hs).ords hl) (by decide) h
      · rcases h with h | ⟨l, hl, h⟩
        · exact ((unhide HM4).book.side t t2).ne hbt (by decide) h
        · exact Blk.ne hbt (((unhide HM4).book.side t t2).ords hl) (by decide) h
    have HP := hide hp5
    clear hp5 hrep
    rw [hv5] at HP
    rw [hv5]
    have r0 : w5.cell? ⟨w.heap.size, 0, none⟩ = some (.int .i64 0) := hr5.cell 0
    have r1 : w5.cell? ⟨w.heap.size, 1, none⟩ = some (.int .i64 0) := hr5.cell 1
    have r2 : w5.cell? ⟨w.heap.size, 2, none⟩ = some (.int .i64 0) := hr5.cell 2
    have r3 : w5.cell? ⟨w.heap.size, 3, none⟩ = some (.int .i64 0) := hr5.cell 3
    have r4 : w5.cell? ⟨w.heap.size, 4, none⟩ = some (.int .i64 0) := hr5.cell 4
    have q0 := hr5.frozen 0
    have q1 := hr5.frozen 1
    have q2 := hr5.frozen 2
    have q3 := hr5.frozen 3
    have q4 := hr5.frozen 4
    clear hv5
    go_wp2
    refine bodyPost_ret (res25 _ w.heap.size _ f r c a n 0 rfl rfl ?_) rfl ⟨_, w4, lm3, rfl, kc4, hf4, w5, unhide HP, hr5, ?_⟩
    · exact ((((hr5.set 0 _).set 1 _).set 2 _).set 3 _).set 4 _
    · exact (((((Chg.refl (fun x => x = w.heap.size) w5).setCell (p := ⟨w.heap.size, 0, none⟩) (.inl rfl) _).setCell (p := ⟨w.heap.size, 1, none⟩) (.inl rfl) _).setCell (p := ⟨w.heap.size, 2, none⟩) (.inl rfl) _).setCell (p := ⟨w.heap.size, 3, none⟩) (.inl rfl) _).setCell (p := ⟨w.heap.size, 4, none⟩) (.inl rfl) _

end Go.Proofs.YtigaphnafnpfnaaGreatDoor

