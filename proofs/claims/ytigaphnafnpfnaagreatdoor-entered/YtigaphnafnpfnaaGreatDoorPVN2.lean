import Derived.Test.YtigaphnafnpfnaaGreatDoorPVY3
import Derived.Test.YtigaphnafnpfnaaGreatDoorPVE16
import Derived.Test.YtigaphnafnpfnaaGreatDoorPVT2
set_option linter.unusedVariables false
set_option linter.unusedSimpArgs false
namespace Go.Proofs.YtigaphnafnpfnaaGreatDoor
open Go.RowKit
attribute [local go_sem ↓] Go.wp_at_zero Go.wp_at_succ

theorem isLetter_any (c : Nat) (w : World) : Calls Tryz.prog 85 #[.int .i32 (c : Int)] w fun e w' => e = .returned (.bool (upB c)) ∧ w' = w := by
  have hcs : (65 ≤ c ∧ c ≤ 90 ∧ upB c = true) ∨ (¬ (65 ≤ c ∧ c ≤ 90) ∧ ((48 ≤ c ∧ c ≤ 57 ∧ upB c = true) ∨ (¬ (48 ≤ c ∧ c ≤ 57) ∧ ((c = 930 ∧ upB c = false) ∨ (c ≠ 930 ∧ ((913 ≤ c ∧ c ≤ 937 ∧ upB c = true) ∨ (¬ (913 ≤ c ∧ c ≤ 937) ∧ upB c = false))))))) := by
    by_cases h1 : 65 ≤ c ∧ c ≤ 90
    · left; exact ⟨h1.1, h1.2, by simp [upB, h1]⟩
    · right; refine ⟨h1, ?_⟩
      by_cases h2 : 48 ≤ c ∧ c ≤ 57
      · left; exact ⟨h2.1, h2.2, by simp [upB, h2]⟩
      · right; refine ⟨h2, ?_⟩
        by_cases h3 : c = 930
        · left; exact ⟨h3, by subst h3; decide⟩
        · right; refine ⟨h3, ?_⟩
          by_cases h4 : 913 ≤ c ∧ c ≤ 937
          · left; exact ⟨h4.1, h4.2, by simp [upB, h4, h3]⟩
          · right; refine ⟨h4, ?_⟩
            simp only [upB, Bool.or_eq_false_iff, Bool.and_eq_false_iff, decide_eq_false_iff_not, Bool.not_eq_false', beq_iff_eq]
            omega
  obtain ⟨b, hb⟩ : ∃ b, upB c = b := ⟨_, rfl⟩
  rw [hb] at hcs ⊢
  clear hb
  have d : ∀ k : Nat, decide ((k : Int) ≤ (c : Int)) = decide (k ≤ c) := fun k => by simp
  rcases hcs with ⟨a1, a2, rfl⟩ | ⟨a1, ⟨a2, a3, rfl⟩ | ⟨a2, ⟨a3, rfl⟩ | ⟨a3, ⟨a4, a5, rfl⟩ | ⟨a4, rfl⟩⟩⟩⟩
  · go_enter Tryz.func85, Tryz.ntmps85
    go_wp2
    go_ret
    exact ⟨rfl, rfl⟩
  · by_cases h65 : 65 ≤ c
    · exfalso; omega
    · go_enter Tryz.func85, Tryz.ntmps85
      go_wp2
      go_ret
      exact ⟨rfl, rfl⟩
  · subst a3
    go_enter Tryz.func85, Tryz.ntmps85
    go_wp2
    go_ret
    exact ⟨rfl, rfl⟩
  · have e : ((c : Int) == 930) = false := by simp; omega
    go_enter Tryz.func85, Tryz.ntmps85
    go_wp2
    go_ret
    refine ⟨?_, rfl⟩
    first | rfl | (simp; omega)
  · have e : ((c : Int) == 930) = false := by simp; omega
    have hc3 : (c < 48) ∨ (57 < c ∧ c < 65) ∨ (90 < c ∧ c < 913) ∨ 937 < c := by omega
    clear a1 a2 a4
    rcases hc3 with h | ⟨h, h'⟩ | ⟨h, h'⟩ | h
    all_goals
      go_enter Tryz.func85, Tryz.ntmps85
      go_wp2
      go_ret
      refine ⟨?_, rfl⟩
      first | rfl | (simp; omega)

theorem decode_bound (s : ByteArray) (i : Nat) : (Utf8.decode s i).1 ≤ 1114111 ∧ 1 ≤ (Utf8.decode s i).2 := by
  unfold Utf8.decode
  simp only
  have hv : ∀ r : Nat, Utf8.valid (r : Int) = true → r ≤ 1114111 := fun r h => by simp [Utf8.valid] at h; omega
  split
  · rename_i h
    exact ⟨Nat.le_trans (Nat.le_of_lt h) (by decide), Nat.le_refl _⟩
  · split
    · split
      · exact ⟨by simp; omega, by simp⟩
      · exact ⟨by decide, by simp⟩
    · split
      · split
        · rename_i h; simp at h; exact ⟨hv _ (by simpa using h.2), by simp⟩
        · exact ⟨by decide, by simp⟩
      · split
        · split
          · rename_i h; simp at h; exact ⟨hv _ (by simpa using h.2), by simp⟩
          · exact ⟨by decide, by simp⟩
        · exact ⟨by decide, by simp⟩

set_option maxHeartbeats 1000000 in
theorem isName_any (s : ByteArray) (hs : s.size ≤ 1000000000) : NameSays s (nameB s) := by
  intro w
  have HL : Hid (∀ (c : Nat) W, Calls Tryz.prog 85 #[.int .i32 (c : Int)] W fun e w' => e = .returned (.bool (upB c)) ∧ w' = W) := isLetter_any
  have HE : Hid (∀ pos, ¬ pos < s.size → ∀ ty, (Instr.next (.pointer (some ⟨w.heap.size, 0, none⟩)) true ty).run Tryz.prog (w.iter s pos) = .ok (.tuple #[.bool false]) (w.iter s pos)) := fun pos h ty => run_next_end w s pos ty h
  have HD : Hid (∀ pos c n, pos < s.size → Utf8.decode s pos = (c, n) → ∀ ty, (Instr.next (.pointer (some ⟨w.heap.size, 0, none⟩)) true ty).run Tryz.prog (w.iter s pos) = .ok (.tuple #[.bool true, .int .i64 pos, .int .i32 c]) (w.iter s (pos + n))) := fun pos c n h hd ty => run_next_dec w s pos c n ty h hd
  have HK : Hid (∀ pos, Chg Non w (w.iter s pos)) := fun pos => (Chg.refl Non w).alloc _
  go_enter Tryz.func50, Tryz.ntmps50
  go_wp2
  go_loopg [3] (s.size + 1) (fun q nv wr => ∃ pos n : Nat, nv = .int .i64 (n : Int) ∧ wr = w.iter s pos ∧ nameF s q pos n = nameB s ∧ s.size < pos + q ∧ n ≤ 6 ∧ pos ≤ s.size)
  case atStart => exact ⟨0, 0, rfl, rfl, rfl, by omega, by omega, by omega⟩
  case round =>
    obtain ⟨pos, n, rfl, rfl, hF, hq, hn6, hps⟩ := hrel
    by_cases hp : pos < s.size
    · obtain ⟨q, rfl⟩ : ∃ q, gk = q + 1 := ⟨gk - 1, by omega⟩
      have hdb := decode_bound s pos
      obtain ⟨⟨c, k⟩, hd⟩ : ∃ x, Utf8.decode s pos = x := ⟨_, rfl⟩
      have n0 := unhide HD pos c k hp hd
      rw [hd] at hdb
      simp only at hdb
      have hF2 : nameF s (q + 1) pos n = (if upB (nxt s pos).1 then nameF s q (pos + (nxt s pos).2) (n + 1) else false) := by
        conv => lhs; unfold nameF
        rw [if_pos hp]
      by_cases h6 : n = 6
      · have hR : nameB s = false := by
          rw [← hF, hF2]
          split
          · exact nameF_long _ _ _ _ (by omega)
          · rfl
        have HR := hide hR
        subst h6
        clear hF hF2 hR hd
        go_wp2
        go_ret
        exact ⟨by rw [unhide HR]; rfl, unhide HK _⟩
      · cases hu : upB (nxt s pos).1
        · have hc : upB c = false := by have := dec_not hp hu; rw [hd] at this; exact this
          have hR : nameB s = false := by rw [← hF, hF2, hu]; rfl
          have HR := hide hR
          have HC := hide (unhide HL c)
          rw [hc] at HC
          clear hF hF2 hR hd hc hu
          go_wp2_with fail
          refine (unhide HC _).mono ?_
          rintro e w' ⟨rfl, rfl⟩
          go_wp2
          go_ret
          exact ⟨by rw [unhide HR]; rfl, unhide HK _⟩
        · have he := dec_up hp hu
          rw [hd] at he
          have hc : upB c = true := by rw [← he] at hu; exact hu
          have hpk : pos + k ≤ s.size := by have := (nxt_pos s pos).2.2.1 hp; rw [← he] at this; exact this
          have hR : nameF s q (pos + k) (n + 1) = nameB s := by rw [← hF, hF2, hu, ← he]; rfl
          have HR := hide hR
          have HC := hide (unhide HL c)
          rw [hc] at HC
          clear hF hF2 hR hd hc hu he
          go_wp2_with fail
          refine (unhide HC _).mono ?_
          rintro e w' ⟨rfl, rfl⟩
          go_wp2
          go_roundg q
          case measure => omega
          case rel => exact ⟨pos + k, n + 1, by push_cast; rfl, rfl, unhide HR, by omega, by omega, hpk⟩
    · have n0 := unhide HE pos hp
      obtain ⟨q, rfl⟩ : ∃ q, gk = q + 1 := by
        cases gk with
        | zero => exfalso; omega
        | succ q => exact ⟨q, rfl⟩
      have hR : nameB s = decide (0 < n) := by
        rw [← hF]
        unfold nameF
        rw [if_neg hp]
        have : decide (n ≤ 6) = true := by simpa using hn6
        rw [this, Bool.and_true]
        rfl
      have HR := hide hR
      clear hF hR
      go_wp2
      go_ret
      exact ⟨by rw [unhide HR]; simp, unhide HK _⟩

end Go.Proofs.YtigaphnafnpfnaaGreatDoor

/- Replace: the order comes anew -/
set_option linter.unusedVariables false
set_option linter.unusedSimpArgs false
namespace Go.Proofs.YtigaphnafnpfnaaGreatDoor
open Go.RowKit Go.Maps
attribute [local go_sem ↓] Go.wp_at_zero Go.wp_at_succ

def AnewPost (bv bm bo i b s t k : Nat) (V : Ven) (lm3 : Lm) (price qty : Int) (w : World) (v : Value) (w' : World) : Prop :=
  ComePost bv (V.bk i) b s t bm bo ⟨(V.B i).leave V.om t k, upd V.om b (repO (V.om b) price qty), V.lg.moved b (V.om b)⟩ lm3 (fun x => ∃ id, V.oid id = some x) w v w'

set_option maxRecDepth 100000 in
set_option maxHeartbeats 4000000 in
theorem replace_anew (bv bm bo b i s t k : Nat) (V : Ven) (id price qty : Int) (w : World) (R : Rep w bv bm bo V) (hT : Tab w) (hid : (Lit.int .i64 id).wf = true) (hn : V.oid id = some b) (h0 : (V.om b).opn ≠ 0) (hp : numB price = true) (hq : numB qty = true) (hi : i < V.nb) (hsym : (V.om b).sym = (V.B i).sym) (hlen : (V.B i).sym.size ≤ maxLen)
    (hs : s < 2) (ht : t = 1 - s) (hk : k < (V.B i).n t) (hkb : (V.B i).h t k = b) (hside : (V.om b).side = (t : Int)) (hnk : ¬ (price = (V.om b).price ∧ qty ≤ (V.om b).opn))
    (iv : Inv b s ⟨(V.B i).leave V.om t k, upd V.om b (repO (V.om b) price qty), V.lg.moved b (V.om b)⟩) (hcn : (V.B i).n t < 1000) (hcs : (V.B i).n s ≤ 250) (hl1 : V.lg.tp.length + 300 < 1000000000) (hl2 : V.lg.tr.length + 300 < 1000000000) (hna : V.lg.na < 3000000) :
    Calls Tryz.prog 38 #[.pointer (some ⟨bv, 0, none⟩), .int .i64 id, .int .i64 price, .int .i64 qty] w fun e w' => ∃ v w3 lm3, e = .returned (.tuple #[v, .int .i64 0]) ∧ Chg (fun x => x = bv ∨ V.lm.F x ∨ x = V.bk i ∨ x = b ∨ SdB (V.B i) t x) w w3 ∧ (∀ x, lm3.F x → V.lm.F x ∨ w.heap.size ≤ x) ∧ ∃ w4, AnewPost bv bm bo i b s t k V lm3 price qty w3 v w4 ∧ Blk w4 w.heap.size zero5 87 ∧ Chg (fun x => x = w.heap.size) w4 w' := by
  have t2 : t < 2 := by omega
  obtain ⟨wa, hwa⟩ : ∃ wa, wa = w.alloc (.cells zero5 87) := ⟨_, rfl⟩
  have ka : Chg Non w wa := by rw [hwa]; exact (Chg.refl Non w).alloc _
  have hra : Blk wa w.heap.size zero5 87 := by rw [hwa]; exact Blk.new w _ _
  have L2 := (R.kept0 ka).lookO hid
  rw [hn] at L2
  simp only [ptrO] at L2
  rw [hwa] at L2
  simp only [zero5] at L2
  obtain ⟨-, ix, ho⟩ := R.ords id b hn
  have o8 : w.cell? ⟨b, 8, none⟩ = some (.int .i64 (V.om b).opn) := ho.cell 8
  have v1 : w.cell? ⟨bv, 1, none⟩ = some (.map (some bo)) := R.ven.cell 1
  have lv := R.ven.lt
  have lo := ho.lt
  have lb := (R.book i hi).blk.lt
  have e0 : ((V.om b).opn == 0) = false := by simp [h0]
  have hinj : Inj ((V.B i).n t) ((V.B i).h t) := ((R.book i hi).side t t2).inj
  have hnew : ∀ x, x < 2 → ∀ l, l < ((V.B i).leave V.om t k).n x → ((V.B i).leave V.om t k).h x l ≠ b := by
    intro x hx l hl
    by_cases e : x = t
    · subst e
      obtain ⟨k', _, e', hne⟩ := leave_memk (om := V.om) hinj hk l hl
      rw [e', ← hkb]; exact hne
    · simp only [Bk.leave, upd_other _ _ e] at hl ⊢
      rw [← hkb]
      have hd := (R.book i hi).disj
      have : (x = 0 ∧ t = 1) ∨ (x = 1 ∧ t = 0) := by omega
      rcases this with ⟨rfl, rfl⟩ | ⟨rfl, rfl⟩
      · exact hd l k hl hk
      · exact fun e => hd k l hk hl e.symm
  have hmu : mu b s ⟨(V.B i).leave V.om t k, upd V.om b (repO (V.om b) price qty), V.lg.moved b (V.om b)⟩ ≤ 251 := by
    unfold mu
    simp only [Bk.leave]
    rw [upd_other _ _ (by omega)]
    split <;> omega
  have HCome : Hid (∀ W lm3, Mk W (V.bk i) ((V.B i).leave V.om t k) (upd V.om b (repO (V.om b) price qty)) (fun x => ∃ id, V.oid id = some x) → IsLog W bv bm bo (V.lg.moved b (V.om b)) lm3 → Calls Tryz.prog 70 #[.pointer (some ⟨bv, 0, none⟩), .pointer (some ⟨V.bk i, 0, none⟩), .pointer (some ⟨b, 0, none⟩)] W fun e w' => ∃ v, e = .returned v ∧ AnewPost bv bm bo i b s t k V lm3 price qty W v w') := by
    intro W lm3 m hl
    refine come_any bv (V.bk i) b s t bm bo ⟨(V.B i).leave V.om t k, upd V.om b (repO (V.om b) price qty), V.lg.moved b (V.om b)⟩ lm3 _ W hl m hs ht ⟨id, hn⟩ iv (fun x hx l hl => hnew x hx l hl) (by simp only [Bk.leave, upd_same]; omega) 999999999 (by omega) ?_ ?_ ?_ ?_ ?_
    · simp only [Lg.moved, Lg.begun, Lg.noted] at hmu ⊢; omega
    · simp only [Lg.moved, Lg.begun, Lg.noted] at hmu ⊢; omega
    · show 0 < V.lg.na + 1; omega
    · show V.lg.na + 1 ≤ 3000000; omega
    · simp only [Lg.moved, Lg.begun, Lg.noted, List.nil_append, List.length_cons, List.length_nil] at hmu ⊢; omega
  have HW : Hid (wa = w.alloc (.cells #[.int .i64 0, .int .i64 0, .int .i64 0, .int .i64 0, .int .i64 0] 87)) := hwa
  have hLs := lines_from ⟨#[114, 101, 112, 108, 97, 99, 101]⟩ (three id price qty) 3 wa (hT.kept0 ka) (by decide) (by decide) (by omega) (fun i hi => by
    match i, hi with
    | 0, _ => exact bounds_i64 hid
    | 1, _ => exact i64_of (by simp [numB] at hp; show -1000000 ≤ price ∧ price ≤ 1000000; omega)
    | 2, _ => exact i64_of (by simp [numB] at hq; show -1000000 ≤ qty ∧ qty ≤ 1000000; omega))
  generalize lineF (three id price qty) ⟨#[114, 101, 112, 108, 97, 99, 101]⟩ 3 = ln at hLs
  have HBeg := hide (begin_from bv bm bo V.lg V.lm ln wa (R.kept0 ka).log hna hLs.1.1 hLs.1.2)
  have HLs := hide hLs.2
  have hsz : wa.heap.size = w.heap.size + 1 := by rw [hwa]; simp
  have HCl : Hid (∀ i, i < 3 → (wa.alloc (.cells #[.int .i64 id, .int .i64 price, .int .i64 qty] 3)).cell? ⟨w.heap.size + 1, i, none⟩ = some (.int .i64 (three id price qty i))) := by
    intro i hi
    rw [← hsz]
    match i, hi with
    | 0, _ => exact (Blk.new wa _ _).cell 0
    | 1, _ => exact (Blk.new wa _ _).cell 1
    | 2, _ => exact (Blk.new wa _ _).cell 2
  clear hLs hsz
  have HR := hide R
  have HKB := hide hkb
  have hkp : ((price == (V.om b).price) && decide (qty ≤ (V.om b).opn)) = false := by
    cases h1 : (price == (V.om b).price)
    · rfl
    · have : price = (V.om b).price := by simpa using h1
      have : ¬ qty ≤ (V.om b).opn := fun h => hnk ⟨this, h⟩
      simp [this]
  have HKP := hide hkp
  have HN := hide hn
  have HSym := hide hsym
  have HSd := hide hside
  clear R hn ho h0 hsym hkb hside hnk iv hnew hinj hkp hwa hmu
  go_enter Tryz.func38, Tryz.ntmps38
  go_wp2_with (first | (go_at_call 68; refine (isNumber_any _ _).mono ?_; rintro e w' ⟨rfl, rfl⟩) | fail)
  rw [← unhide HW]
  refine (unhide HLs _ ((Chg.refl Non wa).alloc _) _ _ (unhide HCl)).mono ?_
  rintro e wl ⟨rfl, kl⟩
  have HKl := hide kl
  clear kl
  go_wp2_with fail
  refine (unhide HBeg _ (unhide HKl)).mono ?_
  rintro e wb ⟨rfl, lmb, hLb, hFb, kb, -, -⟩
  clear HLs HKl HCl
  clear L2 o8 v1
  have Rb := ((unhide HR).kept0 ka).turnLog hLb kb
  have hnb : ({ V with lg := V.lg.begun, lm := lmb } : Ven).oid id = some b := unhide HN
  obtain ⟨-, ixb, hob⟩ := Rb.ords id b hnb
  have o8 : wb.cell? ⟨b, 8, none⟩ = some (.int .i64 (V.om b).opn) := Blk.cell hob 8
  have o5 : wb.cell? ⟨b, 5, none⟩ = some (.int .i64 (V.om b).price) := Blk.cell hob 5
  have o2 : wb.cell? ⟨b, 2, none⟩ = some (.string (V.B i).sym) := by rw [← unhide HSym]; exact Blk.cell hob 2
  have v0 : wb.cell? ⟨bv, 0, none⟩ = some (.map (some bm)) := Rb.ven.cell 0
  have L1 : ∀ q, (Instr.lookup 94 (.map (some bm)) (.string (V.B i).sym) false).run Tryz.prog (wb.drewN q) = .ok (.pointer (some ⟨V.bk i, 0, none⟩)) (wb.drewN q) := fun q => Rb.lookBq hi hlen q
  have outF : ∀ x, w.heap.size ≤ x → ¬ (x = bv ∨ V.lm.F x) := by
    rintro x hx (e | e)
    · omega
    · have := (unhide HR).log.log.lt e; omega
  have hrb := kb.blk hra (outF _ (Nat.le_refl _))
  have hFb' : ∀ x, lmb.F x → V.lm.F x ∨ w.heap.size ≤ x := fun x h => (hFb x h).imp_right (fun h => Nat.le_trans ka.size h)
  have kkb : Chg (fun x => x = bv ∨ V.lm.F x) w wb := ka.of_non.trans kb
  have HLe := hide (fun q => leave_mk (V.bk i) (V.B i) V.om (fun x => ∃ id, V.oid id = some x) t k (wb.drewN q) ((Rb.kept0 ((Chg.refl Non wb).drewN q)).mkt hi) t2 hk (by rw [unhide HKB]; exact unhide HSd))
  rw [unhide HKB] at HLe
  have HAm := hide (fun (W : World) (m : Mk W (V.bk i) ((V.B i).leave V.om t k) V.om (fun x => ∃ id, V.oid id = some x)) => amend_mk (V.bk i) b ((V.B i).leave V.om t k) V.om _ price qty W m ⟨id, unhide HN⟩)
  have HNt : Hid (∀ q w2 w3 fn2 cp2 fn3 cp3, Mk w2 (V.bk i) ((V.B i).leave V.om t k) V.om (fun x => ∃ id, V.oid id = some x) → Chg (fun x => x = V.bk i ∨ SdB (V.B i) t x) (wb.drewN q) w2 → Mk w3 (V.bk i) ((V.B i).leave V.om t k) (upd V.om b (repO (V.om b) price qty)) (fun x => ∃ id, V.oid id = some x) → Chg (fun x => x = b) w2 w3 →
      Calls Tryz.prog 53 #[.pointer (some ⟨bv, 0, none⟩), .slice (some ⟨w3.heap.size, 0, none⟩) 2 2] (w3.alloc (.cells #[.func fn2 #[] cp2, .func fn3 #[] cp3] 1)) fun e w' => e = .returned (.tuple #[]) ∧
        Mk w' (V.bk i) ((V.B i).leave V.om t k) (upd V.om b (repO (V.om b) price qty)) (fun x => ∃ id, V.oid id = some x) ∧ ∃ lm3, IsLog w' bv bm bo (V.lg.moved b (V.om b)) lm3 ∧ (∀ x, lm3.F x → V.lm.F x ∨ w.heap.size ≤ x) ∧ Chg (fun x => x = bv ∨ V.lm.F x ∨ x = V.bk i ∨ x = b ∨ SdB (V.B i) t x) w w' ∧ Blk w' w.heap.size zero5 87) := by
    intro q w2 w3 fn2 cp2 fn3 cp3 m2 k2 m3 k3
    have h2 := (hLb.kept0 ((Chg.refl Non wb).drewN q)).keptT k2 (fun x h => ((Rb.kept0 ((Chg.refl Non wb).drewN q)).mkt hi).typ (by
      rcases h with h | h
      · exact .inl h
      · exact .inr (.inr ⟨t, t2, h⟩)))
    have h3 := h2.keptT k3 (fun x h => by subst h; exact m2.typ (.inr (.inl ⟨id, unhide HN⟩)))
    have hr2 := k2.blk (hrb.drewN q) (by
      rintro (h | h)
      · omega
      · have := ((unhide HR).mkt hi).sd_lt t2 h; omega)
    have hr3 := k3.blk hr2 (fun h => by omega)
    refine (note2 bv bm bo _ lmb (.left b) (.now b (V.om b)) fn2 fn3 cp2 cp3 w3 h3 (by show 0 < V.lg.na + 1; omega) (by show V.lg.na + 1 ≤ 3000000; omega) (by show 0 + 2 < 1000000000; omega)).mono ?_
    rintro e w' ⟨rfl, lm', a1, a2, a3⟩
    have kc3 : Chg (fun x => x = bv ∨ V.lm.F x ∨ x = V.bk i ∨ x = b ∨ SdB (V.B i) t x) w w3 := ((kkb.mono (fun x h => h.imp_right .inl)).drewN q).trans ((k2.mono (fun x h => by rcases h with h | h; exact .inr (.inr (.inl h)); exact .inr (.inr (.inr (.inr h))))).trans (k3.mono (fun x h => .inr (.inr (.inr (.inl h))))))
    refine ⟨rfl, m3.keptLog h3 (a3.mono (fun _ h => .inr h)), lm', a1, fun x hx => ?_, kc3.from (a3.mono (fun x h => (hFb' x h).imp_left (fun h => .inr (.inl h)))), a3.blk hr3 (h3.log.ne hr3 (by decide) (by decide) (by decide))⟩
    rcases a2 x hx with h | h
    · exact hFb' x h
    · exact .inr (Nat.le_trans kc3.size h)
  clear hob hnb Rb hLb hFb kb HBeg HSym HSd outF hrb hFb' kkb ka hra HW
  have e1 : (price == (V.om b).price) = false ∨ ((price == (V.om b).price) = true ∧ decide (qty ≤ (V.om b).opn) = false) := by
    have := unhide HKP
    cases h1 : (price == (V.om b).price)
    · exact .inl rfl
    · rw [h1] at this; exact .inr ⟨rfl, by simpa using this⟩
  rcases e1 with e1 | ⟨e1, e2⟩
  all_goals
    go_wp2
    go_quiet (fail)
    go_wp2_with fail
    refine (unhide HLe _).mono ?_
    rintro e w2 ⟨fn2, cp2, rfl, -, m2, k2⟩
    go_wp2_with fail
    refine (unhide HAm w2 m2).mono ?_
    rintro e w3 ⟨fn3, cp3, rfl, -, m3, k3⟩
    go_wp2_with fail
    refine (unhide HNt _ w2 w3 fn2 cp2 fn3 cp3 m2 k2 m3 k3).mono ?_
    rintro e w4 ⟨rfl, m4, lm3, hl4, hf4, kc4, hr4⟩
    have HC4 := hide (unhide HCome w4 lm3 m4 hl4)
    have HM4 := hide m4
    have HL4 := hide hl4
    have HR4 := hide hr4
    clear m2 k2 m3 k3 m4 hl4 hr4
    go_wp2_with fail
    refine (unhide HC4).mono ?_
    rintro e w5 ⟨v, rfl, hp5⟩
    obtain ⟨f, r, c, a, n, hrep⟩ := rep_form ((⟨(V.B i).leave V.om t k, upd V.om b (repO (V.om b) price qty), V.lg.moved b (V.om b)⟩ : MS).om b) (comeOm b (mF b s ⟨(V.B i).leave V.om t k, upd V.om b (repO (V.om b) price qty), V.lg.moved b (V.om b)⟩) b) (MS.tr ⟨(V.B i).leave V.om t k, upd V.om b (repO (V.om b) price qty), V.lg.moved b (V.om b)⟩) (mF b s ⟨(V.B i).leave V.om t k, upd V.om b (repO (V.om b) price qty), V.lg.moved b (V.om b)⟩).tr
    have hv5 : v = .agg #[.int .i64 f, .int .i64 r, .int .i64 c, .int .i64 a, .int .i64 n] := by rw [hp5.1]; exact hrep
    have hr5 : Blk w5 w.heap.size zero5 87 := by
      obtain ⟨_, g, cap', lm', _, _, _, k5, _⟩ := hp5
      refine k5.blk (unhide HR4) ?_
      have hbt := unhide HR4
      rintro (h | h | h | h | h | h)
      · omega
      · exact (unhide HL4).log.ne hbt (by decide) (by decide) (by decide) (by decide) (by decide) h
      · omega
      · omega
      · rcases h with h | ⟨l, hl, h⟩
        · exact ((unhide HM4).book.side s hs).ne hbt (by decide) h
        · exact Blk.ne hbt (((unhide HM4).book.side s hs).ords hl) (by decide) h
      · rcases h with h | ⟨l, hl, h⟩
        · exact ((unhide HM4).book.side t t2).ne hbt (by decide) h
        · exact Blk.ne hbt (((unhide HM4).book.side t t2).ords hl) (by decide) h
    have HP := hide hp5
    clear hp5 hrep
    rw [hv5] at HP
    rw [hv5]
    have r0 : w5.cell? ⟨w.heap.size, 0, none⟩ = some (.int .i64 0) := hr5.cell 0
    have r1 : w5.cell? ⟨w.heap.size, 1, none⟩ = some (.int .i64 0) := hr5.cell 1
    have r2 : w5.cell? ⟨w.heap.size, 2, none⟩ = some (.int .i64 0) := hr5.cell 2
    have r3 : w5.cell? ⟨w.heap.size, 3, none⟩ = some (.int .i64 0) := hr5.cell 3
    have r4 : w5.cell? ⟨w.heap.size, 4, none⟩ = some (.int .i64 0) := hr5.cell 4
    have q0 := hr5.frozen 0
    have q1 := hr5.frozen 1
    have q2 := hr5.frozen 2
    have q3 := hr5.frozen 3
    have q4 := hr5.frozen 4
    clear hv5
    go_wp2
    refine bodyPost_ret (res25 _ w.heap.size _ f r c a n 0 rfl rfl ?_) rfl ⟨_, w4, lm3, rfl, kc4, hf4, w5, unhide HP, hr5, ?_⟩
    · exact ((((hr5.set 0 _).set 1 _).set 2 _).set 3 _).set 4 _
    · exact (((((Chg.refl (fun x => x = w.heap.size) w5).setCell (p := ⟨w.heap.size, 0, none⟩) (.inl rfl) _).setCell (p := ⟨w.heap.size, 1, none⟩) (.inl rfl) _).setCell (p := ⟨w.heap.size, 2, none⟩) (.inl rfl) _).setCell (p := ⟨w.heap.size, 3, none⟩) (.inl rfl) _).setCell (p := ⟨w.heap.size, 4, none⟩) (.inl rfl) _

end Go.Proofs.YtigaphnafnpfnaaGreatDoor

