import Derived.Test.YtigaphnafnpfnaaGreatDoorHC5
import Derived.Laws.RangeString
import Derived.LoopN
set_option linter.unusedVariables false
set_option linter.unusedSimpArgs false
namespace Go.Proofs.YtigaphnafnpfnaaGreatDoor
open Go.RowKit Go.Maps Go.Lib
attribute [local go_sem ↓] Go.wp_at_zero Go.wp_at_succ

theorem run_next_dec {P : Program} (w : World) (s : ByteArray) (pos c n : Nat) (ty : TypeId) (h : pos < s.size) (hd : Utf8.decode s pos = (c, n)) :
    (Instr.next (.pointer (some ⟨w.heap.size, 0, none⟩)) true ty).run P (w.iter s pos) =
      .ok (.tuple #[.bool true, .int .i64 pos, .int .i32 c]) (w.iter s (pos + n)) := by
  simp only [Instr.next, getObj, setObj, Sem.run_bind, Sem.run, World.iter_heap, Result.andThen, h, if_true, hd, World.iter_set]
  simp [goInt, Sem.run, World.iter_heap, World.iter_set]

def sa : ByteArray := ⟨#[97]⟩
def sA : ByteArray := ⟨#[65]⟩
def sG : ByteArray := ⟨#[206, 145, 206, 169]⟩

theorem isLetter_a (w : World) : Calls Tryz.prog 85 #[.int .i32 97] w fun e w' => e = .returned (.bool false) ∧ w' = w := by
  go_enter Tryz.func85, Tryz.ntmps85
  go_wp2
  go_ret
  exact ⟨by simp, rfl⟩
theorem isLetter_A (w : World) : Calls Tryz.prog 85 #[.int .i32 65] w fun e w' => e = .returned (.bool true) ∧ w' = w := by
  go_enter Tryz.func85, Tryz.ntmps85
  go_wp2
  go_ret
  exact ⟨by simp, rfl⟩
theorem isLetter_G (w : World) : Calls Tryz.prog 85 #[.int .i32 913] w fun e w' => e = .returned (.bool true) ∧ w' = w := by
  go_enter Tryz.func85, Tryz.ntmps85
  go_wp2
  go_ret
  exact ⟨by simp, rfl⟩
theorem isLetter_O (w : World) : Calls Tryz.prog 85 #[.int .i32 937] w fun e w' => e = .returned (.bool true) ∧ w' = w := by
  go_enter Tryz.func85, Tryz.ntmps85
  go_wp2
  go_ret
  exact ⟨by simp, rfl⟩

set_option maxHeartbeats 1000000 in
theorem isName_a (w : World) : Calls Tryz.prog 50 #[.string sa] w fun e w' => e = .returned (.bool false) ∧ Chg Non w w' := by
  have n0 := fun ty => run_next_dec (P := Tryz.prog) w sa 0 97 1 ty (by decide) (by decide)
  go_enter Tryz.func50, Tryz.ntmps50
  go_wp2
  refine wp_loop_rounds 1 ?_
  rw [rounds_succ]
  go_wp2_with fail
  refine (isLetter_a _).mono ?_
  rintro e w' ⟨rfl, rfl⟩
  go_wp2
  go_ret
  exact ⟨rfl, (Chg.refl Non w).alloc _⟩

set_option maxHeartbeats 1000000 in
theorem isName_A (w : World) : Calls Tryz.prog 50 #[.string sA] w fun e w' => e = .returned (.bool true) ∧ Chg Non w w' := by
  have n0 := fun ty => run_next_dec (P := Tryz.prog) w sA 0 65 1 ty (by decide) (by decide)
  have n1 := fun ty => run_next_end (P := Tryz.prog) w sA 1 ty (by decide)
  go_enter Tryz.func50, Tryz.ntmps50
  go_wp2
  refine wp_loop_rounds 2 ?_
  rw [rounds_succ]
  go_wp2_with fail
  refine (isLetter_A _).mono ?_
  rintro e w' ⟨rfl, rfl⟩
  go_wp2
  rw [rounds_succ]
  go_wp2
  go_ret
  exact ⟨by simp, (Chg.refl Non w).alloc _⟩

set_option maxHeartbeats 1000000 in
theorem isName_G (w : World) : Calls Tryz.prog 50 #[.string sG] w fun e w' => e = .returned (.bool true) ∧ Chg Non w w' := by
  have n0 := fun ty => run_next_dec (P := Tryz.prog) w sG 0 913 2 ty (by decide) (by decide)
  have n1 := fun ty => run_next_dec (P := Tryz.prog) w sG 2 937 2 ty (by decide) (by decide)
  have n2 := fun ty => run_next_end (P := Tryz.prog) w sG 4 ty (by decide)
  go_enter Tryz.func50, Tryz.ntmps50
  go_wp2
  refine wp_loop_rounds 3 ?_
  rw [rounds_succ]
  go_wp2_with fail
  refine (isLetter_G _).mono ?_
  rintro e w' ⟨rfl, rfl⟩
  go_wp2
  rw [rounds_succ]
  go_wp2_with fail
  refine (isLetter_O _).mono ?_
  rintro e w' ⟨rfl, rfl⟩
  go_wp2
  rw [rounds_succ]
  go_wp2
  go_ret
  exact ⟨by simp, (Chg.refl Non w).alloc _⟩

def newBk (s : ByteArray) : Bk := ⟨s, fun _ => none, fun _ => 0, fun _ => 0, fun _ _ => 0, 0⟩

theorem bookNew_any (s : ByteArray) (w : World) : Calls Tryz.prog 52 #[.string s] w fun e w' => e = .returned (.pointer (some ⟨w.heap.size, 0, none⟩)) ∧ Blk w' w.heap.size (newBk s).cells 158 ∧ Chg Non w w' := by
  go_enter Tryz.func52, Tryz.ntmps52
  go_wp2
  go_ret
  exact ⟨rfl, Blk.new w _ _, (Chg.refl Non w).alloc _⟩

def ven0 : Ven := ⟨0, fun _ => 0, fun _ => newBk ⟨#[]⟩, fun _ => ⟨0, 0, ⟨#[]⟩, 0, 0, 0, 0, 0, 0, 0, 0, 0, 0⟩, fun _ => none, 0, ⟨[], [], 1, 0, []⟩, ⟨.slice none 0 0, .slice none 0 0, [], .slice none 0 0, [], .slice none 0 0, []⟩⟩

set_option maxHeartbeats 1000000 in
theorem new_any (w : World) : Calls Tryz.prog 34 #[] w fun e w' => ∃ bv bm bo, e = .returned (.pointer (some ⟨bv, 0, none⟩)) ∧ Rep w' bv bm bo ven0 ∧ Chg Non w w' ∧ w.heap.size ≤ bv ∧ w.heap.size ≤ bm ∧ w.heap.size ≤ bo := by
  have hmm := @run_makeMap Tryz.prog
  go_enter Tryz.func34, Tryz.ntmps34
  go_wp2
  go_ret
  refine ⟨w.heap.size + 1 + 1, w.heap.size, w.heap.size + 1, ?_, ?_, ?_, by omega, by omega, by omega⟩
  · rfl
  · have m1 : MapP (((w.alloc (.map #[] 0)).alloc (.map #[] 0)).alloc (.cells #[.map (some w.heap.size), .map (some (w.heap.size + 1)), .slice none 0 0, .slice none 0 0, .int .i64 1, .slice none 0 0, .slice none 0 0] 100)) 9 w.heap.size (fun _ => none) 0 := ((MapP.made w 9).kept ((Chg.refl Non _).alloc _) (fun x => x)).kept ((Chg.refl Non _).alloc _) (fun x => x)
    have m2 : MapP (((w.alloc (.map #[] 0)).alloc (.map #[] 0)).alloc (.cells #[.map (some w.heap.size), .map (some (w.heap.size + 1)), .slice none 0 0, .slice none 0 0, .int .i64 1, .slice none 0 0, .slice none 0 0] 100)) 3 (w.heap.size + 1) (fun _ => none) 0 := by
      have h := (MapP.made (w.alloc (.map #[] 0)) 3).kept ((Chg.refl Non _).alloc (.cells #[.map (some w.heap.size), .map (some (w.heap.size + 1)), .slice none 0 0, .slice none 0 0, .int .i64 1, .slice none 0 0, .slice none 0 0] 100)) (fun x => x)
      have e : (w.alloc (.map #[] 0)).heap.size = w.heap.size + 1 := by simp
      rw [e] at h
      exact h
    have m3 : Blk (((w.alloc (.map #[] 0)).alloc (.map #[] 0)).alloc (.cells #[.map (some w.heap.size), .map (some (w.heap.size + 1)), .slice none 0 0, .slice none 0 0, .int .i64 1, .slice none 0 0, .slice none 0 0] 100)) (w.heap.size + 1 + 1) (venC w.heap.size (w.heap.size + 1) ven0.lm ven0.lg.day) 100 := by
      have h := Blk.new1 (w.alloc (.map #[] 0)) (.map #[] 0) (venC w.heap.size (w.heap.size + 1) ven0.lm ven0.lg.day) 100
      have e : (w.alloc (.map #[] 0)).heap.size = w.heap.size + 1 := by simp
      rw [e] at h
      exact h
    exact ⟨⟨m3, ⟨World.ownsRow_nil _ _ _ _, World.ownsRow_nil _ _ _ _, rfl, fun i b g h => by simp [ven0] at h, List.nodup_nil, ⟨World.ownsRow_nil _ _ _ _, fun a ha => by simp [ven0] at ha, List.nodup_nil, rfl, fun a ha => by simp [ven0] at ha⟩, World.ownsRow_nil _ _ _ _, Nat.zero_le _⟩⟩, ⟨_, m1, fun i hi => absurd hi (Nat.not_lt_zero i), fun s b h => by simp at h⟩, ⟨_, m2, fun _ => rfl⟩, by omega, fun i hi => absurd hi (Nat.not_lt_zero i), fun id b h => by simp [ven0] at h, fun i hi => absurd hi (Nat.not_lt_zero i), fun i j hi => absurd hi (Nat.not_lt_zero i), fun i j hi => absurd hi (Nat.not_lt_zero i), Nat.zero_le _⟩
  · exact (((Chg.refl Non w).alloc _).alloc _).alloc _

/-- isName says b of s -/
def NameSays (s : ByteArray) (b : Bool) : Prop := ∀ w, Calls Tryz.prog 50 #[.string s] w fun e w' => e = .returned (.bool b) ∧ Chg Non w w'

set_option maxHeartbeats 1000000 in
theorem list_name (bv : Nat) (s : ByteArray) (w : World) (hn : NameSays s false) : Calls Tryz.prog 27 #[.pointer (some ⟨bv, 0, none⟩), .string s] w fun e w' => e = .returned (.int .i64 3) ∧ Chg Non w w' := by
  go_enter Tryz.func27, Tryz.ntmps27
  go_wp2_with fail
  refine (hn _).mono ?_
  rintro e w' ⟨rfl, k⟩
  go_wp2
  go_ret
  exact ⟨rfl, ((Chg.refl Non w).alloc _).trans k⟩

set_option maxHeartbeats 1000000 in
theorem list_taken (bv bm bo i : Nat) (V : Ven) (s : ByteArray) (w : World) (R : Rep w bv bm bo V) (hn : NameSays s true) (hlen : s.size ≤ maxLen) (hi : i < V.nb) (hs : (V.B i).sym = s) : Calls Tryz.prog 27 #[.pointer (some ⟨bv, 0, none⟩), .string s] w fun e w' => e = .returned (.int .i64 2) ∧ Chg Non w w' := by
  obtain ⟨fB, mB, fB1, fB2⟩ := R.books
  have hl := fB1 i hi
  rw [hs] at hl
  have HL := hide hl
  have hK : ∀ w', Chg Non w w' → (Instr.lookup 94 (.map (some bm)) (.string s) false).run Tryz.prog w' = .ok (.pointer (some ⟨V.bk i, 0, none⟩)) w' ∧ w'.cell? ⟨bv, 0, none⟩ = some (.map (some bm)) := fun w' k => by
    refine ⟨?_, (k.blk R.ven (fun x => x)).cell 0⟩
    rw [(mB.kept k (fun x => x)).look law9 Tryz.underlying94 (zero70 _) (WideMaps.keyOf_string_mk Tryz.underlying9 hlen)]
    show _ = Result.ok (ptrO (some (V.bk i))) _
    rw [← unhide HL]; rfl
  have HK := hide hK
  clear hl hK hs mB fB1 fB2
  go_enter Tryz.func27, Tryz.ntmps27
  go_wp2_with fail
  refine (hn _).mono ?_
  rintro e w1 ⟨rfl, k⟩
  have xb : w1.cell? ⟨w.heap.size, 0, none⟩ = some (.pointer (some ⟨bv, 0, none⟩)) := (k.blk (Blk.new w #[.pointer (some ⟨bv, 0, none⟩)] 35) (fun x => x)).cell 0
  have k0 := ((Chg.refl Non w).alloc (.cells #[.pointer (some ⟨bv, 0, none⟩)] 35)).trans k
  obtain ⟨L1, v0⟩ := unhide HK w1 k0
  go_wp2
  go_ret
  exact ⟨rfl, k0⟩

def Ven.list (V : Ven) (s : ByteArray) (b : Nat) : Ven := { V with nb := V.nb + 1, bk := upd V.bk V.nb b, B := upd V.B V.nb (newBk s) }

theorem newBk_sd (s : ByteArray) (x b : Nat) : ¬ SdB (newBk s) x b := by
  rintro (h | ⟨k, hk, _⟩)
  · simp [newBk, adB] at h
  · exact absurd hk (Nat.not_lt_zero k)

theorem Rep.list {w w' : World} {bv bm bo b : Nat} {V : Ven} {s : ByteArray} (R : Rep w bv bm bo V) (hb : w.heap.size ≤ b) (hblk : Blk w' b (newBk s).cells 158) (k : Chg (fun x => x = bm) w w') (hfree : ∀ i, i < V.nb → (V.B i).sym ≠ s)
    (mB : ∃ fB, MapP w' 9 bm fB (V.nb + 1) ∧ fB (sl s) = some b ∧ ∃ fB0, MapP w 9 bm fB0 V.nb ∧ (∀ i, i < V.nb → fB0 (sl (V.B i).sym) = some (V.bk i)) ∧ (∀ s b, fB0 (sl s) = some b → ∃ i, i < V.nb ∧ b = V.bk i ∧ (V.B i).sym = s) ∧ ∀ s', s' ≠ s → fB (sl s') = fB0 (sl s')) :
    Rep w' bv bm bo (V.list s b) := by
  obtain ⟨fB, mB', f1, fB0, mB0, g1, g2, f2⟩ := mB
  obtain ⟨fO, mO, fO1⟩ := R.orders
  have ne : ∀ {b' : Nat} {c : Array Value} {t : TypeId}, Blk w b' c t → Blk w' b' c t := fun h => k.blk h (Ne.symm (mB0.ne h))
  have bk : ∀ i, i < V.nb → IsBook w' (V.bk i) (V.B i) V.om := fun i hi => (R.book i hi).kept k (by
    rintro x (rfl | ⟨y, hy, h⟩) e
    · exact mB0.ne (R.book i hi).blk e.symm
    · rcases h with h | ⟨l, hl, rfl⟩
      · rcases ((R.book i hi).side y hy) with ⟨h0, _⟩ | ⟨ab, hab, hsd⟩
        · rw [h0] at h; simp [adB] at h
        · obtain ⟨cs, hcs, _⟩ := hsd.arr
          rw [hab] at h
          simp [adB] at h
          rw [h] at hcs
          exact mB0.ne hcs e.symm
      · exact mB0.ne (((R.book i hi).side y hy).ords hl) e.symm)
  have lt : ∀ i, i < V.nb → V.bk i < w.heap.size := fun i hi => (R.book i hi).blk.lt
  refine ⟨R.log.kept k (Ne.symm (mB0.ne R.ven)) (fun y hy e => by
    obtain ⟨c, t', hc, _⟩ := R.log.log.typ hy
    exact mB0.ne hc e.symm), ⟨fB, mB', ?_, ?_⟩, ⟨fO, mO.kept k (fun e => R.mne e.symm), fO1⟩, R.mne, ?_, ?_, ?_, ?_, ?_, R.no200⟩
  · intro i hi
    by_cases e : i = V.nb
    · subst e; simp only [Ven.list, upd_same]; exact f1
    · have hi' : i < V.nb := by simp only [Ven.list] at hi; omega
      simp only [Ven.list, upd_other _ _ e]
      rw [f2 _ (hfree i hi')]
      exact g1 i hi'
  · intro s' b' h
    by_cases e : s' = s
    · subst e
      rw [f1] at h
      simp only [Option.some.injEq] at h
      exact ⟨V.nb, by simp [Ven.list], by simp only [Ven.list, upd_same]; exact h.symm, by simp only [Ven.list, upd_same]; rfl⟩
    · rw [f2 _ e] at h
      obtain ⟨i, hi, h1, h2⟩ := g2 s' b' h
      have : i ≠ V.nb := by omega
      exact ⟨i, by simp only [Ven.list]; omega, by simp only [Ven.list, upd_other _ _ this]; exact h1, by simp only [Ven.list, upd_other _ _ this]; exact h2⟩
  · intro i hi
    by_cases e : i = V.nb
    · subst e
      simp only [Ven.list, upd_same]
      exact ⟨hblk, fun y hy => .inl ⟨rfl, rfl, rfl⟩, fun a h => by simp [newBk, adB] at h, fun l j hl => absurd hl (Nat.not_lt_zero l)⟩
    · have hi' : i < V.nb := by simp only [Ven.list] at hi; omega
      simp only [Ven.list, upd_other _ _ e]
      exact bk i hi'
  · intro id x h
    obtain ⟨h1, ix, h2⟩ := R.ords id x h
    exact ⟨h1, ix, ne h2⟩
  · intro i hi y hy l hl
    by_cases e : i = V.nb
    · subst e; simp only [Ven.list, upd_same] at hl; exact absurd hl (Nat.not_lt_zero l)
    · have hi' : i < V.nb := by simp only [Ven.list] at hi; omega
      simp only [Ven.list, upd_other _ _ e] at hl ⊢
      exact R.mem i hi' y hy l hl
  · intro i j hi hj hne
    simp only [Ven.list] at hi hj ⊢
    by_cases e : i = V.nb
    · have e2 : j ≠ V.nb := by omega
      rw [e, upd_same, upd_other _ _ e2]
      have := lt j (by omega)
      omega
    · rw [upd_other _ _ e]
      by_cases e2 : j = V.nb
      · rw [e2, upd_same]
        have := lt i (by omega)
        omega
      · rw [upd_other _ _ e2]
        exact R.sepb i j (by omega) (by omega) hne
  · intro i j hi hj hne x y hx hy z h1 h2
    simp only [Ven.list] at hi hj h1 h2
    by_cases e : i = V.nb
    · rw [e, upd_same] at h1; exact newBk_sd s x z h1
    · by_cases e2 : j = V.nb
      · rw [e2, upd_same] at h2; exact newBk_sd s y z h2
      · rw [upd_other _ _ e] at h1
        rw [upd_other _ _ e2] at h2
        exact R.seps i j (by omega) (by omega) hne x y hx hy z h1 h2

end Go.Proofs.YtigaphnafnpfnaaGreatDoor

set_option linter.unusedVariables false
set_option linter.unusedSimpArgs false
namespace Go.Proofs.YtigaphnafnpfnaaGreatDoor
open Go.RowKit Go.Maps Go.Lib
attribute [local go_sem ↓] Go.wp_at_zero Go.wp_at_succ

theorem sl_inj {s s' : ByteArray} (h : sl s = sl s') : s = s' := by
  simp only [sl, Lit.string.injEq] at h
  exact ByteArray.ext (Array.ext' h)

/-- the venue behind a List -/
def Ven.listed (V : Ven) (s : ByteArray) (b : Nat) (lm' : Lm) : Ven := { V.list s b with lg := V.lg.begun.noted [.listed s], lm := lm' }

set_option maxHeartbeats 2000000 in
set_option maxRecDepth 100000 in
theorem list_ok (bv bm bo : Nat) (V : Ven) (s : ByteArray) (w : World) (R : Rep w bv bm bo V) (hn : NameSays s true) (hlen : s.size ≤ 100) (hfree : ∀ i, i < V.nb → (V.B i).sym ≠ s) (hnb : V.nb < 6) (hna : V.lg.na < 1000000) :
    Calls Tryz.prog 27 #[.pointer (some ⟨bv, 0, none⟩), .string s] w fun e w' => ∃ b lm', e = .returned (.int .i64 0) ∧ w.heap.size ≤ b ∧ Rep w' bv bm bo (V.listed s b lm') ∧ Chg (fun x => x = bm ∨ x = bv ∨ V.lm.F x) w w' ∧ (∀ x, lm'.F x → V.lm.F x ∨ w.heap.size ≤ x) := by
  have hml : s.size ≤ maxLen := by unfold maxLen; omega
  obtain ⟨fB, mB, fB1, fB2⟩ := R.books
  have hl : fB (sl s) = none := by
    cases h : fB (sl s) with
    | none => rfl
    | some b =>
      obtain ⟨i, hi, _, h2⟩ := fB2 s b h
      exact absurd h2 (hfree i hi)
  have hK : ∀ w', Chg Non w w' → (Instr.lookup 94 (.map (some bm)) (.string s) false).run Tryz.prog w' = .ok (.pointer none) w' ∧ w'.cell? ⟨bv, 0, none⟩ = some (.map (some bm)) ∧ (∀ ty, (Builtin.len_ #[94] ty #[.map (some bm)]).run Tryz.prog w' = .ok (.int .i64 V.nb) w') := fun w' k => by
    refine ⟨?_, (k.blk R.ven (fun x => x)).cell 0, fun ty => (mB.kept k (fun x => x)).len Tryz.underlying94 ty⟩
    rw [(mB.kept k (fun x => x)).look law9 Tryz.underlying94 (zero70 _) (WideMaps.keyOf_string_mk Tryz.underlying9 hml)]
    show _ = Result.ok (ptrO none) _
    rw [← hl]; rfl
  have mbS : ¬ (bm = bv ∨ V.lm.F bm) := by
    rintro (e | e)
    · exact mB.ne R.ven e
    · obtain ⟨c, t', hc, _⟩ := R.log.log.typ e
      exact mB.ne hc rfl
  have outF : ∀ x, w.heap.size ≤ x → ¬ (x = bv ∨ V.lm.F x) := by
    rintro x hx (e | e)
    · have := R.ven.lt; omega
    · have := R.log.log.lt e; omega
  have hU : ∀ w' b, Chg (fun x => x = bv ∨ V.lm.F x) w w' → ∃ w'', (Instr.mapUpdate 94 (.map (some bm)) (.string s) (.pointer (some ⟨b, 0, none⟩))).run Tryz.prog w' = .ok () w'' ∧ MapP w'' 9 bm (putF fB (sl s) b) (V.nb + 1) ∧ Chg (fun i => i = bm) w' w'' := fun w' b k =>
    (mB.kept k mbS).put law9 Tryz.underlying94 (by unfold maxLen; omega) (WideMaps.keyOf_string_mk Tryz.underlying9 hml) trivial hl
  have hbeg : ∀ w', Chg Non w w' → Calls Tryz.prog 51 #[.pointer (some ⟨bv, 0, none⟩), .string (⟨#[108, 105, 115, 116, 32]⟩ ++ s)] w' fun e w'' => e = .returned (.tuple #[]) ∧ ∃ m', IsLog w'' bv bm bo V.lg.begun m' ∧ (∀ b, m'.F b → V.lm.F b ∨ w'.heap.size ≤ b) ∧ Chg (fun b => b = bv ∨ V.lm.F b) w' w'' := fun w' k => begin_any bv bm bo V.lg V.lm _ w' (R.log.kept0 k) hna (by rw [ByteArray.size_append]; show 0 < 5 + s.size; omega) (by rw [ByteArray.size_append]; show 5 + s.size ≤ 290; omega)
  have fin : ∀ b wb lmb w3 w4 w5 lm5, IsLog wb bv bm bo V.lg.begun lmb → Chg (fun x => x = bv ∨ V.lm.F x) w wb → (∀ x, lmb.F x → V.lm.F x ∨ w.heap.size ≤ x) → wb.heap.size ≤ b → Chg Non wb w3 → Blk w3 b (newBk s).cells 158 → MapP w4 9 bm (putF fB (sl s) b) (V.nb + 1) → Chg (fun i => i = bm) w3 w4 →
      IsLog w5 bv bm bo (V.lg.begun.noted [.listed s]) lm5 → (∀ x, lm5.F x → lmb.F x ∨ w4.heap.size ≤ x) → Chg (fun x => lmb.F x) w4 w5 →
      w.heap.size ≤ b ∧ Rep w5 bv bm bo (V.listed s b lm5) ∧ Chg (fun x => x = bm ∨ x = bv ∨ V.lm.F x) w w5 ∧ (∀ x, lm5.F x → V.lm.F x ∨ w.heap.size ≤ x) := by
    intro b wb lmb w3 w4 w5 lm5 hLb kb hFb hb k3 hblk m4 k4 hL5 hF5 k5
    have Rb : Rep wb bv bm bo { V with lg := V.lg.begun, lm := lmb } := R.turnLog hLb kb
    have kk := k3.of_non.trans k4
    have mBb := mB.kept kb mbS
    have R4 : Rep w4 bv bm bo (Ven.list { V with lg := V.lg.begun, lm := lmb } s b) := Rb.list hb (k4.blk hblk (Ne.symm ((mBb.kept k3 (fun x => x)).ne hblk))) kk hfree ⟨_, m4, putF_same trivial, fB, mBb, fB1, fB2, fun s' h => putF_other trivial (fun e => h (sl_inj e))⟩
    have R5 := R4.turnLog hL5 (k5.mono (fun x h => .inr h))
    have kw4 : Chg (fun x => x = bm ∨ x = bv ∨ V.lm.F x) w w4 := (kb.mono (fun x h => .inr h)).trans (kk.mono (fun x h => .inl h))
    refine ⟨Nat.le_trans kb.size hb, R5, kw4.from (k5.mono (fun x h => (hFb x h).imp_left (fun h => .inr (.inr h)))), fun x hx => ?_⟩
    rcases hF5 x hx with h | h
    · exact hFb x h
    · exact .inr (Nat.le_trans kw4.size h)
  have hV : ∀ wb lmb w3 w4, IsLog wb bv bm bo V.lg.begun lmb → Chg (fun x => x = bv ∨ V.lm.F x) w wb → Chg Non wb w3 → Chg (fun i => i = bm) w3 w4 → w3.cell? ⟨bv, 0, none⟩ = some (.map (some bm)) ∧ w4.cell? ⟨bv, 0, none⟩ = some (.map (some bm)) ∧ IsLog w4 bv bm bo V.lg.begun lmb ∧ (∀ {b c t}, Blk w3 b c t → Blk w4 b c t) := fun wb lmb w3 w4 hLb kb k3 k4 => by
    have m3 := (mB.kept kb mbS).kept k3 (fun x => x)
    have bl : ∀ {b c t}, Blk w3 b c t → Blk w4 b c t := fun h => k4.blk h (Ne.symm (m3.ne h))
    have h3 := k3.blk hLb.ven (fun x => x)
    refine ⟨h3.cell 0, (bl h3).cell 0, (hLb.kept0 k3).kept k4 (Ne.symm (m3.ne h3)) (fun y hy e => ?_), bl⟩
    obtain ⟨c, t', hc, _⟩ := (hLb.kept0 k3).log.typ hy
    exact m3.ne hc e.symm
  have HV := hide hV
  have HK := hide hK
  have HU := hide hU
  have HF := hide fin
  have HBg := hide hbeg
  have HO := hide outF
  have e6 : decide ((6 : Int) ≤ (V.nb : Int)) = false := by simp; omega
  clear hV hK hU fin hl mB fB1 fB2 R hfree hnb hbeg outF mbS
  have c1 := cat_run (P := Tryz.prog) ⟨#[108, 105, 115, 116, 32]⟩ s (by show 5 + s.size ≤ 1000000; omega)
  go_enter Tryz.func27, Tryz.ntmps27
  go_wp2_with fail
  refine (hn _).mono ?_
  rintro e w1 ⟨rfl, k1⟩
  have b1 := k1.blk (Blk.new w #[.pointer (some ⟨bv, 0, none⟩)] 35) (fun x => x)
  have k01 := ((Chg.refl Non w).alloc (.cells #[.pointer (some ⟨bv, 0, none⟩)] 35)).trans k1
  have xb1 : w1.cell? ⟨w.heap.size, 0, none⟩ = some (.pointer (some ⟨bv, 0, none⟩)) := b1.cell 0
  obtain ⟨L1, v0, L3⟩ := unhide HK w1 k01
  clear k1
  go_wp2_with fail
  refine (clone_any s w1 (by omega)).mono ?_
  rintro e w2 ⟨rfl, k2⟩
  clear L1 v0 L3 xb1
  have k12 := k01.trans k2
  have b2 := k2.blk b1 (fun x => x)
  have xb2 : w2.cell? ⟨w.heap.size, 0, none⟩ = some (.pointer (some ⟨bv, 0, none⟩)) := b2.cell 0
  obtain ⟨w2a, hw2a⟩ : ∃ w2a, w2a = w2.alloc (.cells #[.string s] 9) := ⟨_, rfl⟩
  have k2a : Chg Non w w2a := by rw [hw2a]; exact k12.alloc _
  have b2a : Blk w2a w.heap.size #[.pointer (some ⟨bv, 0, none⟩)] 35 := by rw [hw2a]; exact b2.alloc _
  have o2a : Blk w2a w2.heap.size #[.string s] 9 := by rw [hw2a]; exact Blk.new _ _ _
  have HW := hide hw2a
  have HBeg := hide (unhide HBg w2a k2a)
  have l2 := b2.lt
  have k12s := k12.size
  clear hw2a
  go_wp2_with fail
  rw [← unhide HW]
  refine (unhide HBeg).mono ?_
  rintro e wb ⟨rfl, lmb, hLb, hFb, kb⟩
  have bb := kb.blk b2a (unhide HO _ (Nat.le_refl _))
  have ob := kb.blk o2a (unhide HO _ (by omega))
  have kkb := k2a.of_non.trans kb
  have hFb' : ∀ x, lmb.F x → V.lm.F x ∨ w.heap.size ≤ x := fun x h => (hFb x h).imp_right (fun h => Nat.le_trans k2a.size h)
  have xb : wb.cell? ⟨w.heap.size, 0, none⟩ = some (.pointer (some ⟨bv, 0, none⟩)) := bb.cell 0
  have ox : wb.cell? ⟨w2.heap.size, 0, none⟩ = some (.string s) := ob.cell 0
  have vb : wb.cell? ⟨bv, 0, none⟩ = some (.map (some bm)) := hLb.ven.cell 0
  have HLb := hide hLb
  have HKb := hide kkb
  have HFb := hide hFb'
  have HBb := hide bb
  have HOb := hide ob
  clear hLb kkb hFb hFb' kb k2a k12 k01 k2 b1 b2 b2a o2a HW HBeg bb ob xb2
  go_wp2
  go_region_held3 (fun w' => w'.cell? ⟨bv, 0, none⟩ = some (.map (some bm)) ∧ w'.cell? ⟨w.heap.size, 0, none⟩ = some (.pointer (some ⟨bv, 0, none⟩)) ∧ w'.cell? ⟨w2.heap.size, 0, none⟩ = some (.string s)) (go_keep)
    (first | (go_at_call 52; refine (bookNew_any s _).mono ?_; rintro e w3 ⟨rfl, hb3, k3⟩; have k3' : Chg Non wb w3 := ((Chg.refl Non wb).drew).trans k3; obtain ⟨w4, hU4, m4, k4⟩ := unhide HU w3 wb.heap.size ((unhide HKb).trans k3'.of_non); obtain ⟨v3, v4, HL4, bl⟩ := unhide HV wb lmb w3 w4 (unhide HLb) (unhide HKb) k3' k4; have q3 := k3'.blk (unhide HBb) (fun x => x); have p3 := k3'.blk (unhide HOb) (fun x => x); have xb3 : w3.cell? ⟨w.heap.size, 0, none⟩ = some (.pointer (some ⟨bv, 0, none⟩)) := q3.cell 0; have ox3 : w3.cell? ⟨w2.heap.size, 0, none⟩ = some (.string s) := p3.cell 0; have xb4 : w4.cell? ⟨w.heap.size, 0, none⟩ = some (.pointer (some ⟨bv, 0, none⟩)) := (bl q3).cell 0; have ox4 : w4.cell? ⟨w2.heap.size, 0, none⟩ = some (.string s) := (bl p3).cell 0))
  have HNt := hide (note1 bv bm bo V.lg.begun lmb (.listed s) (.func 54) #[.pointer (some ⟨w.heap.size, 0, none⟩), .pointer (some ⟨w2.heap.size, 0, none⟩)] w4 HL4 (by show 0 < V.lg.na + 1; omega) (by show V.lg.na + 1 ≤ 1000000; omega) (by show 0 + 1 < 1000000; omega))
  clear HL4
  go_wp2_with fail
  refine (unhide HNt).mono ?_
  rintro e w5 ⟨rfl, lm5, hL5, hF5, k5⟩
  go_wp2
  go_ret
  exact ⟨wb.heap.size, lm5, rfl, unhide HF _ wb lmb w3 w4 w5 lm5 (unhide HLb) (unhide HKb) (unhide HFb) (Nat.le_refl _) k3' hb3 m4 k4 hL5 hF5 k5⟩

end Go.Proofs.YtigaphnafnpfnaaGreatDoor

