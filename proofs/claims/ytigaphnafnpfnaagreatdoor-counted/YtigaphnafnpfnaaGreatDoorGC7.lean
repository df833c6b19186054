import Derived.Test.YtigaphnafnpfnaaGreatDoorGC5
import Derived.Laws.RangeString
import Derived.LoopN
set_option linter.unusedVariables false
set_option linter.unusedSimpArgs false
namespace Go.Proofs.YtigaphnafnpfnaaGreatDoor
open Go.RowKit Go.Maps Go.Lib
attribute [local go_sem ↓] Go.wp_at_zero Go.wp_at_succ

theorem run_next_dec {P : Program} (w : World) (s : ByteArray) (pos c n : Nat) (ty : TypeId) (h : pos < s.size) (hd : Utf8.decode s pos = (c, n)) :
    (Instr.next (.pointer (some ⟨w.heap.size, 0, none⟩)) true ty).run P (w.iter s pos) =
      .ok (.tuple #[.bool true, .int .i64 pos, .int .i32 c]) (w.iter s (pos + n)) := by
  simp only [Instr.next, getObj, setObj, Sem.run_bind, Sem.run, World.iter_heap, Result.andThen, h, if_true, hd, World.iter_set]
  simp [goInt, Sem.run, World.iter_heap, World.iter_set]

def sa : ByteArray := ⟨#[97]⟩
def sA : ByteArray := ⟨#[65]⟩
def sG : ByteArray := ⟨#[206, 145, 206, 169]⟩

theorem isLetter_a (w : World) : Calls Tryz.prog 85 #[.int .i32 97] w fun e w' => e = .returned (.bool false) ∧ w' = w := by
  go_enter Tryz.func85, Tryz.ntmps85
  go_wp2
  go_ret
  exact ⟨by simp, rfl⟩
theorem isLetter_A (w : World) : Calls Tryz.prog 85 #[.int .i32 65] w fun e w' => e = .returned (.bool true) ∧ w' = w := by
  go_enter Tryz.func85, Tryz.ntmps85
  go_wp2
  go_ret
  exact ⟨by simp, rfl⟩
theorem isLetter_G (w : World) : Calls Tryz.prog 85 #[.int .i32 913] w fun e w' => e = .returned (.bool true) ∧ w' = w := by
  go_enter Tryz.func85, Tryz.ntmps85
  go_wp2
  go_ret
  exact ⟨by simp, rfl⟩
theorem isLetter_O (w : World) : Calls Tryz.prog 85 #[.int .i32 937] w fun e w' => e = .returned (.bool true) ∧ w' = w := by
  go_enter Tryz.func85, Tryz.ntmps85
  go_wp2
  go_ret
  exact ⟨by simp, rfl⟩

set_option maxHeartbeats 1000000 in
theorem isName_a (w : World) : Calls Tryz.prog 50 #[.string sa] w fun e w' => e = .returned (.bool false) ∧ Chg Non w w' := by
  have n0 := fun ty => run_next_dec (P := Tryz.prog) w sa 0 97 1 ty (by decide) (by decide)
  go_enter Tryz.func50, Tryz.ntmps50
  go_wp2
  refine wp_loop_rounds 1 ?_
  rw [rounds_succ]
  go_wp2_with fail
  refine (isLetter_a _).mono ?_
  rintro e w' ⟨rfl, rfl⟩
  go_wp2
  go_ret
  exact ⟨rfl, (Chg.refl Non w).alloc _⟩

set_option maxHeartbeats 1000000 in
theorem isName_A (w : World) : Calls Tryz.prog 50 #[.string sA] w fun e w' => e = .returned (.bool true) ∧ Chg Non w w' := by
  have n0 := fun ty => run_next_dec (P := Tryz.prog) w sA 0 65 1 ty (by decide) (by decide)
  have n1 := fun ty => run_next_end (P := Tryz.prog) w sA 1 ty (by decide)
  go_enter Tryz.func50, Tryz.ntmps50
  go_wp2
  refine wp_loop_rounds 2 ?_
  rw [rounds_succ]
  go_wp2_with fail
  refine (isLetter_A _).mono ?_
  rintro e w' ⟨rfl, rfl⟩
  go_wp2
  rw [rounds_succ]
  go_wp2
  go_ret
  exact ⟨by simp, (Chg.refl Non w).alloc _⟩

set_option maxHeartbeats 1000000 in
theorem isName_G (w : World) : Calls Tryz.prog 50 #[.string sG] w fun e w' => e = .returned (.bool true) ∧ Chg Non w w' := by
  have n0 := fun ty => run_next_dec (P := Tryz.prog) w sG 0 913 2 ty (by decide) (by decide)
  have n1 := fun ty => run_next_dec (P := Tryz.prog) w sG 2 937 2 ty (by decide) (by decide)
  have n2 := fun ty => run_next_end (P := Tryz.prog) w sG 4 ty (by decide)
  go_enter Tryz.func50, Tryz.ntmps50
  go_wp2
  refine wp_loop_rounds 3 ?_
  rw [rounds_succ]
  go_wp2_with fail
  refine (isLetter_G _).mono ?_
  rintro e w' ⟨rfl, rfl⟩
  go_wp2
  rw [rounds_succ]
  go_wp2_with fail
  refine (isLetter_O _).mono ?_
  rintro e w' ⟨rfl, rfl⟩
  go_wp2
  rw [rounds_succ]
  go_wp2
  go_ret
  exact ⟨by simp, (Chg.refl Non w).alloc _⟩

def newBk (s : ByteArray) : Bk := ⟨s, fun _ => none, fun _ => 0, fun _ => 0, fun _ _ => 0, 0⟩

theorem bookNew_any (s : ByteArray) (w : World) : Calls Tryz.prog 52 #[.string s] w fun e w' => e = .returned (.pointer (some ⟨w.heap.size, 0, none⟩)) ∧ Blk w' w.heap.size (newBk s).cells 158 ∧ Chg Non w w' := by
  go_enter Tryz.func52, Tryz.ntmps52
  go_wp2
  go_ret
  exact ⟨rfl, Blk.new w _ _, (Chg.refl Non w).alloc _⟩

def ven0 : Ven := ⟨0, fun _ => 0, fun _ => newBk ⟨#[]⟩, fun _ => ⟨0, 0, ⟨#[]⟩, 0, 0, 0, 0, 0, 0, 0, 0, 0, 0⟩, fun _ => none, 0, ⟨[], [], 1, 0, []⟩, ⟨.slice none 0 0, .slice none 0 0, [], .slice none 0 0, [], .slice none 0 0, []⟩⟩

set_option maxHeartbeats 1000000 in
theorem new_any (w : World) : Calls Tryz.prog 34 #[] w fun e w' => ∃ bv bm bo, e = .returned (.pointer (some ⟨bv, 0, none⟩)) ∧ Rep w' bv bm bo ven0 ∧ Chg Non w w' ∧ w.heap.size ≤ bv ∧ w.heap.size ≤ bm ∧ w.heap.size ≤ bo := by
  have hmm := @run_makeMap Tryz.prog
  go_enter Tryz.func34, Tryz.ntmps34
  go_wp2
  go_ret
  refine ⟨w.heap.size + 1 + 1, w.heap.size, w.heap.size + 1, ?_, ?_, ?_, by omega, by omega, by omega⟩
  · rfl
  · have m1 : MapP (((w.alloc (.map #[] 0)).alloc (.map #[] 0)).alloc (.cells #[.map (some w.heap.size), .map (some (w.heap.size + 1)), .slice none 0 0, .slice none 0 0, .int .i64 1, .slice none 0 0, .slice none 0 0] 100)) 9 w.heap.size (fun _ => none) 0 := ((MapP.made w 9).kept ((Chg.refl Non _).alloc _) (fun x => x)).kept ((Chg.refl Non _).alloc _) (fun x => x)
    have m2 : MapP (((w.alloc (.map #[] 0)).alloc (.map #[] 0)).alloc (.cells #[.map (some w.heap.size), .map (some (w.heap.size + 1)), .slice none 0 0, .slice none 0 0, .int .i64 1, .slice none 0 0, .slice none 0 0] 100)) 3 (w.heap.size + 1) (fun _ => none) 0 := by
      have h := (MapP.made (w.alloc (.map #[] 0)) 3).kept ((Chg.refl Non _).alloc (.cells #[.map (some w.heap.size), .map (some (w.heap.size + 1)), .slice none 0 0, .slice none 0 0, .int .i64 1, .slice none 0 0, .slice none 0 0] 100)) (fun x => x)
      have e : (w.alloc (.map #[] 0)).heap.size = w.heap.size + 1 := by simp
      rw [e] at h
      exact h
    have m3 : Blk (((w.alloc (.map #[] 0)).alloc (.map #[] 0)).alloc (.cells #[.map (some w.heap.size), .map (some (w.heap.size + 1)), .slice none 0 0, .slice none 0 0, .int .i64 1, .slice none 0 0, .slice none 0 0] 100)) (w.heap.size + 1 + 1) (venC w.heap.size (w.heap.size + 1) ven0.lm ven0.lg.day) 100 := by
      have h := Blk.new1 (w.alloc (.map #[] 0)) (.map #[] 0) (venC w.heap.size (w.heap.size + 1) ven0.lm ven0.lg.day) 100
      have e : (w.alloc (.map #[] 0)).heap.size = w.heap.size + 1 := by simp
      rw [e] at h
      exact h
    exact ⟨⟨m3, ⟨World.ownsRow_nil _ _ _ _, World.ownsRow_nil _ _ _ _, rfl, fun i b g h => by simp [ven0] at h, List.nodup_nil, ⟨World.ownsRow_nil _ _ _ _, fun a ha => by simp [ven0] at ha, List.nodup_nil, rfl, fun a ha => by simp [ven0] at ha⟩, World.ownsRow_nil _ _ _ _, Nat.zero_le _⟩⟩, ⟨_, m1, fun i hi => absurd hi (Nat.not_lt_zero i), fun s b h => by simp at h⟩, ⟨_, m2, fun _ => rfl⟩, by omega, fun i hi => absurd hi (Nat.not_lt_zero i), fun id b h => by simp [ven0] at h, fun i hi => absurd hi (Nat.not_lt_zero i), fun i j hi => absurd hi (Nat.not_lt_zero i), fun i j hi => absurd hi (Nat.not_lt_zero i), Nat.zero_le _⟩
  · exact (((Chg.refl Non w).alloc _).alloc _).alloc _

/-- isName says b of s -/
def NameSays (s : ByteArray) (b : Bool) : Prop := ∀ w, Calls Tryz.prog 50 #[.string s] w fun e w' => e = .returned (.bool b) ∧ Chg Non w w'

set_option maxHeartbeats 1000000 in
theorem list_name (bv : Nat) (s : ByteArray) (w : World) (hn : NameSays s false) : Calls Tryz.prog 27 #[.pointer (some ⟨bv, 0, none⟩), .string s] w fun e w' => e = .returned (.int .i64 3) ∧ Chg Non w w' := by
  go_enter Tryz.func27, Tryz.ntmps27
  go_wp2_with fail
  refine (hn _).mono ?_
  rintro e w' ⟨rfl, k⟩
  go_wp2
  go_ret
  exact ⟨rfl, ((Chg.refl Non w).alloc _).trans k⟩

set_option maxHeartbeats 1000000 in
theorem list_taken (bv bm bo i : Nat) (V : Ven) (s : ByteArray) (w : World) (R : Rep w bv bm bo V) (hn : NameSays s true) (hlen : s.size ≤ maxLen) (hi : i < V.nb) (hs : (V.B i).sym = s) : Calls Tryz.prog 27 #[.pointer (some ⟨bv, 0, none⟩), .string s] w fun e w' => e = .returned (.int .i64 2) ∧ Chg Non w w' := by
  obtain ⟨fB, mB, fB1, fB2⟩ := R.books
  have hl := fB1 i hi
  rw [hs] at hl
  have HL := hide hl
  have hK : ∀ w', Chg Non w w' → (Instr.lookup 94 (.map (some bm)) (.string s) false).run Tryz.prog w' = .ok (.pointer (some ⟨V.bk i, 0, none⟩)) w' ∧ w'.cell? ⟨bv, 0, none⟩ = some (.map (some bm)) := fun w' k => by
    refine ⟨?_, (k.blk R.ven (fun x => x)).cell 0⟩
    rw [(mB.kept k (fun x => x)).look law9 Tryz.underlying94 (zero70 _) (WideMaps.keyOf_string_mk Tryz.underlying9 hlen)]
    show _ = Result.ok (ptrO (some (V.bk i))) _
    rw [← unhide HL]; rfl
  have HK := hide hK
  clear hl hK hs mB fB1 fB2
  go_enter Tryz.func27, Tryz.ntmps27
  go_wp2_with fail
  refine (hn _).mono ?_
  rintro e w1 ⟨rfl, k⟩
  have xb : w1.cell? ⟨w.heap.size, 0, none⟩ = some (.pointer (some ⟨bv, 0, none⟩)) := (k.blk (Blk.new w #[.pointer (some ⟨bv, 0, none⟩)] 35) (fun x => x)).cell 0
  have k0 := ((Chg.refl Non w).alloc (.cells #[.pointer (some ⟨bv, 0, none⟩)] 35)).trans k
  obtain ⟨L1, v0⟩ := unhide HK w1 k0
  go_wp2
  go_ret
  exact ⟨rfl, k0⟩

def Ven.list (V : Ven) (s : ByteArray) (b : Nat) : Ven := { V with nb := V.nb + 1, bk := upd V.bk V.nb b, B := upd V.B V.nb (newBk s) }

theorem newBk_sd (s : ByteArray) (x b : Nat) : ¬ SdB (newBk s) x b := by
  rintro (h | ⟨k, hk, _⟩)
  · simp [newBk, adB] at h
  · exact absurd hk (Nat.not_lt_zero k)

theorem Rep.list {w w' : World} {bv bm bo b : Nat} {V : Ven} {s : ByteArray} (R : Rep w bv bm bo V) (hb : w.heap.size ≤ b) (hblk : Blk w' b (newBk s).cells 158) (k : Chg (fun x => x = bm) w w') (hfree : ∀ i, i < V.nb → (V.B i).sym ≠ s)
    (mB : ∃ fB, MapP w' 9 bm fB (V.nb + 1) ∧ fB (sl s) = some b ∧ ∃ fB0, MapP w 9 bm fB0 V.nb ∧ (∀ i, i < V.nb → fB0 (sl (V.B i).sym) = some (V.bk i)) ∧ (∀ s b, fB0 (sl s) = some b → ∃ i, i < V.nb ∧ b = V.bk i ∧ (V.B i).sym = s) ∧ ∀ s', s' ≠ s → fB (sl s') = fB0 (sl s')) :
    Rep w' bv bm bo (V.list s b) := by
  obtain ⟨fB, mB', f1, fB0, mB0, g1, g2, f2⟩ := mB
  obtain ⟨fO, mO, fO1⟩ := R.orders
  have ne : ∀ {b' : Nat} {c : Array Value} {t : TypeId}, Blk w b' c t → Blk w' b' c t := fun h => k.blk h (Ne.symm (mB0.ne h))
  have bk : ∀ i, i < V.nb → IsBook w' (V.bk i) (V.B i) V.om := fun i hi => (R.book i hi).kept k (by
    rintro x (rfl | ⟨y, hy, h⟩) e
    · exact mB0.ne (R.book i hi).blk e.symm
    · rcases h with h | ⟨l, hl, rfl⟩
      · rcases ((R.book i hi).side y hy) with ⟨h0, _⟩ | ⟨ab, hab, hsd⟩
        · rw [h0] at h; simp [adB] at h
        · obtain ⟨cs, hcs, _⟩ := hsd.arr
          rw [hab] at h
          simp [adB] at h
          rw [h] at hcs
          exact mB0.ne hcs e.symm
      · exact mB0.ne (((R.book i hi).side y hy).ords hl) e.symm)
  have lt : ∀ i, i < V.nb → V.bk i < w.heap.size := fun i hi => (R.book i hi).blk.lt
  refine ⟨R.log.kept k (Ne.symm (mB0.ne R.ven)) (fun y hy e => by
    obtain ⟨c, t', hc, _⟩ := R.log.log.typ hy
    exact mB0.ne hc e.symm), ⟨fB, mB', ?_, ?_⟩, ⟨fO, mO.kept k (fun e => R.mne e.symm), fO1⟩, R.mne, ?_, ?_, ?_, ?_, ?_, R.no200⟩
  · intro i hi
    by_cases e : i = V.nb
    · subst e; simp only [Ven.list, upd_same]; exact f1
    · have hi' : i < V.nb := by simp only [Ven.list] at hi; omega
      simp only [Ven.list, upd_other _ _ e]
      rw [f2 _ (hfree i hi')]
      exact g1 i hi'
  · intro s' b' h
    by_cases e : s' = s
    · subst e
      rw [f1] at h
      simp only [Option.some.injEq] at h
      exact ⟨V.nb, by simp [Ven.list], by simp only [Ven.list, upd_same]; exact h.symm, by simp only [Ven.list, upd_same]; rfl⟩
    · rw [f2 _ e] at h
      obtain ⟨i, hi, h1, h2⟩ := g2 s' b' h
      have : i ≠ V.nb := by omega
      exact ⟨i, by simp only [Ven.list]; omega, by simp only [Ven.list, upd_other _ _ this]; exact h1, by simp only [Ven.list, upd_other _ _ this]; exact h2⟩
  · intro i hi
    by_cases e : i = V.nb
    · subst e
      simp only [Ven.list, upd_same]
      exact ⟨hblk, fun y hy => .inl ⟨rfl, rfl, rfl⟩, fun a h => by simp [newBk, adB] at h, fun l j hl => absurd hl (Nat.not_lt_zero l)⟩
    · have hi' : i < V.nb := by simp only [Ven.list] at hi; omega
      simp only [Ven.list, upd_other _ _ e]
      exact bk i hi'
  · intro id x h
    obtain ⟨h1, ix, h2⟩ := R.ords id x h
    exact ⟨h1, ix, ne h2⟩
  · intro i hi y hy l hl
    by_cases e : i = V.nb
    · subst e; simp only [Ven.list, upd_same] at hl; exact absurd hl (Nat.not_lt_zero l)
    · have hi' : i < V.nb := by simp only [Ven.list] at hi; omega
      simp only [Ven.list, upd_other _ _ e] at hl ⊢
      exact R.mem i hi' y hy l hl
  · intro i j hi hj hne
    simp only [Ven.list] at hi hj ⊢
    by_cases e : i = V.nb
    · have e2 : j ≠ V.nb := by omega
      rw [e, upd_same, upd_other _ _ e2]
      have := lt j (by omega)
      omega
    · rw [upd_other _ _ e]
      by_cases e2 : j = V.nb
      · rw [e2, upd_same]
        have := lt i (by omega)
        omega
      · rw [upd_other _ _ e2]
        exact R.sepb i j (by omega) (by omega) hne
  · intro i j hi hj hne x y hx hy z h1 h2
    simp only [Ven.list] at hi hj h1 h2
    by_cases e : i = V.nb
    · rw [e, upd_same] at h1; exact newBk_sd s x z h1
    · by_cases e2 : j = V.nb
      · rw [e2, upd_same] at h2; exact newBk_sd s y z h2
      · rw [upd_other _ _ e] at h1
        rw [upd_other _ _ e2] at h2
        exact R.seps i j (by omega) (by omega) hne x y hx hy z h1 h2

end Go.Proofs.YtigaphnafnpfnaaGreatDoor

