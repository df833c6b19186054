import Derived.Test.YtigaphnafnpfnaaGreatDoorHR1
import Derived.Test.YtigaphnafnpfnaaGreatDoorHP7
import Derived.Test.YtigaphnafnpfnaaGreatDoorHU2
import Derived.Test.YtigaphnafnpfnaaGreatDoorHT7
import Derived.Test.YtigaphnafnpfnaaGreatDoorHQ2
import Derived.Deep.QuietTactic
import Derived.BigQuiet
/- What is filled by symbol and side is what the trades that hold have. Without memory. -/
set_option linter.unusedVariables false
set_option linter.unusedSimpArgs false
namespace Go.Proofs.YtigaphnafnpfnaaGreatDoor

def sumN (f : Nat → Int) : Nat → Int
  | 0 => 0
  | n + 1 => sumN f n + f n

theorem sumN_add (f g : Nat → Int) (n : Nat) : sumN (fun i => f i + g i) n = sumN f n + sumN g n := by
  induction n with
  | zero => rfl
  | succ n ih => simp only [sumN, ih]; omega
theorem sumN_congr {f g : Nat → Int} {n : Nat} (h : ∀ i, i < n → f i = g i) : sumN f n = sumN g n := by
  induction n with
  | zero => rfl
  | succ n ih => simp only [sumN]; rw [ih (fun i hi => h i (by omega)), h n (by omega)]
theorem sumN_zero {f : Nat → Int} {n : Nat} (h : ∀ i, i < n → f i = 0) : sumN f n = 0 := by
  induction n with
  | zero => rfl
  | succ n ih => simp only [sumN]; rw [ih (fun i hi => h i (by omega)), h n (by omega)]; rfl
theorem sumN_single {f : Nat → Int} {n j : Nat} (hj : j < n) (h : ∀ i, i < n → i ≠ j → f i = 0) : sumN f n = f j := by
  induction n with
  | zero => omega
  | succ n ih =>
    simp only [sumN]
    by_cases e : j = n
    · subst e
      rw [sumN_zero (fun i hi => h i (by omega) (by omega))]; omega
    · rw [ih (by omega) (fun i hi hne => h i (by omega) hne), h n (by omega) (by omega)]; omega
theorem sumN_swap (g : Nat → Tr → Int) (n : Nat) (hl : List Tr) : sumN (fun i => sumT (g i) hl) n = sumT (fun t => sumN (fun i => g i t) n) hl := by
  induction hl with
  | nil => exact sumN_zero (fun i _ => rfl)
  | cons t l ih =>
    simp only [sumT]
    rw [sumN_add, ih]

/-- which two of the four sides a trade is of -/
def symK (t : Tr) : Nat := if t.sym = sG then 2 else 0
/-- what a trade has of one of the four sides -/
def hasT (k : Nat) (t : Tr) : Int := if symK t = k - k % 2 then t.qty else 0
/-- what is filled of side k, of the first i orders -/
def fillS (V : Ven) (k : Nat) (i : Nat) : Int := sumN (fun i => if sideK (V.om (ob V i)) = k then (V.om (ob V i)).filled else 0) i
theorem fillS_succ (V : Ven) (k i : Nat) : fillS V k (i + 1) = fillS V k i + (if sideK (V.om (ob V i)) = k then (V.om (ob V i)).filled else 0) := rfl

theorem fillS_bound {V : Ven} {n : Nat} {M : Int} (h : GV V n M) (hM : M ≤ 1000000) {k : Nat} : ∀ i, i ≤ n → 0 ≤ fillS V k i ∧ fillS V k i ≤ 1000000 * i := by
  intro i
  induction i with
  | zero => intro _; simp [fillS, sumN]
  | succ i ih =>
    intro hi
    have h1 := ih (by omega)
    have q := h.q _ ⟨_, h.ob (j := i) (by omega)⟩
    have := q.sum; have := q.o0; have := q.f0; have := q.c0; have := q.e0; have := q.hi
    rw [fillS_succ]
    push_cast
    split <;> omega

theorem fillS_eq {V : Ven} {n : Nat} {M : Int} (h : GV V n M) (av : AV V) {k : Nat} (hk : k < 4) : fillS V k n = sumT (hasT k) (held V.lg.tr) := by
  obtain ⟨hl, hhl⟩ : ∃ hl, held V.lg.tr = hl := ⟨_, rfl⟩
  have fl := av.fl
  rw [hhl] at fl ⊢
  have e1 : fillS V k n = sumN (fun i => sumT (fun t => if sideK (V.om (ob V i)) = k then tq (V.om (ob V i)).side ((i : Int) + 1) t else 0) hl) n := by
    unfold fillS
    refine sumN_congr (fun i hi => ?_)
    by_cases c : sideK (V.om (ob V i)) = k
    · simp only [if_pos c]
      have := fl.eq _ _ (h.ob hi)
      rw [this]; exact Int.add_zero _
    · simp only [if_neg c]
      rw [sumT_zero (fun t _ => rfl)]
  rw [e1, sumN_swap (fun i t => if sideK (V.om (ob V i)) = k then tq (V.om (ob V i)).side ((i : Int) + 1) t else 0)]
  refine sumT_congr (fun t ht => ?_)
  obtain ⟨⟨bx, b1, b2, b3⟩, ⟨sx, s1, s2, s3⟩, _⟩ := fl.tw t ht
  have at_ : ∀ {id : Int} {x : Nat}, V.oid id = some x → ∃ j : Nat, j < n ∧ id = (j : Int) + 1 ∧ ob V j = x := fun {id x} hx => by
    have hb := (h.oid id).1 ⟨x, hx⟩
    refine ⟨(id - 1).toNat, by omega, by omega, ?_⟩
    have e := h.ob (j := (id - 1).toNat) (by omega)
    have e2 : (((id - 1).toNat : Nat) : Int) + 1 = id := by omega
    rw [e2, hx] at e
    exact (Option.some.inj e).symm
  have side2 : ∀ i, i < n → (V.om (ob V i)).side = 0 ∨ (V.om (ob V i)).side = 1 := fun i hi => h.side _ ⟨_, h.ob hi⟩
  have sk : ∀ o : Ord, (o.side = 0 ∨ o.side = 1) → sideK o = k → (k % 2 = 0 → o.side = 0) ∧ (k % 2 = 1 → o.side = 1) := fun o ho e => by
    unfold sideK at e
    rcases ho with ho | ho <;> rw [ho] at e
    · refine ⟨fun _ => ho, fun hk2 => ?_⟩
      exfalso; revert e; split <;> (intro e; simp at e; omega)
    · refine ⟨fun hk2 => ?_, fun _ => ho⟩
      exfalso; revert e; split <;> (intro e; simp at e; omega)
  by_cases hp : k % 2 = 0
  · obtain ⟨j, hj, ej, eb⟩ := at_ b1
    rw [sumN_single hj (fun i hi hne => ?_)]
    · simp only [eb, b3, tq]
      have e : sideK (V.om bx) = symK t := by unfold sideK symK; rw [b3, b2]; simp
      rw [e, ← ej, hasT, hp, Nat.sub_zero]
      simp
    · by_cases c : sideK (V.om (ob V i)) = k
      · simp only [if_pos c, tq, (sk _ (side2 i hi) c).1 hp, if_true]
        rw [if_neg (by omega)]
      · simp only [if_neg c]
  · have hp1 : k % 2 = 1 := by omega
    obtain ⟨j, hj, ej, eb⟩ := at_ s1
    rw [sumN_single hj (fun i hi hne => ?_)]
    · simp only [eb, s3, tq]
      have e : sideK (V.om sx) = 1 + symK t := by unfold sideK symK; rw [s3, s2]; simp
      rw [e, ← ej, hasT, hp1]
      have e2 : (1 + symK t = k) ↔ (symK t = k - 1) := by omega
      simp [e2]
    · by_cases c : sideK (V.om (ob V i)) = k
      · simp only [if_pos c, tq, (sk _ (side2 i hi) c).2 hp1]
        rw [if_neg (by decide), if_neg (by omega)]
      · simp only [if_neg c]

end Go.Proofs.YtigaphnafnpfnaaGreatDoor

/- Amends: the loop -/
set_option linter.unusedVariables false
set_option linter.unusedSimpArgs false
namespace Go.Proofs.YtigaphnafnpfnaaGreatDoor
open Go.RowKit Go.Maps
attribute [local go_sem ↓] Go.wp_at_zero Go.wp_at_succ

theorem AV.start (b1 b2 : Nat) (lmv : Lm) : AV (VG b1 b2 lmv) := by
  refine ⟨Told.start, ⟨fun t ht => ?_, fun id b h => ?_, fun id b h => ?_⟩, fun r hr => ?_⟩
  · simp [VG, held] at ht
  · exact absurd h (by simp [VG, Ven.list, ven0])
  · exact absurd h (by simp [VG, Ven.list, ven0])
  · simp [VG] at hr

theorem AP.start (b1 b2 : Nat) (lmv : Lm) : AP (VG b1 b2 lmv) 2 0 := ⟨AV.start b1 b2 lmv, (by show (0 : Int) ≤ 1; omega), (by show (1 : Int) ≤ 2; omega), Nat.zero_le _⟩

/-- what holds at the head of the loop -/
def ALoop (D : Nat) (ao : Option Addr) (len cap : Nat) (zs : Nat → Int) (w0 : World) (P bv bm bo i : Nat) (w : World) : Prop :=
  ∃ V n acts, n ≤ i ∧ 0 ≤ acts ∧ acts ≤ 2 + (i : Int) ∧ Ply D ao len cap zs w0 P bv bm bo V n (2 + 101 * i) (9 + 9 * (i : Int)) acts w ∧ AP V (2 + 101 * i) 0

/-- a picture and four sums -/
structure Fi (f : Nat → Int) (A K T : Value) (w1 W : World) : Prop where
  chg : Chg Non w1 W
  pic : Blk W w1.heap.size #[A, K, T] 47
  arr : Blk W (w1.heap.size + 1) #[.int .i64 (f 0), .int .i64 (f 1), .int .i64 (f 2), .int .i64 (f 3)] 50

theorem Fi.congr {f g : Nat → Int} {A K T : Value} {w1 W : World} (h : Fi f A K T w1 W) (e : ∀ k, k < 4 → f k = g k) : Fi g A K T w1 W := by
  refine ⟨h.chg, h.pic, ?_⟩
  rw [← e 0 (by omega), ← e 1 (by omega), ← e 2 (by omega), ← e 3 (by omega)]
  exact h.arr

theorem Fi.put {f : Nat → Int} {A K T : Value} {w1 W : World} (h : Fi f A K T w1 W) {k : Nat} (hk : k < 4) {v x : Int} (hv : v = x) : Fi (fun j => if j = k then x else f j) A K T w1 (W.setCell ⟨w1.heap.size + 1, k, none⟩ (.int .i64 v)) := by
  subst hv
  refine ⟨h.chg.setCell (p := ⟨w1.heap.size + 1, k, none⟩) (.inr (by simp)) _, h.pic.other (by simp) _, ?_⟩
  have hB := h.arr.set k (.int .i64 v)
  have : k = 0 ∨ k = 1 ∨ k = 2 ∨ k = 3 := by omega
  rcases this with rfl | rfl | rfl | rfl <;> simpa using hB

theorem Fi.drew {f : Nat → Int} {A K T : Value} {w1 W : World} (h : Fi f A K T w1 W) : Fi f A K T w1 W.drew := ⟨h.chg.drew, h.pic.drew, h.arr.drew⟩

theorem Fi.cellk {f : Nat → Int} {A K T : Value} {w1 W : World} (h : Fi f A K T w1 W) {k : Nat} (hk : k < 4) : W.cell? ⟨w1.heap.size + 1, k, none⟩ = some (.int .i64 (f k)) := by
  have : k = 0 ∨ k = 1 ∨ k = 2 ∨ k = 3 := by omega
  rw [h.arr.cell k]
  rcases this with rfl | rfl | rfl | rfl <;> rfl

/-- a step, and what is looked at behind it -/
theorem astep {D : Nat} {ao : Option Addr} {len cap : Nat} {zs : Nat → Int} {w0 : World} {P bv bm bo i : Nat} {V : Ven} {n : Nat} {acts : Int} {w : World} (h1 : n ≤ i) (h2 : 0 ≤ acts) (h3 : acts ≤ 2 + (i : Int)) (hp : Ply D ao len cap zs w0 P bv bm bo V n (2 + 101 * i) (9 + 9 * (i : Int)) acts w) (ap : AP V (2 + 101 * i) 0) (hi : i < 60) :
    Calls Tryz.prog 15 #[.pointer (some ⟨P, 0, none⟩), .pointer (some ⟨D, 0, none⟩), .bool true] w fun e w' => e = .returned (.bool true) ∧ ∃ V' n' acts', n' ≤ i + 1 ∧ 0 ≤ acts' ∧ acts' ≤ 2 + ((i + 1 : Nat) : Int) ∧ Ply D ao len cap zs w0 P bv bm bo V' n' (2 + 101 * (i + 1)) (9 + 9 * ((i + 1 : Nat) : Int)) acts' w' ∧ AP V' (2 + 101 * (i + 1)) V.lg.tp.length := by
  refine (stepA_any D ao len cap zs w0 P bv bm bo V n _ _ acts w hp V.lg.tp.length ⟨ap.1, ap.2.1, ap.2.2.1, Nat.le_refl _⟩ (order_ok D ao len cap zs _ P bv n (by omega)) (by omega) (by omega) (by omega) (by omega) h2 (by omega)).mono ?_
  rintro e w' ⟨rfl, V', n', acts', a, b, c, hp', ap'⟩
  refine ⟨rfl, V', n', acts', by omega, b, by push_cast; omega, ?_, ?_⟩
  · have e1 : 2 + 101 * i + 101 = 2 + 101 * (i + 1) := by omega
    have e2 : 9 + 9 * (i : Int) + 9 = 9 + 9 * ((i + 1 : Nat) : Int) := by push_cast; omega
    rw [e1, e2] at hp'
    exact hp'
  · exact ap'.mono (by omega)

/-- Tape, of a player's venue -/
theorem atape {D : Nat} {ao : Option Addr} {len cap : Nat} {zs : Nat → Int} {w0 : World} {P bv bm bo : Nat} {V : Ven} {n K l L : Nat} {M acts : Int} {w : World} (hp : Ply D ao len cap zs w0 P bv bm bo V n K M acts w) (ap : AP V K l) (hK : K ≤ 1000000) (hL : V.lg.tp.length = L) :
    Calls Tryz.prog 17 #[.pointer (some ⟨bv, 0, none⟩), .int .i64 0] w fun e w' => ∃ a c, e = .returned (.slice a L c) ∧ w'.ownsRow w.heap.size 62 9 (.slice a V.lg.tp.length c) V.lg.tp.length (flatR V.lg.tp) ∧ Chg Non w w' := by
  refine (tape_any bv bm bo 0 0 V.lg V.lm w hp.rep.log ap.1.ty (Nat.le_trans hp.lens.1 hK) (.inl ⟨rfl, rfl⟩) (by omega)).mono ?_
  rintro e w' ⟨a, c, rfl, hr, k⟩
  rw [List.drop_zero] at hr ⊢
  rw [hL] at hr ⊢
  exact ⟨a, c, rfl, hr, k⟩

theorem atail {D : Nat} {ao : Option Addr} {len cap : Nat} {zs : Nat → Int} {w0 : World} {P bv bm bo : Nat} {V : Ven} {n K l L T : Nat} {M acts : Int} {w : World} (hp : Ply D ao len cap zs w0 P bv bm bo V n K M acts w) (ap : AP V K l) (hK : K ≤ 1000000) (hL : V.lg.tp.length = L + T) :
    Calls Tryz.prog 17 #[.pointer (some ⟨bv, 0, none⟩), .int .i64 ((L : Int) + 1)] w fun e w' => ∃ a c, e = .returned (.slice a T c) ∧ Chg Non w w' := by
  have hb : V.lg.tp.length ≤ 1000000 := Nat.le_trans hp.lens.1 hK
  refine (tape_any bv bm bo L ((L : Int) + 1) V.lg V.lm w hp.rep.log ap.1.ty hb (.inr rfl) (by omega)).mono ?_
  rintro e w' ⟨a, c, rfl, hr, k⟩
  have e : (V.lg.tp.drop L).length = T := by rw [List.length_drop]; omega
  rw [e]
  exact ⟨a, c, rfl, k⟩

/-- folded, Trades, sameTrades -/
theorem afold {V : Ven} {K l b0 c : Nat} {a : Option Addr} {w : World} (ap : AP V K l) (hlen : V.lg.tp.length ≤ 1000000) (hr : w.ownsRow b0 62 9 (.slice a V.lg.tp.length c) V.lg.tp.length (flatR V.lg.tp)) {L : Nat} (hL : V.lg.tp.length = L) :
    Calls Tryz.prog 18 #[.slice a L c] w fun e w' => ∃ a' c', e = .returned (.tuple #[.slice a' (held V.lg.tr).length c', .bool true]) ∧ TRow w' w.heap.size a' c' (held V.lg.tr) ∧ Chg Non w w' := by
  subst hL
  exact folded_any b0 c a V.lg.tp (held V.lg.tr) w hr ap.1.told.fold hlen

set_option maxHeartbeats 8000000 in
set_option maxRecDepth 100000 in
theorem amends_all (ao : Option Addr) (len cap : Nat) (zs : Nat → Int) (w : World) (hT : Tab w) (hcode : Code w ao len zs) (hold : 0 < len → ∀ a, ao = some a → a.block < w.heap.size) :
    Calls Tryz.prog 10 #[.slice ao len cap] w fun e w' => e = .returned (.bool true) ∧ Below w.heap.size w w' := by
  have HBg := hide (begun_any (w.alloc (.cells #[.slice ao len cap, .int .i64 0] 28)))
  have HC := hide hcode
  have HO := hide hold
  have HTb := hide hT
  clear hcode hold hT
  go_enter Tryz.func10, Tryz.ntmps10
  go_wp2_with fail
  refine (unhide HBg).mono ?_
  rintro e w1 ⟨P, bv, bm, bo, b1, b2, lmv, rfl, hP, R, k, hf, hp⟩
  have hs : (w.alloc (.cells #[.slice ao len cap, .int .i64 0] 28)).heap.size = w.heap.size + 1 := by simp
  have k0 : Chg Non w w1 := Chg.trans ((Chg.refl Non w).alloc _) k
  have hL : ALoop w.heap.size ao len cap zs w P bv bm bo 0 w1 := by
    refine ⟨_, 0, 2, Nat.le_refl _, by omega, by omega, ⟨R, GV.start b1 b2 lmv, LenOK.start b1 b2 lmv, hP, ⟨⟨0, Nat.zero_le _, k.blk (Blk.new w _ _) (fun x => x)⟩, (unhide HC).at k0 (fun _ _ _ x => x), unhide HO, Nat.le_refl _, (unhide HTb).kept0 k0, (unhide HTb).lt⟩, fun x hx => ?_, ?_, k0.below⟩, AP.start b1 b2 lmv⟩
    · have := hf x hx; omega
    · omega
  have HL := hide hL
  clear hP R k hf hp hs k0 hL HBg
  go_wp2
  go_loopg [5, 6, 7] 60 (fun g iv _ _ wq => ∃ i : Nat, iv = .int .i64 (i : Int) ∧ i ≤ 60 ∧ g = 60 - i ∧ ALoop w.heap.size ao len cap zs w P bv bm bo i wq)
  case atStart => exact ⟨0, rfl, Nat.zero_le _, rfl, unhide HL⟩
  case round =>
    obtain ⟨i, rfl, hi, hgk, V, n, acts, h1, h2, h3, hp, ap⟩ := hrel
    have hdc : ∃ at_ : Nat, wr.cell? ⟨w.heap.size, 0, none⟩ = some (.slice ao len cap) ∧ wr.cell? ⟨w.heap.size, 1, none⟩ = some (.int .i64 (at_ : Int)) := by
      obtain ⟨a, _, hb⟩ := hp.dc.dice
      exact ⟨a, hb.cell 0, hb.cell 1⟩
    obtain ⟨at_, d0, d1⟩ := hdc
    have p0 : wr.cell? ⟨P, 0, none⟩ = some (.pointer (some ⟨bv, 0, none⟩)) := hp.ply.cell 0
    have HPl := hide hp
    have HAp := hide ap
    clear hp ap HL
    by_cases hgo : i < 60 ∧ at_ < len
    · obtain ⟨h60, hat⟩ := hgo
      have e1 : decide ((i : Int) < 60) = true := by simp; omega
      have e2 : decide ((at_ : Int) < (len : Int)) = true := by simp; omega
      obtain ⟨L, hL⟩ : ∃ L, V.lg.tp.length = L := ⟨_, rfl⟩
      have HLe := hide hL
      clear hL
      go_wp2
      go_quiet (fail)
      go_wp2_with fail
      have hp1 := (unhide HPl).keep ((Chg.refl Non wr).drewN nq)
      refine (atape hp1 (unhide HAp) (by omega) (unhide HLe)).mono ?_
      rintro e w2 ⟨ta, tc, rfl, _, k2⟩
      have hLb : L ≤ 1000000 := by rw [← unhide HLe]; exact Nat.le_trans hp1.lens.1 (by omega)
      have HP2 := hide (hp1.keep k2)
      clear hp1 k2 d0 d1 p0 HPl
      go_wp2_with fail
      refine (astep h1 h2 h3 (unhide HP2) (unhide HAp) h60).mono ?_
      rintro e w3 ⟨rfl, V', n', acts', a1, a2, a3, hp3, ap3⟩
      obtain ⟨T, hT⟩ : ∃ T, V'.lg.tp.length = L + T := ⟨V'.lg.tp.length - L, by have := ap3.2.2.2; rw [unhide HLe] at this; omega⟩
      have hTb : L + T ≤ 1000000 := by rw [← hT]; exact Nat.le_trans hp3.lens.1 (by omega)
      have HT := hide hT
      have HP3 := hide hp3
      have HA3 := hide ap3
      clear hT hp3 ap3 HP2
      go_wp2_with fail
      refine (counted_any bv bm bo P n' V' _ acts' w3 (unhide HP3).rep (unhide HP3).gv (by omega) (by omega) ((unhide HP3).lens.mono (by omega)) (unhide HP3).ply).mono ?_
      rintro e w4 ⟨rfl, k4⟩
      have hp4 := (unhide HP3).keep k4
      have q0 : w4.cell? ⟨P, 0, none⟩ = some (.pointer (some ⟨bv, 0, none⟩)) := hp4.ply.cell 0
      have HP4 := hide hp4
      clear hp4 k4 HP3
      go_wp2_with fail
      refine (atape (unhide HP4) (unhide HA3) (by omega) (unhide HT)).mono ?_
      rintro e w5 ⟨ta5, tc5, rfl, hr5, k5⟩
      have hp5 := (unhide HP4).keep k5
      have q0 : w5.cell? ⟨P, 0, none⟩ = some (.pointer (some ⟨bv, 0, none⟩)) := hp5.ply.cell 0
      have HP5 := hide hp5
      have HR5 := hide hr5
      clear hp5 k5 hr5 HP4
      go_wp2_with fail
      refine (afold (unhide HA3) (by rw [unhide HT]; exact hTb) (unhide HR5) (unhide HT)).mono ?_
      rintro e w6 ⟨la, lc, rfl, hr6, k6⟩
      have hp6 := (unhide HP5).keep k6
      have q0 : w6.cell? ⟨P, 0, none⟩ = some (.pointer (some ⟨bv, 0, none⟩)) := hp6.ply.cell 0
      have HP6 := hide hp6
      have HR6 := hide hr6
      obtain ⟨m, hm⟩ : ∃ m, (held V'.lg.tr).length = m := ⟨_, rfl⟩
      rw [hm]
      have HM := hide hm
      have hmb : m ≤ 1000000 := by
        rw [← hm]
        refine Nat.le_trans ?_ hTb
        rw [← unhide HT]
        obtain ⟨F, F0, Fn, FS⟩ := (unhide HA3).1.told.fold.steps
        have := steps_len F0 FS _ (Nat.le_refl _)
        rw [Fn] at this
        exact this
      clear hp6 k6 hr6 HP5 hm
      have HTr : Hid (Calls Tryz.prog 20 #[.pointer (some ⟨bv, 0, none⟩)] w6 fun e w' => ∃ a c, e = .returned (.slice a m c) ∧ w'.ownsRow w6.heap.size 56 7 (.slice a (held V'.lg.tr).length c) (held V'.lg.tr).length (flatT (held V'.lg.tr)) ∧ Chg Non w6 w') := by
        have := trades_all bv bm bo V'.lg V'.lm w6 (unhide HP6).rep.log (unhide HP6).lens.2.2.1 (Nat.le_trans (unhide HP6).lens.2.1 (by omega))
        rw [unhide HM] at this ⊢
        exact this
      go_wp2_with fail
      refine (unhide HTr).mono ?_
      rintro e w7 ⟨xa, xc, rfl, hr7, k7⟩
      have hp7 := (unhide HP6).keep k7
      have HSm : Hid (Calls Tryz.prog 19 #[.slice la m lc, .slice xa m xc] w7 fun e w' => e = .returned (.bool true) ∧ Chg Non w7 w') := by
        have := same_any w5.heap.size w6.heap.size lc xc la xa (held V'.lg.tr) w7 ((unhide HR6).kept k7 (fun _ _ x => x)) hr7 (by rw [unhide HM]; exact hmb)
        rw [unhide HM] at this
        exact this
      have HP7 := hide hp7
      clear hp7 k7 hr7 HP6 HTr HR6 q0
      go_wp2_with fail
      refine (unhide HSm).mono ?_
      rintro e w8 ⟨rfl, k8⟩
      have hp8 := (unhide HP7).keep k8
      have q0 : w8.cell? ⟨P, 0, none⟩ = some (.pointer (some ⟨bv, 0, none⟩)) := hp8.ply.cell 0
      have HP8 := hide hp8
      clear hp8 k8 HP7 HSm
      go_wp2_with fail
      refine (atail (unhide HP8) (unhide HA3) (by omega) (unhide HT)).mono ?_
      rintro e w9 ⟨ya, yc, rfl, k9⟩
      have HP9 := hide ((unhide HP8).keep k9)
      clear k9 HP8 q0
      go_wp2
      go_roundg (60 - (i + 1))
      case measure => omega
      case rel => exact ⟨i + 1, by push_cast; rfl, by omega, rfl, V', n', acts', a1, a2, a3, unhide HP9, (unhide HA3).1, (unhide HA3).2.1, (unhide HA3).2.2.1, Nat.zero_le _⟩
    · by_cases h60 : i < 60
      · have e1 : decide ((i : Int) < 60) = true := by simp; omega
        have hat : ¬ at_ < len := fun h => hgo ⟨h60, h⟩
        have e2 : decide ((at_ : Int) < (len : Int)) = false := by simp; omega
        clear hgo
        go_wp2
        go_quiet (fail)
        go_wp2_with fail
        have hp1 := (unhide HPl).keep ((Chg.refl Non wr).drewN nq)
        refine (looks_all bv bm bo P n V _ acts _ hp1.rep hp1.gv (by omega) (hp1.lens.mono (by omega)) hp1.ply).mono ?_
        rintro e w2 ⟨oa, oc, ka, kc, ta, tc, vs, rfl, hrt, hro, hrk, hbk, k2⟩
        have hp2 := hp1.keep k2
        have hgv := hp2.gv
        have hav := (unhide HAp).1
        obtain ⟨hl, hhl⟩ : ∃ hl, held V.lg.tr = hl := ⟨_, rfl⟩
        have hfe := fun k (hk : k < 4) => fillS_eq hgv hav hk
        have htw := hav.fl.tw
        rw [hhl] at hrt hfe htw
        rw [hhl]
        obtain ⟨m, hm⟩ : ∃ m, hl.length = m := ⟨_, rfl⟩
        have HM := hide hm
        have HX : Hid (∀ x, x < n → ∃ (go : Nat) (o : Ord), oa = some ⟨go, 0, none⟩ ∧ o = V.om (ob V x) ∧ w2.cell? ⟨go, x * 12 + 2, none⟩ = some (.string o.sym) ∧ w2.cell? ⟨go, x * 12 + 3, none⟩ = some (.int .i64 o.side) ∧ w2.cell? ⟨go, x * 12 + 9, none⟩ = some (.int .i64 o.filled) ∧ (o.side = 0 ∨ o.side = 1) ∧ (o.sym = ⟨#[65]⟩ ∨ o.sym = ⟨#[206, 145, 206, 169]⟩) ∧ 0 ≤ o.filled ∧ o.filled ≤ 1000000) := fun x hx => by
          obtain ⟨go, e1, hc⟩ := own_cell hro (by omega)
          have hat : (osOf V n)[x]? = some (V.om (ob V x)) := by simp [osOf, hx]
          have hvl : VL V (ob V x) := ⟨_, hgv.ob hx⟩
          have q := hgv.q _ hvl
          have := q.sum; have := q.o0; have := q.f0; have := q.c0; have := q.e0; have := q.hi
          exact ⟨go, _, e1, rfl, hc _ _ (flatS_at _ x _ 2 _ hat rfl), hc _ _ (flatS_at _ x _ 3 _ hat rfl), hc _ _ (flatS_at _ x _ 9 _ hat rfl), hgv.side _ hvl, hgv.sym _ hvl, by omega, by omega⟩
        have HBS := hide (fun k => fillS_bound hgv (by omega) (k := k))
        have HT2 : Hid (∀ x, x < m → ∃ (g : Nat) (t : Tr), ta = some ⟨g, 0, none⟩ ∧ hl[x]? = some t ∧ w2.cell? ⟨g, x * 7 + 1, none⟩ = some (.string t.sym) ∧ w2.cell? ⟨g, x * 7 + 3, none⟩ = some (.int .i64 t.qty) ∧ (t.sym = ⟨#[65]⟩ ∨ t.sym = ⟨#[206, 145, 206, 169]⟩) ∧ 1 ≤ t.qty ∧ t.qty ≤ 1000000) := fun x hx => by
          have hx' : x < hl.length := by omega
          have hrow : TRow w2 _ ta tc hl := hrt
          obtain ⟨g, e1, hc⟩ := hrow.at (List.getElem?_eq_getElem hx')
          obtain ⟨⟨bx, b1, b2, b3⟩, _, hq⟩ := htw _ (List.getElem_mem hx')
          have hsy := hgv.sym bx ⟨_, b1⟩
          rw [b2] at hsy
          exact ⟨g, _, e1, List.getElem?_eq_getElem hx', hc 1 _ rfl, hc 3 _ rfl, hsy, hq⟩
        have HPos : Hid (∀ k x, 0 ≤ sumT (hasT k) (hl.take x) ∧ sumT (hasT k) (hl.take x) ≤ sumT (hasT k) hl) := fun k x => by
          have hn : ∀ l : List Tr, (∀ t ∈ l, t ∈ hl) → 0 ≤ sumT (hasT k) l := fun l hs => sumT_nonneg (fun t ht => by
            have := (htw t (hs t ht)).qty
            unfold hasT; split <;> omega)
          refine ⟨hn _ (fun t ht => List.mem_of_mem_take ht), ?_⟩
          have e := sumT_append (hasT k) (hl.take x) (hl.drop x)
          rw [List.take_append_drop] at e
          have := hn (hl.drop x) (fun t ht => List.mem_of_mem_drop ht)
          omega
        have HFE := hide hfe
        have HP2 := hide hp2
        rw [hm]
        have hmb : m ≤ 1000000 := by
          rw [← hm, ← hhl]
          have h1 := hp2.lens.2.1
          have h2 : (held V.lg.tr).length ≤ V.lg.tr.length := by
            have := held_take_len V.lg.tr V.lg.tr.length
            rw [List.take_length] at this
            exact this
          omega
        have hnb : n ≤ 100 := by omega
        clear hp1 k2 hp2 hgv hav hfe htw hrt hro hrk hbk hm hhl d0 d1 p0 HPl
        go_wp2
        go_loopg [17, 18] n (fun g iv _ wq => ∃ x : Nat, iv = .int .i64 (x : Int) ∧ x ≤ n ∧ g = n - x ∧ Fi (fun k => fillS V k x) (.slice oa n oc) (.slice ka 4 kc) (.slice ta m tc) w2 wq)
        case atStart => exact ⟨0, rfl, Nat.zero_le _, rfl, ⟨((Chg.refl Non w2).alloc _).alloc _, (Blk.new w2 _ _).alloc _, Blk.new1 w2 _ _ _⟩⟩
        case round =>
          obtain ⟨x, rfl, hx, hgx, fi⟩ := hrel
          have a0 : wr.cell? ⟨w2.heap.size, 0, none⟩ = some (.slice oa n oc) := fi.pic.cell 0
          by_cases hlt : x < n
          · have e1 : decide ((x : Int) < (n : Int)) = true := by simp; omega
            obtain ⟨go, o, rfl, ho, c2, c3, c9, hsd, hsy, hf0, hf1⟩ := unhide HX x hlt
            have c2' := fi.chg.cell c2 (fun x => x)
            have c3' := fi.chg.cell c3 (fun x => x)
            have c9' := fi.chg.cell c9 (fun x => x)
            have g0 : wr.cell? ⟨w2.heap.size + 1, 0, none⟩ = some (.int .i64 (fillS V 0 x)) := fi.arr.cell 0
            have g1 : wr.cell? ⟨w2.heap.size + 1, 1, none⟩ = some (.int .i64 (fillS V 1 x)) := fi.arr.cell 1
            have g2 : wr.cell? ⟨w2.heap.size + 1, 2, none⟩ = some (.int .i64 (fillS V 2 x)) := fi.arr.cell 2
            have g3 : wr.cell? ⟨w2.heap.size + 1, 3, none⟩ = some (.int .i64 (fillS V 3 x)) := fi.arr.cell 3
            have f0 := fi.arr.frozen 0
            have f1 := fi.arr.frozen 1
            have f2 := fi.arr.frozen 2
            have f3 := fi.arr.frozen 3
            have lt1 := fi.arr.lt
            have HFi := hide fi
            have HEo := hide ho
            have HBd := hide (fun k => unhide HBS k x hx)
            clear fi ho c2 c3 c9
            rcases hsd with hsd | hsd <;> rcases hsy with hsy | hsy <;> rw [hsd] at c3' <;> rw [hsy] at c2' <;> have HSd := hide hsd <;> have HSy := hide hsy <;> clear hsd hsy
            · go_wp2
              go_region
              go_wp2
              go_roundg (n - (x + 1))
              case measure => omega
              case rel =>
                refine ⟨x + 1, by push_cast; rfl, by omega, rfl, (((unhide HFi).put (k := 0) (by decide) (wrap64_id (x := fillS V 0 x + o.filled) (by have := unhide HBd 0; omega) (by have := unhide HBd 0; omega))).drew).congr (fun k hk => ?_)⟩
                show (if k = 0 then fillS V 0 x + o.filled else fillS V k x) = fillS V k (x + 1)
                rw [fillS_succ, ← unhide HEo]
                have hsk : sideK o = 0 := by unfold sideK; rw [unhide HSd, unhide HSy]; decide
                rw [hsk]
                by_cases e : k = 0
                · rw [if_pos e, if_pos e.symm, e]
                · rw [if_neg e, if_neg (fun h => e h.symm)]; omega
            · go_wp2
              go_region
              go_wp2
              go_roundg (n - (x + 1))
              case measure => omega
              case rel =>
                refine ⟨x + 1, by push_cast; rfl, by omega, rfl, (((unhide HFi).put (k := 2) (by decide) (wrap64_id (x := fillS V 2 x + o.filled) (by have := unhide HBd 2; omega) (by have := unhide HBd 2; omega))).drew).congr (fun k hk => ?_)⟩
                show (if k = 2 then fillS V 2 x + o.filled else fillS V k x) = fillS V k (x + 1)
                rw [fillS_succ, ← unhide HEo]
                have hsk : sideK o = 2 := by unfold sideK; rw [unhide HSd, unhide HSy]; decide
                rw [hsk]
                by_cases e : k = 2
                · rw [if_pos e, if_pos e.symm, e]
                · rw [if_neg e, if_neg (fun h => e h.symm)]; omega
            · go_wp2
              go_region
              go_wp2
              go_roundg (n - (x + 1))
              case measure => omega
              case rel =>
                refine ⟨x + 1, by push_cast; rfl, by omega, rfl, (((unhide HFi).put (k := 1) (by decide) (wrap64_id (x := fillS V 1 x + o.filled) (by have := unhide HBd 1; omega) (by have := unhide HBd 1; omega))).drew).congr (fun k hk => ?_)⟩
                show (if k = 1 then fillS V 1 x + o.filled else fillS V k x) = fillS V k (x + 1)
                rw [fillS_succ, ← unhide HEo]
                have hsk : sideK o = 1 := by unfold sideK; rw [unhide HSd, unhide HSy]; decide
                rw [hsk]
                by_cases e : k = 1
                · rw [if_pos e, if_pos e.symm, e]
                · rw [if_neg e, if_neg (fun h => e h.symm)]; omega
            · go_wp2
              go_region
              go_wp2
              go_roundg (n - (x + 1))
              case measure => omega
              case rel =>
                refine ⟨x + 1, by push_cast; rfl, by omega, rfl, (((unhide HFi).put (k := 3) (by decide) (wrap64_id (x := fillS V 3 x + o.filled) (by have := unhide HBd 3; omega) (by have := unhide HBd 3; omega))).drew).congr (fun k hk => ?_)⟩
                show (if k = 3 then fillS V 3 x + o.filled else fillS V k x) = fillS V k (x + 1)
                rw [fillS_succ, ← unhide HEo]
                have hsk : sideK o = 3 := by unfold sideK; rw [unhide HSd, unhide HSy]; decide
                rw [hsk]
                by_cases e : k = 3
                · rw [if_pos e, if_pos e.symm, e]
                · rw [if_neg e, if_neg (fun h => e h.symm)]; omega
          · obtain rfl : x = n := by omega
            have HFi := hide fi
            clear fi a0
            have a0 : wr.cell? ⟨w2.heap.size, 0, none⟩ = some (.slice oa x oc) := (unhide HFi).pic.cell 0
            go_wp2
            go_loopg [19, 20] m (fun g iv _ wq => ∃ x2 : Nat, iv = .int .i64 (x2 : Int) ∧ x2 ≤ m ∧ g = m - x2 ∧ Fi (fun k => fillS V k x - sumT (hasT k) (hl.take x2)) (.slice oa x oc) (.slice ka 4 kc) (.slice ta m tc) w2 wq)
            case atStart => exact ⟨0, rfl, Nat.zero_le _, rfl, (unhide HFi).congr (fun k _ => by simp [sumT])⟩
            case round =>
              clear HFi a0
              obtain ⟨y, rfl, hy, hgy, fi⟩ := hrel
              have a2 : wr.cell? ⟨w2.heap.size, 2, none⟩ = some (.slice ta m tc) := fi.pic.cell 2
              by_cases hlt2 : y < m
              · obtain ⟨g, t, rfl, ht, c1, c3, hsy, hq1, hq2⟩ := unhide HT2 y hlt2
                have c1' := fi.chg.cell c1 (fun x => x)
                have c3' := fi.chg.cell c3 (fun x => x)
                obtain ⟨G, hG⟩ : ∃ G : Nat → Int, G = fun k => fillS V k x - sumT (hasT k) (hl.take y) := ⟨_, rfl⟩
                have HBd : Hid (∀ k, k < 4 → 0 ≤ G k ∧ G k ≤ 1000000000) := fun k hk => by
                  rw [hG]
                  have h1 := unhide HBS k x (Nat.le_refl _)
                  have h2 := unhide HPos k y
                  have h3 := unhide HFE k hk
                  show 0 ≤ fillS V k x - sumT (hasT k) (hl.take y) ∧ fillS V k x - sumT (hasT k) (hl.take y) ≤ 1000000000
                  omega
                have HNxt : Hid (∀ k, fillS V k x - sumT (hasT k) (hl.take (y + 1)) = G k - hasT k t) := fun k => by
                  rw [hG, List.take_add_one, ht, sumT_append]
                  simp only [Option.toList, sumT]
                  omega
                rw [← hG] at fi
                have g0 : wr.cell? ⟨w2.heap.size + 1, 0, none⟩ = some (.int .i64 (G 0)) := fi.arr.cell 0
                have g1 : wr.cell? ⟨w2.heap.size + 1, 1, none⟩ = some (.int .i64 (G 1)) := fi.arr.cell 1
                have g2 : wr.cell? ⟨w2.heap.size + 1, 2, none⟩ = some (.int .i64 (G 2)) := fi.arr.cell 2
                have g3 : wr.cell? ⟨w2.heap.size + 1, 3, none⟩ = some (.int .i64 (G 3)) := fi.arr.cell 3
                have f0 := fi.arr.frozen 0
                have f1 := fi.arr.frozen 1
                have f2 := fi.arr.frozen 2
                have f3 := fi.arr.frozen 3
                have lt1 := fi.arr.lt
                have HFi := hide fi
                clear fi c1 c3 ht hG
                rcases hsy with hsy | hsy <;> rw [hsy] at c1' <;> have HSy := hide hsy <;> clear hsy
                · go_wp2
                  go_region
                  go_wp2
                  go_region
                  go_wp2
                  go_roundg (m - (y + 1))
                  case measure => omega
                  case rel =>
                    refine ⟨y + 1, by push_cast; rfl, by omega, rfl, (((((unhide HFi).put (k := 0) (by decide) (wrap64_id (x := G 0 - t.qty) (by have := unhide HBd 0 (by decide); omega) (by have := unhide HBd 0 (by decide); omega))).drew).put (k := 1) (by decide) (wrap64_id (x := G 1 - t.qty) (by have := unhide HBd 1 (by decide); omega) (by have := unhide HBd 1 (by decide); omega))).drew).congr (fun k hk => ?_)⟩
                    have hG := unhide HNxt k
                    show (if k = 1 then G 1 - t.qty else if k = 0 then G 0 - t.qty else G k) = _
                    rw [hG]
                    have hsk : symK t = 0 := by unfold symK; rw [unhide HSy]; decide
                    have hh : hasT k t = if 0 = k - k % 2 then t.qty else 0 := by unfold hasT; rw [hsk]
                    rw [hh]
                    have : k = 0 ∨ k = 1 ∨ k = 2 ∨ k = 3 := by omega
                    rcases this with rfl | rfl | rfl | rfl <;> simp
                · go_wp2
                  go_region
                  go_wp2
                  go_region
                  go_wp2
                  go_roundg (m - (y + 1))
                  case measure => omega
                  case rel =>
                    refine ⟨y + 1, by push_cast; rfl, by omega, rfl, (((((unhide HFi).put (k := 2) (by decide) (wrap64_id (x := G 2 - t.qty) (by have := unhide HBd 2 (by decide); omega) (by have := unhide HBd 2 (by decide); omega))).drew).put (k := 3) (by decide) (wrap64_id (x := G 3 - t.qty) (by have := unhide HBd 3 (by decide); omega) (by have := unhide HBd 3 (by decide); omega))).drew).congr (fun k hk => ?_)⟩
                    have hG := unhide HNxt k
                    show (if k = 3 then G 3 - t.qty else if k = 2 then G 2 - t.qty else G k) = _
                    rw [hG]
                    have hsk : symK t = 2 := by unfold symK; rw [unhide HSy]; decide
                    have hh : hasT k t = if 2 = k - k % 2 then t.qty else 0 := by unfold hasT; rw [hsk]
                    rw [hh]
                    have : k = 0 ∨ k = 1 ∨ k = 2 ∨ k = 3 := by omega
                    rcases this with rfl | rfl | rfl | rfl <;> simp
              · obtain rfl : y = m := by omega
                have hz : Fi (fun _ => 0) (.slice oa x oc) (.slice ka 4 kc) (.slice ta y tc) w2 wr := fi.congr (fun k hk => by
                  rw [List.take_of_length_le (by rw [unhide HM]; exact Nat.le_refl _), unhide HFE k hk]; omega)
                have g0 : wr.cell? ⟨w2.heap.size + 1, 0, none⟩ = some (.int .i64 0) := hz.arr.cell 0
                have g1 : wr.cell? ⟨w2.heap.size + 1, 1, none⟩ = some (.int .i64 0) := hz.arr.cell 1
                have g2 : wr.cell? ⟨w2.heap.size + 1, 2, none⟩ = some (.int .i64 0) := hz.arr.cell 2
                have g3 : wr.cell? ⟨w2.heap.size + 1, 3, none⟩ = some (.int .i64 0) := hz.arr.cell 3
                have hEq : ∀ W : World, (binOp .eql 50 (.agg #[.int .i64 0, .int .i64 0, .int .i64 0, .int .i64 0]) (.agg #[.int .i64 0, .int .i64 0, .int .i64 0, .int .i64 0])).run Tryz.prog W = .ok (.bool true) W := fun _ => by kernel_rfl
                have HZ := hide hz
                clear hz fi
                go_wp2
                go_ret
                exact ⟨rfl, ((unhide HP2).keep (unhide HZ).chg).below⟩
      · have e1 : decide ((i : Int) < 60) = false := by simp; omega
        clear hgo
        go_wp2
        go_quiet (fail)
        go_wp2_with fail
        have hp1 := (unhide HPl).keep ((Chg.refl Non wr).drewN nq)
        refine (looks_all bv bm bo P n V _ acts _ hp1.rep hp1.gv (by omega) (hp1.lens.mono (by omega)) hp1.ply).mono ?_
        rintro e w2 ⟨oa, oc, ka, kc, ta, tc, vs, rfl, hrt, hro, hrk, hbk, k2⟩
        have hp2 := hp1.keep k2
        have hgv := hp2.gv
        have hav := (unhide HAp).1
        obtain ⟨hl, hhl⟩ : ∃ hl, held V.lg.tr = hl := ⟨_, rfl⟩
        have hfe := fun k (hk : k < 4) => fillS_eq hgv hav hk
        have htw := hav.fl.tw
        rw [hhl] at hrt hfe htw
        rw [hhl]
        obtain ⟨m, hm⟩ : ∃ m, hl.length = m := ⟨_, rfl⟩
        have HM := hide hm
        have HX : Hid (∀ x, x < n → ∃ (go : Nat) (o : Ord), oa = some ⟨go, 0, none⟩ ∧ o = V.om (ob V x) ∧ w2.cell? ⟨go, x * 12 + 2, none⟩ = some (.string o.sym) ∧ w2.cell? ⟨go, x * 12 + 3, none⟩ = some (.int .i64 o.side) ∧ w2.cell? ⟨go, x * 12 + 9, none⟩ = some (.int .i64 o.filled) ∧ (o.side = 0 ∨ o.side = 1) ∧ (o.sym = ⟨#[65]⟩ ∨ o.sym = ⟨#[206, 145, 206, 169]⟩) ∧ 0 ≤ o.filled ∧ o.filled ≤ 1000000) := fun x hx => by
          obtain ⟨go, e1, hc⟩ := own_cell hro (by omega)
          have hat : (osOf V n)[x]? = some (V.om (ob V x)) := by simp [osOf, hx]
          have hvl : VL V (ob V x) := ⟨_, hgv.ob hx⟩
          have q := hgv.q _ hvl
          have := q.sum; have := q.o0; have := q.f0; have := q.c0; have := q.e0; have := q.hi
          exact ⟨go, _, e1, rfl, hc _ _ (flatS_at _ x _ 2 _ hat rfl), hc _ _ (flatS_at _ x _ 3 _ hat rfl), hc _ _ (flatS_at _ x _ 9 _ hat rfl), hgv.side _ hvl, hgv.sym _ hvl, by omega, by omega⟩
        have HBS := hide (fun k => fillS_bound hgv (by omega) (k := k))
        have HT2 : Hid (∀ x, x < m → ∃ (g : Nat) (t : Tr), ta = some ⟨g, 0, none⟩ ∧ hl[x]? = some t ∧ w2.cell? ⟨g, x * 7 + 1, none⟩ = some (.string t.sym) ∧ w2.cell? ⟨g, x * 7 + 3, none⟩ = some (.int .i64 t.qty) ∧ (t.sym = ⟨#[65]⟩ ∨ t.sym = ⟨#[206, 145, 206, 169]⟩) ∧ 1 ≤ t.qty ∧ t.qty ≤ 1000000) := fun x hx => by
          have hx' : x < hl.length := by omega
          have hrow : TRow w2 _ ta tc hl := hrt
          obtain ⟨g, e1, hc⟩ := hrow.at (List.getElem?_eq_getElem hx')
          obtain ⟨⟨bx, b1, b2, b3⟩, _, hq⟩ := htw _ (List.getElem_mem hx')
          have hsy := hgv.sym bx ⟨_, b1⟩
          rw [b2] at hsy
          exact ⟨g, _, e1, List.getElem?_eq_getElem hx', hc 1 _ rfl, hc 3 _ rfl, hsy, hq⟩
        have HPos : Hid (∀ k x, 0 ≤ sumT (hasT k) (hl.take x) ∧ sumT (hasT k) (hl.take x) ≤ sumT (hasT k) hl) := fun k x => by
          have hn : ∀ l : List Tr, (∀ t ∈ l, t ∈ hl) → 0 ≤ sumT (hasT k) l := fun l hs => sumT_nonneg (fun t ht => by
            have := (htw t (hs t ht)).qty
            unfold hasT; split <;> omega)
          refine ⟨hn _ (fun t ht => List.mem_of_mem_take ht), ?_⟩
          have e := sumT_append (hasT k) (hl.take x) (hl.drop x)
          rw [List.take_append_drop] at e
          have := hn (hl.drop x) (fun t ht => List.mem_of_mem_drop ht)
          omega
        have HFE := hide hfe
        have HP2 := hide hp2
        rw [hm]
        have hmb : m ≤ 1000000 := by
          rw [← hm, ← hhl]
          have h1 := hp2.lens.2.1
          have h2 : (held V.lg.tr).length ≤ V.lg.tr.length := by
            have := held_take_len V.lg.tr V.lg.tr.length
            rw [List.take_length] at this
            exact this
          omega
        have hnb : n ≤ 100 := by omega
        clear hp1 k2 hp2 hgv hav hfe htw hrt hro hrk hbk hm hhl d0 d1 p0 HPl
        go_wp2
        go_loopg [17, 18] n (fun g iv _ wq => ∃ x : Nat, iv = .int .i64 (x : Int) ∧ x ≤ n ∧ g = n - x ∧ Fi (fun k => fillS V k x) (.slice oa n oc) (.slice ka 4 kc) (.slice ta m tc) w2 wq)
        case atStart => exact ⟨0, rfl, Nat.zero_le _, rfl, ⟨((Chg.refl Non w2).alloc _).alloc _, (Blk.new w2 _ _).alloc _, Blk.new1 w2 _ _ _⟩⟩
        case round =>
          obtain ⟨x, rfl, hx, hgx, fi⟩ := hrel
          have a0 : wr.cell? ⟨w2.heap.size, 0, none⟩ = some (.slice oa n oc) := fi.pic.cell 0
          by_cases hlt : x < n
          · have e1 : decide ((x : Int) < (n : Int)) = true := by simp; omega
            obtain ⟨go, o, rfl, ho, c2, c3, c9, hsd, hsy, hf0, hf1⟩ := unhide HX x hlt
            have c2' := fi.chg.cell c2 (fun x => x)
            have c3' := fi.chg.cell c3 (fun x => x)
            have c9' := fi.chg.cell c9 (fun x => x)
            have g0 : wr.cell? ⟨w2.heap.size + 1, 0, none⟩ = some (.int .i64 (fillS V 0 x)) := fi.arr.cell 0
            have g1 : wr.cell? ⟨w2.heap.size + 1, 1, none⟩ = some (.int .i64 (fillS V 1 x)) := fi.arr.cell 1
            have g2 : wr.cell? ⟨w2.heap.size + 1, 2, none⟩ = some (.int .i64 (fillS V 2 x)) := fi.arr.cell 2
            have g3 : wr.cell? ⟨w2.heap.size + 1, 3, none⟩ = some (.int .i64 (fillS V 3 x)) := fi.arr.cell 3
            have f0 := fi.arr.frozen 0
            have f1 := fi.arr.frozen 1
            have f2 := fi.arr.frozen 2
            have f3 := fi.arr.frozen 3
            have lt1 := fi.arr.lt
            have HFi := hide fi
            have HEo := hide ho
            have HBd := hide (fun k => unhide HBS k x hx)
            clear fi ho c2 c3 c9
            rcases hsd with hsd | hsd <;> rcases hsy with hsy | hsy <;> rw [hsd] at c3' <;> rw [hsy] at c2' <;> have HSd := hide hsd <;> have HSy := hide hsy <;> clear hsd hsy
            · go_wp2
              go_region
              go_wp2
              go_roundg (n - (x + 1))
              case measure => omega
              case rel =>
                refine ⟨x + 1, by push_cast; rfl, by omega, rfl, (((unhide HFi).put (k := 0) (by decide) (wrap64_id (x := fillS V 0 x + o.filled) (by have := unhide HBd 0; omega) (by have := unhide HBd 0; omega))).drew).congr (fun k hk => ?_)⟩
                show (if k = 0 then fillS V 0 x + o.filled else fillS V k x) = fillS V k (x + 1)
                rw [fillS_succ, ← unhide HEo]
                have hsk : sideK o = 0 := by unfold sideK; rw [unhide HSd, unhide HSy]; decide
                rw [hsk]
                by_cases e : k = 0
                · rw [if_pos e, if_pos e.symm, e]
                · rw [if_neg e, if_neg (fun h => e h.symm)]; omega
            · go_wp2
              go_region
              go_wp2
              go_roundg (n - (x + 1))
              case measure => omega
              case rel =>
                refine ⟨x + 1, by push_cast; rfl, by omega, rfl, (((unhide HFi).put (k := 2) (by decide) (wrap64_id (x := fillS V 2 x + o.filled) (by have := unhide HBd 2; omega) (by have := unhide HBd 2; omega))).drew).congr (fun k hk => ?_)⟩
                show (if k = 2 then fillS V 2 x + o.filled else fillS V k x) = fillS V k (x + 1)
                rw [fillS_succ, ← unhide HEo]
                have hsk : sideK o = 2 := by unfold sideK; rw [unhide HSd, unhide HSy]; decide
                rw [hsk]
                by_cases e : k = 2
                · rw [if_pos e, if_pos e.symm, e]
                · rw [if_neg e, if_neg (fun h => e h.symm)]; omega
            · go_wp2
              go_region
              go_wp2
              go_roundg (n - (x + 1))
              case measure => omega
              case rel =>
                refine ⟨x + 1, by push_cast; rfl, by omega, rfl, (((unhide HFi).put (k := 1) (by decide) (wrap64_id (x := fillS V 1 x + o.filled) (by have := unhide HBd 1; omega) (by have := unhide HBd 1; omega))).drew).congr (fun k hk => ?_)⟩
                show (if k = 1 then fillS V 1 x + o.filled else fillS V k x) = fillS V k (x + 1)
                rw [fillS_succ, ← unhide HEo]
                have hsk : sideK o = 1 := by unfold sideK; rw [unhide HSd, unhide HSy]; decide
                rw [hsk]
                by_cases e : k = 1
                · rw [if_pos e, if_pos e.symm, e]
                · rw [if_neg e, if_neg (fun h => e h.symm)]; omega
            · go_wp2
              go_region
              go_wp2
              go_roundg (n - (x + 1))
              case measure => omega
              case rel =>
                refine ⟨x + 1, by push_cast; rfl, by omega, rfl, (((unhide HFi).put (k := 3) (by decide) (wrap64_id (x := fillS V 3 x + o.filled) (by have := unhide HBd 3; omega) (by have := unhide HBd 3; omega))).drew).congr (fun k hk => ?_)⟩
                show (if k = 3 then fillS V 3 x + o.filled else fillS V k x) = fillS V k (x + 1)
                rw [fillS_succ, ← unhide HEo]
                have hsk : sideK o = 3 := by unfold sideK; rw [unhide HSd, unhide HSy]; decide
                rw [hsk]
                by_cases e : k = 3
                · rw [if_pos e, if_pos e.symm, e]
                · rw [if_neg e, if_neg (fun h => e h.symm)]; omega
          · obtain rfl : x = n := by omega
            have HFi := hide fi
            clear fi a0
            have a0 : wr.cell? ⟨w2.heap.size, 0, none⟩ = some (.slice oa x oc) := (unhide HFi).pic.cell 0
            go_wp2
            go_loopg [19, 20] m (fun g iv _ wq => ∃ x2 : Nat, iv = .int .i64 (x2 : Int) ∧ x2 ≤ m ∧ g = m - x2 ∧ Fi (fun k => fillS V k x - sumT (hasT k) (hl.take x2)) (.slice oa x oc) (.slice ka 4 kc) (.slice ta m tc) w2 wq)
            case atStart => exact ⟨0, rfl, Nat.zero_le _, rfl, (unhide HFi).congr (fun k _ => by simp [sumT])⟩
            case round =>
              clear HFi a0
              obtain ⟨y, rfl, hy, hgy, fi⟩ := hrel
              have a2 : wr.cell? ⟨w2.heap.size, 2, none⟩ = some (.slice ta m tc) := fi.pic.cell 2
              by_cases hlt2 : y < m
              · obtain ⟨g, t, rfl, ht, c1, c3, hsy, hq1, hq2⟩ := unhide HT2 y hlt2
                have c1' := fi.chg.cell c1 (fun x => x)
                have c3' := fi.chg.cell c3 (fun x => x)
                obtain ⟨G, hG⟩ : ∃ G : Nat → Int, G = fun k => fillS V k x - sumT (hasT k) (hl.take y) := ⟨_, rfl⟩
                have HBd : Hid (∀ k, k < 4 → 0 ≤ G k ∧ G k ≤ 1000000000) := fun k hk => by
                  rw [hG]
                  have h1 := unhide HBS k x (Nat.le_refl _)
                  have h2 := unhide HPos k y
                  have h3 := unhide HFE k hk
                  show 0 ≤ fillS V k x - sumT (hasT k) (hl.take y) ∧ fillS V k x - sumT (hasT k) (hl.take y) ≤ 1000000000
                  omega
                have HNxt : Hid (∀ k, fillS V k x - sumT (hasT k) (hl.take (y + 1)) = G k - hasT k t) := fun k => by
                  rw [hG, List.take_add_one, ht, sumT_append]
                  simp only [Option.toList, sumT]
                  omega
                rw [← hG] at fi
                have g0 : wr.cell? ⟨w2.heap.size + 1, 0, none⟩ = some (.int .i64 (G 0)) := fi.arr.cell 0
                have g1 : wr.cell? ⟨w2.heap.size + 1, 1, none⟩ = some (.int .i64 (G 1)) := fi.arr.cell 1
                have g2 : wr.cell? ⟨w2.heap.size + 1, 2, none⟩ = some (.int .i64 (G 2)) := fi.arr.cell 2
                have g3 : wr.cell? ⟨w2.heap.size + 1, 3, none⟩ = some (.int .i64 (G 3)) := fi.arr.cell 3
                have f0 := fi.arr.frozen 0
                have f1 := fi.arr.frozen 1
                have f2 := fi.arr.frozen 2
                have f3 := fi.arr.frozen 3
                have lt1 := fi.arr.lt
                have HFi := hide fi
                clear fi c1 c3 ht hG
                rcases hsy with hsy | hsy <;> rw [hsy] at c1' <;> have HSy := hide hsy <;> clear hsy
                · go_wp2
                  go_region
                  go_wp2
                  go_region
                  go_wp2
                  go_roundg (m - (y + 1))
                  case measure => omega
                  case rel =>
                    refine ⟨y + 1, by push_cast; rfl, by omega, rfl, (((((unhide HFi).put (k := 0) (by decide) (wrap64_id (x := G 0 - t.qty) (by have := unhide HBd 0 (by decide); omega) (by have := unhide HBd 0 (by decide); omega))).drew).put (k := 1) (by decide) (wrap64_id (x := G 1 - t.qty) (by have := unhide HBd 1 (by decide); omega) (by have := unhide HBd 1 (by decide); omega))).drew).congr (fun k hk => ?_)⟩
                    have hG := unhide HNxt k
                    show (if k = 1 then G 1 - t.qty else if k = 0 then G 0 - t.qty else G k) = _
                    rw [hG]
                    have hsk : symK t = 0 := by unfold symK; rw [unhide HSy]; decide
                    have hh : hasT k t = if 0 = k - k % 2 then t.qty else 0 := by unfold hasT; rw [hsk]
                    rw [hh]
                    have : k = 0 ∨ k = 1 ∨ k = 2 ∨ k = 3 := by omega
                    rcases this with rfl | rfl | rfl | rfl <;> simp
                · go_wp2
                  go_region
                  go_wp2
                  go_region
                  go_wp2
                  go_roundg (m - (y + 1))
                  case measure => omega
                  case rel =>
                    refine ⟨y + 1, by push_cast; rfl, by omega, rfl, (((((unhide HFi).put (k := 2) (by decide) (wrap64_id (x := G 2 - t.qty) (by have := unhide HBd 2 (by decide); omega) (by have := unhide HBd 2 (by decide); omega))).drew).put (k := 3) (by decide) (wrap64_id (x := G 3 - t.qty) (by have := unhide HBd 3 (by decide); omega) (by have := unhide HBd 3 (by decide); omega))).drew).congr (fun k hk => ?_)⟩
                    have hG := unhide HNxt k
                    show (if k = 3 then G 3 - t.qty else if k = 2 then G 2 - t.qty else G k) = _
                    rw [hG]
                    have hsk : symK t = 2 := by unfold symK; rw [unhide HSy]; decide
                    have hh : hasT k t = if 2 = k - k % 2 then t.qty else 0 := by unfold hasT; rw [hsk]
                    rw [hh]
                    have : k = 0 ∨ k = 1 ∨ k = 2 ∨ k = 3 := by omega
                    rcases this with rfl | rfl | rfl | rfl <;> simp
              · obtain rfl : y = m := by omega
                have hz : Fi (fun _ => 0) (.slice oa x oc) (.slice ka 4 kc) (.slice ta y tc) w2 wr := fi.congr (fun k hk => by
                  rw [List.take_of_length_le (by rw [unhide HM]; exact Nat.le_refl _), unhide HFE k hk]; omega)
                have g0 : wr.cell? ⟨w2.heap.size + 1, 0, none⟩ = some (.int .i64 0) := hz.arr.cell 0
                have g1 : wr.cell? ⟨w2.heap.size + 1, 1, none⟩ = some (.int .i64 0) := hz.arr.cell 1
                have g2 : wr.cell? ⟨w2.heap.size + 1, 2, none⟩ = some (.int .i64 0) := hz.arr.cell 2
                have g3 : wr.cell? ⟨w2.heap.size + 1, 3, none⟩ = some (.int .i64 0) := hz.arr.cell 3
                have hEq : ∀ W : World, (binOp .eql 50 (.agg #[.int .i64 0, .int .i64 0, .int .i64 0, .int .i64 0]) (.agg #[.int .i64 0, .int .i64 0, .int .i64 0, .int .i64 0])).run Tryz.prog W = .ok (.bool true) W := fun _ => by kernel_rfl
                have HZ := hide hz
                clear hz fi
                go_wp2
                go_ret
                exact ⟨rfl, ((unhide HP2).keep (unhide HZ).chg).below⟩

end Go.Proofs.YtigaphnafnpfnaaGreatDoor

