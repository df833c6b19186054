import Derived.Test.YtigaphnafnpfnaaGreatDoorHM3
import Derived.Test.YtigaphnafnpfnaaGreatDoorHE8
import Derived.Test.YtigaphnafnpfnaaGreatDoorHP1
import Derived.Test.YtigaphnafnpfnaaGreatDoorHF6
/- What the levels of a side say. Without memory. -/
set_option linter.unusedVariables false
set_option linter.unusedSimpArgs false
namespace Go.Proofs.YtigaphnafnpfnaaGreatDoor
open Go.RowKit

def sumL (ls : List Int) : Int := ls.foldr (· + ·) 0
theorem sumL_append (a b : List Int) : sumL (a ++ b) = sumL a + sumL b := by
  induction a with
  | nil => simp [sumL]
  | cons x a ih => simp only [sumL, List.cons_append, List.foldr_cons] at ih ⊢; rw [ih]; omega
theorem sumL_nil : sumL [] = 0 := rfl
theorem sumL_cons (x : Int) (a : List Int) : sumL (x :: a) = x + sumL a := rfl
theorem sumL_perm {a b : List Int} (h : a.Perm b) : sumL a = sumL b := by
  induction h with
  | nil => rfl
  | cons x _ ih => rw [sumL_cons, sumL_cons, ih]
  | swap x y l => rw [sumL_cons, sumL_cons, sumL_cons, sumL_cons]; omega
  | trans _ _ h1 h2 => rw [h1, h2]
theorem sumL_bound {a : List Int} (h : ∀ x ∈ a, 0 ≤ x ∧ x ≤ 1000000) : 0 ≤ sumL a ∧ sumL a ≤ 1000000 * a.length := by
  induction a with
  | nil => simp [sumL]
  | cons x a ih =>
    have h1 := h x (by simp)
    have h2 := ih (fun y hy => h y (by simp [hy]))
    rw [sumL_cons]
    simp only [List.length_cons]
    push_cast
    omega

/-- strictly worse -/
def worse (s : Int) (p q : Int) : Prop := if s = 0 then q < p else p < q

structure LInv (s : Int) (zs : List Ord) (ls : List Lvl) : Prop where
  sum : sumL (ls.map (·.qty)) = sumL (zs.map (·.opn))
  num : ∀ l ∈ ls, 1 ≤ l.num ∧ l.num ≤ l.qty ∧ l.qty ≤ sumL (zs.map (·.opn)) ∧ l.num ≤ zs.length
  mono : ls.Pairwise (fun a b => worse s a.price b.price)
  src : ∀ l ∈ ls, ∃ o ∈ zs, o.price = l.price
  last : ∀ l, ls.getLast? = some l → ∃ o, zs.getLast? = some o ∧ o.price = l.price
  nil : ls = [] ↔ zs = []

theorem lInv_step {s : Int} {zs : List Ord} {ls : List Lvl} {o : Ord} (h : LInv s zs ls) (hz : ∀ x ∈ zs, 0 < x.opn ∧ x.opn ≤ 1000000) (ho : 0 < o.opn ∧ o.opn ≤ 1000000) (hlen : zs.length ≤ 1000)
    (hs : ∀ l, zs.getLast? = some l → o.price = l.price ∨ worse s l.price o.price) : LInv s (zs ++ [o]) (lvStep ls o) := by
  have hb := sumL_bound (a := zs.map (·.opn)) (by intro x hx; simp only [List.mem_map] at hx; obtain ⟨y, hy, rfl⟩ := hx; have := hz y hy; omega)
  rw [List.length_map] at hb
  have ew : wrap64 o.opn = o.opn := wrap64_id (by omega) (by omega)
  have sumz : sumL ((zs ++ [o]).map (·.opn)) = sumL (zs.map (·.opn)) + o.opn := by rw [List.map_append, sumL_append]; simp [sumL]
  rcases List.eq_nil_or_concat ls with rfl | ⟨ini, l, rfl⟩
  · have hzn : zs = [] := h.nil.1 rfl
    subst hzn
    simp only [lvStep, List.getLast?_nil, ew, List.nil_append]
    refine ⟨by simp [sumL], ?_, by simp, ?_, ?_, by simp⟩
    · intro l hl
      simp only [List.mem_singleton] at hl
      subst hl
      simp [sumL]; omega
    · intro l hl
      simp only [List.mem_singleton] at hl
      subst hl
      exact ⟨o, by simp, rfl⟩
    · intro l hl
      simp only [List.getLast?_singleton, Option.some.injEq] at hl
      subst hl
      exact ⟨o, by simp, rfl⟩
  · rw [List.concat_eq_append] at h ⊢
    have hl := h.num l (by simp)
    obtain ⟨oz, hoz, ep⟩ := h.last l (by simp)
    have hrel := hs oz hoz
    rw [ep] at hrel
    by_cases e : l.price = o.price
    · rw [lvStep_same ini l o e]
      have w1 : wrap64 (l.qty + o.opn) = l.qty + o.opn := wrap64_id (by omega) (by omega)
      have w2 : wrap64 (l.num + 1) = l.num + 1 := wrap64_id (by omega) (by omega)
      rw [w1, w2]
      refine ⟨?_, fun x hx => ?_, ?_, fun x hx => ?_, fun x hx => ?_, by simp⟩
      · rw [sumz, ← h.sum]
        simp only [List.map_append, sumL_append, List.map_cons, List.map_nil, sumL_cons, sumL_nil]
        omega
      · rw [sumz]
        simp only [List.length_append, List.length_cons, List.length_nil]
        simp only [List.mem_append, List.mem_singleton] at hx
        rcases hx with hx | hx
        · have := h.num x (by simp [hx]); push_cast; omega
        · subst hx; simp only; push_cast; omega
      · have hp := h.mono
        rw [List.pairwise_append] at hp ⊢
        refine ⟨hp.1, by simp, fun x hx y hy => ?_⟩
        simp only [List.mem_singleton] at hy
        subst hy
        exact hp.2.2 x hx l (by simp)
      · simp only [List.mem_append, List.mem_singleton] at hx
        rcases hx with hx | hx
        · obtain ⟨y, hy, e'⟩ := h.src x (by simp [hx])
          exact ⟨y, by simp [hy], e'⟩
        · subst hx; exact ⟨o, by simp, e.symm⟩
      · simp only [List.getLast?_append, List.getLast?_singleton, Option.some_or, Option.some.injEq] at hx
        subst hx
        exact ⟨o, by simp, e.symm⟩
    · have hw : worse s l.price o.price := hrel.resolve_left (fun h => e h.symm)
      rw [lvStep_other ini l o e, ew]
      refine ⟨?_, fun x hx => ?_, ?_, fun x hx => ?_, fun x hx => ?_, by simp⟩
      · rw [sumz, ← h.sum]
        rw [List.map_append (l₁ := ini ++ [l]), sumL_append]
        simp [sumL]
      · rw [sumz]
        simp only [List.length_append, List.length_cons, List.length_nil]
        rw [List.mem_append] at hx
        rcases hx with hx | hx
        · have := h.num x hx; push_cast; omega
        · simp only [List.mem_singleton] at hx
          rw [hx]
          refine ⟨Int.le_refl _, ?_, ?_, ?_⟩
          · show (1 : Int) ≤ o.opn; omega
          · show o.opn ≤ _; omega
          · show (1 : Int) ≤ ((zs.length + (0 + 1) : Nat) : Int); push_cast; omega
      · rw [List.pairwise_append]
        refine ⟨h.mono, by simp, fun x hx y hy => ?_⟩
        simp only [List.mem_singleton] at hy
        subst hy
        simp only
        by_cases ex : x = l
        · rw [ex]; exact hw
        · have hp := h.mono
          rw [List.pairwise_append] at hp
          have hxi : x ∈ ini := by
            simp only [List.mem_append, List.mem_singleton] at hx
            exact hx.resolve_right ex
          have := hp.2.2 x hxi l (by simp)
          unfold worse at this hw ⊢
          split at this <;> rename_i hc
          · rw [if_pos hc] at hw ⊢; omega
          · rw [if_neg hc] at hw ⊢; omega
      · rw [List.mem_append] at hx
        rcases hx with hx | hx
        · obtain ⟨y, hy, e'⟩ := h.src x hx
          exact ⟨y, by simp [hy], e'⟩
        · simp only [List.mem_singleton] at hx; subst hx; exact ⟨o, by simp, rfl⟩
      · simp only [List.getLast?_append, List.getLast?_singleton, Option.some_or, Option.some.injEq] at hx
        subst hx
        exact ⟨o, by simp, rfl⟩

theorem lInv_levels {s : Int} (os : List Ord) (hz : ∀ x ∈ os, 0 < x.opn ∧ x.opn ≤ 1000000) (hlen : os.length ≤ 1000) (hs : os.Pairwise (fun a b => b.price = a.price ∨ worse s a.price b.price)) : LInv s os (levelsOf os) := by
  have gen : ∀ (suf pre : List Ord) (ls : List Lvl), pre ++ suf = os → LInv s pre ls → LInv s os (suf.foldl lvStep ls) := by
    intro suf
    induction suf with
    | nil => intro pre ls e h; simp only [List.append_nil] at e; subst e; exact h
    | cons o suf ih =>
      intro pre ls e h
      rw [List.foldl_cons]
      have hp : pre.length ≤ os.length := by rw [← e]; simp
      refine ih (pre ++ [o]) _ (by rw [← e]; simp) (lInv_step h (fun x hx => hz x (by rw [← e]; simp [hx])) (hz o (by rw [← e]; simp)) (by omega) (fun l hl => ?_))
      rw [← e, List.pairwise_append] at hs
      exact hs.2.2 l (List.mem_of_getLast? hl) o (by simp)
  exact gen os [] [] rfl ⟨rfl, by simp, by simp, by simp, by simp, by simp⟩

/-- the levels of a side of a good book -/
theorem levels_side {om : Nat → Ord} {n s : Nat} {h : Nat → Nat} {ys : List Nat} (hy : SortYs om n h ys) (hs : s < 2) (hside : ∀ k, k < n → (om (h k)).side = (s : Int)) (hop : ∀ k, k < n → 0 < (om (h k)).opn ∧ (om (h k)).opn ≤ 1000000) (hn : n ≤ 1000) : LInv (s : Int) (ordsOf om ys) (levelsOf (ordsOf om ys)) ∧ (∀ o ∈ ordsOf om ys, ∃ k, k < n ∧ o = om (h k)) ∧ sumL ((ordsOf om ys).map (·.opn)) = sumL ((upto h n).map (fun x => (om x).opn)) := by
  have hmem : ∀ x ∈ ys, ∃ k, k < n ∧ x = h k := fun x hx => by
    have := hy.1.mem_iff.1 hx
    simp only [upto, List.mem_map, List.mem_range] at this
    obtain ⟨k, hk, e⟩ := this
    exact ⟨k, hk, e.symm⟩
  have hmemO : ∀ o ∈ ordsOf om ys, ∃ k, k < n ∧ o = om (h k) := fun o ho => by
    simp only [ordsOf, List.mem_map] at ho
    obtain ⟨x, hx, rfl⟩ := ho
    obtain ⟨k, hk, rfl⟩ := hmem x hx
    exact ⟨k, hk, rfl⟩
  refine ⟨lInv_levels _ (fun o ho => ?_) ?_ ?_, hmemO, ?_⟩
  · obtain ⟨k, hk, rfl⟩ := hmemO o ho; exact hop k hk
  · simp only [ordsOf, List.length_map]; rw [hy.1.length_eq, upto_length]; exact hn
  · unfold ordsOf
    rw [List.pairwise_map]
    refine hy.2.imp_of_mem (fun {a b} ha hb hab => ?_)
    obtain ⟨k, hk, rfl⟩ := hmem a ha
    obtain ⟨l, hl, rfl⟩ := hmem b hb
    have := (lessB_iff' _ _).1 hab
    rw [hside l hl] at this
    unfold worse
    by_cases e : (s : Int) = 0
    · rw [if_pos e] at this ⊢; omega
    · rw [if_neg e] at this ⊢; omega
  · unfold ordsOf
    rw [List.map_map]
    exact sumL_perm (hy.1.map _)

end Go.Proofs.YtigaphnafnpfnaaGreatDoor

/- Trades, whatever they are -/
set_option linter.unusedVariables false
set_option linter.unusedSimpArgs false
namespace Go.Proofs.YtigaphnafnpfnaaGreatDoor
open Go.RowKit Go.Maps
attribute [local go_sem ↓] Go.wp_at_zero Go.wp_at_succ

theorem res32 (tmps : Array Value) (H : Nat) (w : World) (t : Tr) (ht : tmps.getD 2 undef = .pointer (some ⟨H, 0, none⟩)) (hb : Blk w H #[.int .i64 t.num, .string t.sym, .int .i64 t.price, .int .i64 t.qty, .int .i64 t.buy, .int .i64 t.sell, .int .i64 t.day] 56) :
    (results Tryz.f43 tmps).run Tryz.prog w = .ok t.val w := by
  have c0 : w.cell? ⟨H, 0, none⟩ = some (.int .i64 t.num) := hb.cell 0
  have c1 : w.cell? ⟨H, 1, none⟩ = some (.string t.sym) := hb.cell 1
  have c2 : w.cell? ⟨H, 2, none⟩ = some (.int .i64 t.price) := hb.cell 2
  have c3 : w.cell? ⟨H, 3, none⟩ = some (.int .i64 t.qty) := hb.cell 3
  have c4 : w.cell? ⟨H, 4, none⟩ = some (.int .i64 t.buy) := hb.cell 4
  have c5 : w.cell? ⟨H, 5, none⟩ = some (.int .i64 t.sell) := hb.cell 5
  have c6 : w.cell? ⟨H, 6, none⟩ = some (.int .i64 t.day) := hb.cell 6
  simp only [Array.getD_eq_getD_getElem?] at ht
  simp [results, Tryz.results43, go_sem, ht, c0, c1, c2, c3, c4, c5, c6, Tr.val]

set_option maxRecDepth 100000 in
set_option maxHeartbeats 1000000 in
theorem handedOut_any (t : Tr) (w : World) (hs : t.sym.size ≤ 100000) : Calls Tryz.prog 43 #[t.val] w fun e w' => e = .returned t.val ∧ Chg Non w w' := by
  obtain ⟨tn, ts, tp, tq, tbu, tse, td⟩ := t
  simp only [Tr.val] at hs ⊢
  obtain ⟨w1, hw1⟩ : ∃ w1, w1 = (w.alloc (.cells #[.int .i64 tn, .string ts, .int .i64 tp, .int .i64 tq, .int .i64 tbu, .int .i64 tse, .int .i64 td] 56)).alloc (.cells #[.int .i64 0, .string ⟨#[]⟩, .int .i64 0, .int .i64 0, .int .i64 0, .int .i64 0, .int .i64 0] 56) := ⟨_, rfl⟩
  have k1 : Chg Non w w1 := by rw [hw1]; exact ((Chg.refl Non w).alloc _).alloc _
  have b1 : Blk w1 w.heap.size #[.int .i64 tn, .string ts, .int .i64 tp, .int .i64 tq, .int .i64 tbu, .int .i64 tse, .int .i64 td] 56 := by rw [hw1]; exact (Blk.new w _ _).alloc _
  have r1 : Blk w1 (w.heap.size + 1) #[.int .i64 0, .string ⟨#[]⟩, .int .i64 0, .int .i64 0, .int .i64 0, .int .i64 0, .int .i64 0] 56 := by rw [hw1]; exact Blk.new1 w _ _ _
  have HW := hide hw1
  clear hw1
  go_enter Tryz.func43, Tryz.ntmps43
  go_wp2_with fail
  rw [← unhide HW]
  refine (clone_any ts w1 hs).mono ?_
  rintro e w2 ⟨rfl, k2⟩
  have b2 := k2.blk b1 (fun x => x)
  have r2 := k2.blk r1 (fun x => x)
  have kk := k1.trans k2
  have t0 : w2.cell? ⟨w.heap.size, 0, none⟩ = some (.int .i64 tn) := b2.cell 0
  have t1 : w2.cell? ⟨w.heap.size, 1, none⟩ = some (.string ts) := b2.cell 1
  have t2 : w2.cell? ⟨w.heap.size, 2, none⟩ = some (.int .i64 tp) := b2.cell 2
  have t3 : w2.cell? ⟨w.heap.size, 3, none⟩ = some (.int .i64 tq) := b2.cell 3
  have t4 : w2.cell? ⟨w.heap.size, 4, none⟩ = some (.int .i64 tbu) := b2.cell 4
  have t5 : w2.cell? ⟨w.heap.size, 5, none⟩ = some (.int .i64 tse) := b2.cell 5
  have t6 : w2.cell? ⟨w.heap.size, 6, none⟩ = some (.int .i64 td) := b2.cell 6
  have g1 := b2.frozen 1
  have u0 : w2.cell? ⟨w.heap.size + 1, 0, none⟩ = some (.int .i64 0) := r2.cell 0
  have u1 : w2.cell? ⟨w.heap.size + 1, 1, none⟩ = some (.string ⟨#[]⟩) := r2.cell 1
  have u2 : w2.cell? ⟨w.heap.size + 1, 2, none⟩ = some (.int .i64 0) := r2.cell 2
  have u3 : w2.cell? ⟨w.heap.size + 1, 3, none⟩ = some (.int .i64 0) := r2.cell 3
  have u4 : w2.cell? ⟨w.heap.size + 1, 4, none⟩ = some (.int .i64 0) := r2.cell 4
  have u5 : w2.cell? ⟨w.heap.size + 1, 5, none⟩ = some (.int .i64 0) := r2.cell 5
  have u6 : w2.cell? ⟨w.heap.size + 1, 6, none⟩ = some (.int .i64 0) := r2.cell 6
  have q0 := r2.frozen 0
  have q1 := r2.frozen 1
  have q2 := r2.frozen 2
  have q3 := r2.frozen 3
  have q4 := r2.frozen 4
  have q5 := r2.frozen 5
  have q6 := r2.frozen 6
  have HB2 := hide b2
  have HR2 := hide r2
  have HK := hide kk
  clear b1 r1 b2 r2 k1 k2 kk
  go_wp2
  refine bodyPost_ret (res32 _ (w.heap.size + 1) _ ⟨tn, ts, tp, tq, tbu, tse, td⟩ rfl ?_) rfl ⟨rfl, ?_⟩
  · exact ((((((((unhide HR2).other (a := ⟨w.heap.size, 1, none⟩) (by simp) _).set 0 _).set 1 _).set 2 _).set 3 _).set 4 _).set 5 _).set 6 _
  · exact ((((((((unhide HK).setCell (p := ⟨w.heap.size, 1, none⟩) (.inr (Nat.le_refl _)) _).setCell (p := ⟨w.heap.size + 1, 0, none⟩) (.inr (by simp)) _).setCell (p := ⟨w.heap.size + 1, 1, none⟩) (.inr (by simp)) _).setCell (p := ⟨w.heap.size + 1, 2, none⟩) (.inr (by simp)) _).setCell (p := ⟨w.heap.size + 1, 3, none⟩) (.inr (by simp)) _).setCell (p := ⟨w.heap.size + 1, 4, none⟩) (.inr (by simp)) _).setCell (p := ⟨w.heap.size + 1, 5, none⟩) (.inr (by simp)) _).setCell (p := ⟨w.heap.size + 1, 6, none⟩) (.inr (by simp)) _

theorem info64 : (Tryz.prog.info? 56).map (fun i => (i.zero.map (fun z => z.cells.size), i.size, i.bytes)) = some (some 7, 7, 64) := by kernel_rfl
theorem info64_parts : ∃ i z, Tryz.prog.info? 56 = some i ∧ i.zero = some z ∧ i.size = 7 ∧ i.bytes = 64 ∧ z.cells.size = 7 := by
  have h := info64
  cases hi : Tryz.prog.info? 56 with
  | none => rw [hi] at h; simp at h
  | some i =>
    rw [hi] at h
    simp at h
    obtain ⟨⟨z, hz, hs⟩, h2, h3⟩ := h
    exact ⟨i, z, rfl, hz, h2, h3, hs⟩

theorem news7 (w : World) (t : Tr) : ∀ j u, t.cells[j]? = some u → (w.alloc (.cells #[.int .i64 t.num, .string t.sym, .int .i64 t.price, .int .i64 t.qty, .int .i64 t.buy, .int .i64 t.sell, .int .i64 t.day] 56)).cell? (Addr.add ⟨w.heap.size, 0, none⟩ j) = some u := by
  intro j u hj
  exact World.news_of_block (Blk.new w #[.int .i64 t.num, .string t.sym, .int .i64 t.price, .int .i64 t.qty, .int .i64 t.buy, .int .i64 t.sell, .int .i64 t.day] 56) j u hj

def Rowy (n₀ : Nat) (w : World) (v : Value) : Prop := ∃ m xs, m ≤ 1000000 ∧ w.ownsRow n₀ 56 7 v m xs

set_option maxHeartbeats 2000000 in
set_option maxRecDepth 100000 in
theorem trades_any (bv bm bo : Nat) (G : Lg) (lm : Lm) (w : World) (hL : IsLog w bv bm bo G lm) (hsy : SyOK G) (hlen : G.tr.length ≤ 1000000) :
    Calls Tryz.prog 20 #[.pointer (some ⟨bv, 0, none⟩)] w fun e w' => ∃ a n c, e = .returned (.slice a n c) ∧ Chg Non w w' := by
  obtain ⟨n, hn⟩ : ∃ n, G.tr.length = n := ⟨_, rfl⟩
  obtain ⟨pa, pc, htv⟩ := hL.log.tvForm hn
  have v2 : w.cell? ⟨bv, 2, none⟩ = some (.slice pa n pc) := by rw [← htv]; exact hL.ven.cell 2
  have HX : Hid (∀ i, i < n → ∃ g b x, pa = some ⟨g, 0, none⟩ ∧ w.cell? ⟨g, i, none⟩ = some (.pointer (some ⟨b, 0, none⟩)) ∧ Blk w b (Tg.cells x) 105 ∧ x.t.sym.size ≤ 100000) := by
    intro i hi
    have hi' : i < G.tr.length := by omega
    obtain ⟨g, cap, b, h1, h2, _, h4⟩ := hL.log.at (List.getElem?_eq_getElem hi')
    rw [htv] at h1
    simp only [Value.slice.injEq] at h1
    exact ⟨g, b, _, h1.1, h2, h4, hsy _ (List.getElem_mem hi')⟩
  rw [hn] at hlen
  clear hL htv hn hsy
  go_enter Tryz.func20, Tryz.ntmps20
  go_wp2
  go_loopg [3, 5, 11] n (fun k al _ iv wr => ∃ i m : Nat, iv = .int .i64 (i : Int) ∧ i ≤ n ∧ m ≤ i ∧ k = n - i ∧ (∃ xs, wr.ownsRow w.heap.size 56 7 al m xs) ∧ Chg Non w wr)
  case atStart => exact ⟨0, 0, rfl, Nat.zero_le _, Nat.le_refl _, rfl, ⟨[], World.ownsRow_nil _ _ _ _⟩, Chg.refl _ _⟩
  case round =>
    obtain ⟨i, m, rfl, hi, hmi, hgk, ⟨xs, hrow⟩, kr⟩ := hrel
    by_cases hlt : i < n
    · obtain ⟨g, b, x, rfl, c1, hb, hsz⟩ := unhide HX i hlt
      have c1' := kr.cell c1 (fun x => x)
      have hb' := kr.blk hb (fun x => x)
      have c7 : wr.cell? ⟨b, 7, none⟩ = some (.bool x.holds) := hb'.cell 7
      have t0 : wr.cell? ⟨b, 0, none⟩ = some (.int .i64 x.t.num) := hb'.cell 0
      have t1 : wr.cell? ⟨b, 1, none⟩ = some (.string x.t.sym) := hb'.cell 1
      have t2 : wr.cell? ⟨b, 2, none⟩ = some (.int .i64 x.t.price) := hb'.cell 2
      have t3 : wr.cell? ⟨b, 3, none⟩ = some (.int .i64 x.t.qty) := hb'.cell 3
      have t4 : wr.cell? ⟨b, 4, none⟩ = some (.int .i64 x.t.buy) := hb'.cell 4
      have t5 : wr.cell? ⟨b, 5, none⟩ = some (.int .i64 x.t.sell) := hb'.cell 5
      have t6 : wr.cell? ⟨b, 6, none⟩ = some (.int .i64 x.t.day) := hb'.cell 6
      have HRow := hide hrow
      have HK := hide kr
      clear hrow kr hb hb' c1
      cases hh : x.holds
      · rw [hh] at c7
        go_wp2
        go_roundg (n - (i + 1))
        case measure => omega
        case rel => exact ⟨i + 1, m, by push_cast; rfl, by omega, by omega, rfl, ⟨xs, unhide HRow⟩, unhide HK⟩
      · rw [hh] at c7
        obtain ⟨va, vc, rfl⟩ : ∃ va vc, u3 = .slice va m vc := by
          rcases (unhide HRow).2 with ⟨h, h0⟩ | ⟨g, cap, cs, h, _⟩
          · exact ⟨none, 0, by rw [h, h0]⟩
          · exact ⟨_, cap, h⟩
        have HH := hide (handedOut_any x.t wr hsz)
        go_wp2_with fail
        refine (unhide HH).mono ?_
        rintro e w2 ⟨rfl, k2⟩
        have hrow2 := own_kept (unhide HRow) k2 (fun _ _ x => x)
        have hmx : m + 1 ≤ maxLen := by unfold maxLen; omega
        have hm24 : (m + 1) * 64 ≤ 140737488355328 := by omega
        obtain ⟨i0, z0, hi0, hz0, hz1, hz2, hz3⟩ := info64_parts
        have hrow3 := hrow2.alloc (.cells #[.int .i64 x.t.num, .string x.t.sym, .int .i64 x.t.price, .int .i64 x.t.qty, .int .i64 x.t.buy, .int .i64 x.t.sell, .int .i64 x.t.day] 56)
        have hbs : w.heap.size ≤ w2.heap.size := by have := (unhide HK).size; have := k2.size; omega
        have HR3 := hide hrow3
        have HK2 := hide ((unhide HK).trans k2)
        have hone : ∀ u ∈ x.t.cells, u.oneCell' = true := by simp [Tr.cells, Value.oneCell']
        clear hrow2 hrow3 k2 c7 t0 t1 t2 t3 t4 t5 t6 c1'
        simp only [Tr.val]
        go_wp2_with (at_builtin; refine wpList_append_own _ rfl _ _ 39 rfl w.heap.size 56 i0 z0 7 64 Tryz.underlying39 hi0 hz0 hz1 hz2 hz3 (by decide) _ m xs rfl (unhide HR3) ⟨w2.heap.size, 0, none⟩ 1 1 x.t.cells rfl rfl (news7 _ _) hone hmx hm24 (by simp; omega) ?_; intro v' w4 hown' hgrow hnil; clear hnil)
        change (w2.alloc _).grownBy w4 (Value.slice va m vc).ownBlock at hgrow
        go_wp2
        go_roundg (n - (i + 1))
        case measure => omega
        case rel =>
          refine ⟨i + 1, m + 1, by push_cast; rfl, by omega, by omega, rfl, ⟨_, hown'⟩, ?_⟩
          refine Chg.grown ((unhide HK2).alloc _) hgrow (fun k e => .inr ?_)
          rcases (unhide HR3).2 with ⟨h, _⟩ | ⟨g2, cap2, cs2, h, hg2, _⟩
          · simp only [Value.slice.injEq] at h
            rw [h.1] at e
            exact absurd e (by simp [Value.ownBlock])
          · simp only [Value.slice.injEq] at h
            rw [h.1] at e
            have e' : g2 = k := by simpa [Value.ownBlock] using e
            omega
    · obtain rfl : i = n := by omega
      obtain ⟨va, vc, rfl⟩ : ∃ va vc, u3 = .slice va m vc := by
        rcases hrow.2 with ⟨h, h0⟩ | ⟨g, cap, cs, h, _⟩
        · exact ⟨none, 0, by rw [h, h0]⟩
        · exact ⟨_, cap, h⟩
      go_wp2
      go_ret
      exact ⟨_, _, _, rfl, kr⟩

end Go.Proofs.YtigaphnafnpfnaaGreatDoor

