import Derived.Test.YtigaphnafnpfnaaDoorL1
import Derived.Test.YtigaphnafnpfnaaDoorJ1
import Derived.Lib.AppendStr
set_option linter.unusedVariables false
set_option linter.unusedSimpArgs false
/- The journal grows by a line. -/
namespace Go.Proofs.YtigaphnafnpfnaaDoor
open Go.RowKit
attribute [local go_sem ↓] Go.wp_at_zero Go.wp_at_succ

theorem infoU8 : ∃ i, Tryd.prog.info? 5 = some i ∧ i.zero = some (.int .u8 0) ∧ i.size = 1 ∧ i.bytes = 1 := by
  have h : (Tryd.prog.info? 5).map (fun i => (i.zero, i.size, i.bytes)) = some (some (.int .u8 0), 1, 1) := by kernel_rfl
  cases hi : Tryd.prog.info? 5 with
  | none => rw [hi] at h; simp at h
  | some i =>
    rw [hi] at h
    simp at h
    exact ⟨i, rfl, h.1, h.2.1, h.2.2⟩

/-- a string's bytes behind a row: which block holds them then -/
theorem append_str {P : Program} (w : World) (t u ty e : TypeId) (i : TypeInfo) (ht : P.underlying t = some (.slice e)) (hu : P.underlying u = some .string) (hi : P.info? e = some i) (hz : i.zero = some (.int .u8 0)) (hsize : i.size = 1) (hby : i.bytes = 1)
    (v : Value) (n : Nat) (xs : List Value) (hown : w.ownsRow 0 e 1 v n xs) (s : ByteArray) (hs0 : 0 < s.size) (hb : n + s.size ≤ 1000000000) :
    ∃ g cap w', (Builtin.append_ #[t, u] ty #[v, .string s]).run P w = .ok (.slice (some ⟨g, 0, none⟩) (n + s.size) cap) w' ∧ w'.ownsRow 0 e 1 (.slice (some ⟨g, 0, none⟩) (n + s.size) cap) (n + s.size) (xs ++ Lib.strCells s) ∧ w.grownBy w' v.ownBlock ∧ (v.ownBlock = some g ∨ g = w.heap.size) := by
  obtain ⟨v', w', hr, h2, h3, h4⟩ := Lib.run_append_own_string (P := P) w 0 t u ty e i ht hu hi hz hsize hby v n xs hown s (by unfold maxLen; omega) (by omega) (by omega)
  have hx : ∃ g cap, v' = .slice (some ⟨g, 0, none⟩) (n + s.size) cap ∧ (v.ownBlock = some g ∨ g = w.heap.size) := by
    have hxl : xs.length = n := by simpa using hown.1
    rcases hown.2 with ⟨rfl, rfl⟩ | ⟨g, cap, cur, rfl, hbg, hg, hnc, hcm, hcs, htake⟩
    · have hr2 := run_append_nil_string (P := P) w t u ty e i (.int .u8 0) ht hu hi hz s hs0 (by omega) (by rw [hby]; omega)
      rw [hr] at hr2
      injection hr2 with e1 _
      exact ⟨_, _, by rw [e1, Nat.zero_add], .inr rfl⟩
    · by_cases hroom : n + s.size ≤ cap
      · have hr2 := Lib.run_append_room_string (P := P) w t u ty e i ht hu hi hsize g n cap cur hg s hroom (by omega)
        rw [hr] at hr2
        injection hr2 with e1 _
        exact ⟨_, _, e1, .inl rfl⟩
      · have holds : ∀ j u, xs[j]? = some u → w.cell? ((⟨g, 0, none⟩ : Addr).add j) = some u := World.ownsRow.cells (g := g) ⟨hown.1, .inr ⟨g, cap, cur, rfl, hbg, hg, hnc, hcm, hcs, htake⟩⟩ rfl
        have hr2 := Lib.run_append_grow_string (P := P) w t u ty e i (.int .u8 0) ht hu hi hz ⟨g, 0, none⟩ n cap xs (by rw [hsize]; simpa using hxl) holds s (by omega) (by omega) (by rw [hby]; exact growslice_fits (by omega) (by omega))
        rw [hr] at hr2
        injection hr2 with e1 _
        exact ⟨_, _, e1, .inr rfl⟩
  obtain ⟨g, cap, rfl, hg⟩ := hx
  exact ⟨g, cap, w', hr, h2, h3, hg⟩

theorem wpList_append_str {P : Program} {w : World} {ops : Array Oper} {rest : List Oper} {o : Oper} {a : Act} {Q : Exit → Act → World → Prop} (hgd : o.guard = none) (sl x : Operand) (t u : TypeId)
    (ho : o.op = .call { callee := .builtin .append, args := #[sl, x], argTypes := #[t, u] })
    (e : TypeId) (i : TypeInfo) (ht : P.underlying t = some (.slice e)) (hu : P.underlying u = some .string) (hi : P.info? e = some i) (hz : i.zero = some (.int .u8 0)) (hsize : i.size = 1) (hby : i.bytes = 1)
    (v : Value) (n : Nat) (xs : List Value) (hs : a.eval sl = v) (hown : w.ownsRow 0 e 1 v n xs) (s : ByteArray) (hx : a.eval x = .string s) (hs0 : 0 < s.size) (hb : n + s.size ≤ 1000000000)
    (h : ∀ g cap w', w'.ownsRow 0 e 1 (.slice (some ⟨g, 0, none⟩) (n + s.size) cap) (n + s.size) (xs ++ Lib.strCells s) → w.grownBy w' v.ownBlock → (v.ownBlock = some g ∨ g = w.heap.size) → wpList P ops Q rest (a.put o.dst (.slice (some ⟨g, 0, none⟩) (n + s.size) cap)) w') : wpList P ops Q (o :: rest) a w := by
  refine wpList_plain hgd fun K hK => ?_
  obtain ⟨g, cap, w', hr, h2, h3, h4⟩ := append_str (P := P) w t u o.type e i ht hu hi hz hsize hby v n xs hown s hs0 hb
  unfold Oper.wp execOp
  simp only [ho, resolve, invoke, builtin, Sem.run_bind, Sem.run_pure, Result.andThen_ok, List.map_toArray, List.map_cons, List.map_nil, hs, hx, hr]
  exact hK _ _ (h g cap w' h2 h3 h4)

/-- the form of a slice that owns its row -/
theorem own_form0 {w : World} {base e size n : Nat} {v : Value} {xs : List Value} (h : w.ownsRow base e size v n xs) : ∃ a c, v = .slice a n c := by
  rcases h.2 with ⟨h, h0⟩ | ⟨g, cap, cs, h, _⟩
  · exact ⟨none, 0, by rw [h, h0]⟩
  · exact ⟨_, cap, h⟩

/-- the journal is another one -/
theorem IsLogp.setJ {w w4 : World} {bv bm bo : Nat} {G : Lg} {m : Lm} {q q' n : Nat} (h : IsLogp w bv bm bo G m q) (k : Chg (fun b => m.jv.ownBlock = some b) w w4) {jv : Value} {jn : List Value} (hn : jn.length = n) (hown : w4.ownsRow 0 5 1 jv n jn) (hq : n ≤ 300 * q') :
    IsLogp (w4.setCell ⟨bv, 6, none⟩ jv) bv bm bo G { m with jv := jv, jn := jn } q' ∧ Chg (fun b => b = bv ∨ m.jv.ownBlock = some b) w (w4.setCell ⟨bv, 6, none⟩ jv) := by
  subst hn
  have no : ∀ {b c t}, Blk w b c t → t ≠ 5 → ¬ (m.jv.ownBlock = some b) := fun hb ht e => own_ne h.log.jrow e hb (fun e => ht e.symm) rfl
  have b4 : Blk w4 bv (venC bm bo m G.day) 62 := k.blk h.ven (no h.ven (by decide))
  have k5 : Chg (fun b => b = bv) w4 (w4.setCell ⟨bv, 6, none⟩ jv) := (Chg.refl (fun b => b = bv) w4).setCell (p := ⟨bv, 6, none⟩) (.inl rfl) _
  have kk : Chg (fun b => b = bv ∨ m.jv.ownBlock = some b) w (w4.setCell ⟨bv, 6, none⟩ jv) := (k.mono (fun b e => .inr e)).trans (k5.mono (fun b e => .inl e))
  have no2 : ∀ {b c t}, Blk w b c t → t ≠ 5 → t ≠ 62 → ¬ (b = bv ∨ m.jv.ownBlock = some b) := by
    rintro b c t hb h5 h0 (e | e)
    · exact Blk.ne hb h.ven h0 e
    · exact no hb h5 e
  refine ⟨⟨b4.set 6 _, ?_⟩, kk⟩
  refine ⟨own_kept h.log.trow kk ?_, own_kept h.log.prow kk ?_, h.log.len, fun i b g hi hg => kk.blk (h.log.blk i b g hi hg) (no2 (h.log.blk i b g hi hg) (by decide) (by decide)), h.log.nodup, h.log.act.kept kk ?_, own_kept hown k5 (fun b hb e => own_ne hown hb b4 (by decide) e), hq⟩
  · intro b hb
    obtain ⟨cs, hc⟩ := own_blk h.log.trow hb
    exact no2 hc (by decide) (by decide)
  · intro b hb
    obtain ⟨cs, hc⟩ := own_blk h.log.prow hb
    exact no2 hc (by decide) (by decide)
  · intro b hb
    obtain ⟨cs, t, hc, ht⟩ := h.log.act.typ hb
    exact no2 hc (by rcases ht with rfl | rfl <;> decide) (by rcases ht with rfl | rfl <;> decide)

set_option maxRecDepth 100000 in
set_option maxHeartbeats 1000000 in
theorem write_any (bv bm bo : Nat) (G : Lg) (m : Lm) (q : Nat) (line : ByteArray) (w : World) (hL : IsLogp w bv bm bo G m q) (hq : q < 1000000) (h0 : 0 < line.size) (hl : line.size ≤ 290) :
    Calls Tryd.prog 42 #[.pointer (some ⟨bv, 0, none⟩), .string line] w fun e w' => e = .returned (.tuple #[]) ∧
      ∃ jv jn, IsLogp w' bv bm bo G { m with jv := jv, jn := jn } (q + 1) ∧ (∀ b, jv.ownBlock = some b → m.jv.ownBlock = some b ∨ w.heap.size ≤ b) ∧ Chg (fun b => b = bv ∨ m.jv.ownBlock = some b) w w' := by
  obtain ⟨n, hn⟩ : ∃ n, m.jn.length = n := ⟨_, rfl⟩
  have hrow := hL.log.jrow
  have hjb := hL.log.jb
  rw [hn] at hrow hjb
  obtain ⟨pa, pcap, hjv⟩ := own_form0 hrow
  rw [hjv] at hrow
  have v6 : w.cell? ⟨bv, 6, none⟩ = some (.slice pa n pcap) := (hL.ven.cell 6).trans (by rw [← hjv]; rfl)
  have f6 := hL.ven.frozen 6
  have lv := hL.ven.lt
  obtain ⟨i0, hi0, hz0, hz1, hz2⟩ := infoU8
  have hbd : n + line.size ≤ 1000000000 := by omega
  have hmx : n + line.size + 1 ≤ maxLen := by unfold maxLen; omega
  have hm24 : (n + line.size + 1) * 1 ≤ 140737488355328 := by omega
  have HR := hide hrow
  have HL := hide hL
  have HJV := hide hjv
  have HN := hide hn
  have hnb : (Value.slice pa n pcap).ownBlock ≠ some bv := fun e => own_ne hrow e hL.ven (by decide) rfl
  have HNB := hide hnb
  have HB := hide hL.ven
  clear hrow hL hjv hn hnb
  go_enter Tryd.func42, Tryd.ntmps42
  go_wp2_with (at_builtin; first
    | (refine wpList_append_str rfl _ _ 60 9 rfl 5 i0 Tryd.underlying60 Tryd.underlying9 hi0 hz0 hz1 hz2 (.slice pa n pcap) n _ rfl (unhide HR) line rfl h0 hbd ?_; intro g cap w2 hown2 hgrow hat; have HO2 := hide hown2; have HG2 := hide hgrow; have HA2 := hide hat; have b2 : Blk w2 bv (venC bm bo m G.day) 62 := (hgrow.block bv lv (fun e => unhide HNB e.symm)).trans (unhide HB); have HB2 := hide b2; clear hown2 hgrow hat b2)
    | (refine wpList_append_lies _ rfl _ _ 60 rfl 0 5 i0 (.int .u8 0) 1 1 Tryd.underlying60 hi0 hz0 hz1 hz2 rfl (by decide) (.slice (some ⟨g, 0, none⟩) (n + line.size) cap) (n + line.size) _ rfl (own_kept (unhide HO2) ((Chg.refl Non w2).alloc _) (fun _ _ x => x)) ⟨w2.heap.size, 0, none⟩ 1 1 [.int .u8 10] rfl rfl (World.news_of_block (Blk.new w2 #[.int .u8 10] 5)) (by simp [Value.oneCell']) (by omega) hmx hm24 (by omega) (w2.heap.size + 1) (by simp) ?_; intro g4 cap4 w4 hown4 hgrow4 hat4 hlt4; have HO4 := hide hown4; have HG4 := hide hgrow4; have HA4 := hide hat4; have b4 : Blk w4 bv (venC bm bo m G.day) 62 := (hgrow4.block bv (((unhide HB2).alloc _).lt) (fun e => Blk.ne (unhide HB2) (own_blk (unhide HO2) (show (Value.slice (some ⟨g, 0, none⟩) (n + line.size) cap).ownBlock = some bv from e.symm)).choose_spec (by decide) rfl)).trans ((unhide HB2).alloc _); have v64 := b4.cell 6; have f64 := b4.frozen 6; simp only [venC] at v64; simp at v64; clear hown4 hgrow4 hat4 b4))
  go_end0
  have hj := unhide HJV
  have k2 : Chg (fun b => m.jv.ownBlock = some b) w w2 := (Chg.refl _ w).grown (unhide HG2) (fun k e => .inl (by rw [hj]; exact e))
  have k4 : Chg (fun b => m.jv.ownBlock = some b) w w4 := (k2.alloc _).grown (unhide HG4) (fun k e => by
    simp only [Value.ownBlock, Option.some.injEq] at e
    subst e
    rcases unhide HA2 with e | e
    · exact .inl (by rw [hj]; exact e)
    · exact .inr (by omega))
  have o4 := unhide HO4
  have hlen : ((m.jn ++ Lib.strCells line) ++ [Value.int .u8 10]).length = n + line.size + 1 := by have := o4.1; omega
  have hs := (unhide HL).setJ k4 (q' := q + 1) hlen o4 (by omega)
  refine ⟨rfl, _, _, hs.1, ?_, hs.2⟩
  intro b hb
  simp only [Value.ownBlock, Option.some.injEq] at hb
  subst hb
  rcases unhide HA4 with e | e
  · simp only [Value.ownBlock, Option.some.injEq] at e
    subst e
    rcases unhide HA2 with e | e
    · exact .inl (by rw [hj]; exact e)
    · exact .inr (by omega)
  · have := k2.size
    exact .inr (by omega)

end Go.Proofs.YtigaphnafnpfnaaDoor
