import Derived.Test.YtigaphnafnpfnaaDoorL1
import Derived.Test.YtigaphnafnpfnaaDoorJ4
import Derived.Deep.QuietTactic
import Derived.BigQuiet
import Derived.BigRegion
import Derived.Deep.RegionWith
import Derived.Deep.RegionLaw
import Derived.Deep.AppendLies
set_option linter.unusedVariables false
set_option linter.unusedSimpArgs false
/- The acts: begin, note. -/
namespace Go.Proofs.YtigaphnafnpfnaaDoor
open Go.RowKit
attribute [local go_sem ↓] Go.wp_at_zero Go.wp_at_succ

theorem append_types (w : World) (ty : TypeId) (a b : Option Addr) (n c m k : Nat) : (Builtin.append_ #[96, 95] ty #[.slice a n c, .slice b m k]).run Tryd.prog w = (Builtin.append_ #[96, 96] ty #[.slice a n c, .slice b m k]).run Tryd.prog w := by kernel_rfl

theorem info1 : ∃ i, Tryd.prog.info? 1 = some i ∧ i.zero = some .nilFunc ∧ i.size = 1 ∧ i.bytes = 8 := by
  have h : (Tryd.prog.info? 1).map (fun i => (i.zero, i.size, i.bytes)) = some (some .nilFunc, 1, 8) := by kernel_rfl
  cases hi : Tryd.prog.info? 1 with
  | none => rw [hi] at h; simp at h
  | some i => rw [hi] at h; simp at h; exact ⟨i, rfl, h.1, h.2.1, h.2.2⟩

theorem info91 : ∃ i, Tryd.prog.info? 96 = some i ∧ i.zero = some (.slice none 0 0) ∧ i.size = 1 ∧ i.bytes = 24 := by
  have h : (Tryd.prog.info? 96).map (fun i => (i.zero, i.size, i.bytes)) = some (some (.slice none 0 0), 1, 24) := by kernel_rfl
  cases hi : Tryd.prog.info? 96 with
  | none => rw [hi] at h; simp at h
  | some i => rw [hi] at h; simp at h; exact ⟨i, rfl, h.1, h.2.1, h.2.2⟩

/-- append of functions to an act, at a step of a region that draws its order -/
theorem step_append_act {ops : Array Oper} {o : Oper} {a : Act} {K : Act → World → Prop} {Q : Exit → Act → World → Prop} {E : Prop} {w : World} (hgd : o.guard = none) (s x : Operand)
    (ho : o.op = .call { callee := .builtin .append, args := #[s, x], argTypes := #[96, 95] })
    (sa : Option Addr) (n sc : Nat) (xs : List Value) (hs : a.eval s = .slice sa n sc) (hown : w.ownsRow 0 1 1 (.slice sa n sc) n xs)
    (ad : Addr) (m c : Nat) (news : List Value) (hx : a.eval x = .slice (some ad) m c) (hl : news.length = m * 1) (hnews : ∀ j u, news[j]? = some u → w.cell? (ad.add j) = some u) (h1 : ∀ u ∈ news, u.oneCell' = true)
    (hm : 0 < m) (hb : n + m ≤ 2000000) (H : Nat) (hH : w.heap.size = H)
    (h : ∀ g cap w', w'.ownsRow 0 1 1 (.slice (some ⟨g, 0, none⟩) (n + m) cap) (n + m) (xs ++ news) → w.grownBy w' (Value.slice sa n sc).ownBlock → ((Value.slice sa n sc).ownBlock = some g ∨ g = H) → g < w'.heap.size → K (a.put o.dst (.slice (some ⟨g, 0, none⟩) (n + m) cap)) w') :
    if Region.wanted o (yielded ops a.tmps) = true then Oper.wp Tryd.prog o a w K Q else E := by
  have hw : Region.wanted o (yielded ops a.tmps) = true := by simp [Region.wanted, hgd]
  rw [if_pos hw]
  obtain ⟨i, hi, hz, hsz, hby⟩ := info1
  obtain ⟨g, cap, w', hr, h2, h3, h4, h5⟩ := run_append_lies (P := Tryd.prog) w 96 o.type 0 1 i .nilFunc 1 8 Tryd.underlying96 hi hz hsz hby rfl (by decide) (.slice sa n sc) n xs hown ad m c news hl hnews h1 hm (by unfold maxLen; omega) (by omega) (by omega) H hH
  rw [← append_types] at hr
  unfold Oper.wp execOp
  simp only [ho, resolve, invoke, builtin, Sem.run_bind, Sem.run_pure, Result.andThen_ok, List.map_toArray, List.map_cons, List.map_nil, hs, hx, hr]
  exact h g cap w' h2 h3 h4 h5

def Lg.begun (G : Lg) : Lg := { G with na := G.na + 1, nt := [] }
def Lg.noted (G : Lg) (ds : List Back) : Lg := { G with nt := G.nt ++ ds }

theorem own_form {w : World} {base e size n : Nat} {v : Value} {xs : List Value} (h : w.ownsRow base e size v n xs) : ∃ a c, v = .slice a n c := own_form0 h

/-- a new act -/
theorem IsLogp.grewAct {w1 w2 : World} {bv bm bo : Nat} {G : Lg} {m : Lm} {q : Nat} (h : IsLogp w1 bv bm bo G m q) (hq : q ≤ G.na + 1) {n H g cap : Nat} (hn : G.na = n) (hown : w2.ownsRow 0 96 1 (.slice (some ⟨g, 0, none⟩) (n + 1) cap) (n + 1) (m.ac.map Prod.fst ++ [.slice none 0 0])) (hgrow : w1.grownBy w2 m.av.ownBlock) (hat : m.av.ownBlock = some g ∨ g = H) (hH : w1.heap.size = H) :
    IsLog (w2.setCell ⟨bv, 5, none⟩ (.slice (some ⟨g, 0, none⟩) (n + 1) cap)) bv bm bo G.begun { m with av := .slice (some ⟨g, 0, none⟩) (n + 1) cap, ac := m.ac ++ [(.slice none 0 0, [])] } ∧
      (∀ b, Lm.F { m with av := .slice (some ⟨g, 0, none⟩) (n + 1) cap, ac := m.ac ++ [(.slice none 0 0, [])] } b → m.F b ∨ H ≤ b) ∧ Chg (fun b => b = bv ∨ m.av.ownBlock = some b) w1 (w2.setCell ⟨bv, 5, none⟩ (.slice (some ⟨g, 0, none⟩) (n + 1) cap)) := by
  have hb2 : Blk w2 bv (venC bm bo m G.day) 62 := (hgrow.block bv h.ven.lt (fun e => h.bvne (.inr (.inr (.inr (.inl e.symm)))))).trans h.ven
  have k2 : Chg (fun b => b = bv ∨ m.av.ownBlock = some b) w1 (w2.setCell ⟨bv, 5, none⟩ (.slice (some ⟨g, 0, none⟩) (n + 1) cap)) :=
    ((Chg.refl _ w1).grown hgrow (fun k e => .inl (.inr e))).setCell (p := ⟨bv, 5, none⟩) (.inl (.inl rfl)) _
  have k3 : Chg (fun b => b = bv) w2 (w2.setCell ⟨bv, 5, none⟩ (.slice (some ⟨g, 0, none⟩) (n + 1) cap)) := (Chg.refl (fun b => b = bv) w2).setCell (p := ⟨bv, 5, none⟩) (.inl rfl) _
  have no : ∀ {b c t}, Blk w1 b c t → t ≠ 62 → t ≠ 96 → ¬ (b = bv ∨ m.av.ownBlock = some b) := by
    rintro b c t hb h0 h1 (e | e)
    · exact Blk.ne hb h.ven h0 e
    · exact own_ne h.log.act.row e hb (fun e => h1 e.symm) rfl
  refine ⟨⟨hb2.set 5 _, ?_⟩, ?_, k2⟩
  · refine ⟨own_kept h.log.trow k2 ?_, own_kept h.log.prow k2 ?_, h.log.len, fun i b g hi hg => k2.blk (h.log.blk i b g hi hg) (no (h.log.blk i b g hi hg) (by decide) (by decide)), h.log.nodup, ⟨?_, ?_, ?_, ?_, ?_⟩, own_kept h.log.jrow k2 ?_, Nat.le_trans h.log.jb (Nat.mul_le_mul_left 300 hq)⟩
    · intro b hb
      obtain ⟨cs, hc⟩ := own_blk h.log.trow hb
      exact no hc (by decide) (by decide)
    · intro b hb
      obtain ⟨cs, hc⟩ := own_blk h.log.prow hb
      exact no hc (by decide) (by decide)
    · have hl : (m.ac ++ [((.slice none 0 0 : Value), ([] : List Value))]).length = n + 1 := by rw [List.length_append, h.log.act.len, hn]; rfl
      simp only [hl, List.map_append, List.map_cons, List.map_nil]
      exact own_kept hown k3 (fun b hb e => own_ne hown hb hb2 (by decide) e)
    · intro a ha
      rcases List.mem_append.1 ha with ha | ha
      · refine own_kept (h.log.act.own a ha) k2 (fun b hb => ?_)
        obtain ⟨cs, hc⟩ := own_blk (h.log.act.own a ha) hb
        exact no hc (by decide) (by decide)
      · simp only [List.mem_singleton] at ha
        subst ha
        exact World.ownsRow_nil _ _ _ _
    · rw [List.filterMap_append]
      simpa [Value.ownBlock] using h.log.act.dis
    · show _ = G.na + 1
      rw [List.length_append, h.log.act.len]; rfl
    · intro a ha
      rw [List.getLast?_append] at ha
      simp at ha
      rw [← ha]
      rfl
    · intro b hb
      obtain ⟨cs, hc⟩ := own_blk h.log.jrow hb
      exact no hc (by decide) (by decide)
  · rintro b (hb | hb | hb | hb | ⟨a, ha, hb⟩)
    · exact .inl (.inl hb)
    · exact .inl (.inr (.inl hb))
    · exact .inl (.inr (.inr (.inl hb)))
    · simp only [Value.ownBlock, Option.some.injEq] at hb
      rcases hat with e | e
      · exact .inl (.inr (.inr (.inr (.inl (by rw [e, hb])))))
      · right; omega
    · rcases List.mem_append.1 ha with ha | ha
      · exact .inl (.inr (.inr (.inr (.inr ⟨a, ha, hb⟩))))
      · simp only [List.mem_singleton] at ha
        subst ha
        simp [Value.ownBlock] at hb

set_option maxRecDepth 100000 in
set_option maxHeartbeats 1000000 in
theorem begin_act (bv bm bo : Nat) (G : Lg) (m : Lm) (line : ByteArray) (w : World) (hL : IsLog w bv bm bo G m) (hna : G.na < 1000000) (h0 : 0 < line.size) (hl : line.size ≤ 290) :
    Calls Tryd.prog 17 #[.pointer (some ⟨bv, 0, none⟩), .string line] w fun e w' => e = .returned (.tuple #[]) ∧
      ∃ m', IsLog w' bv bm bo G.begun m' ∧ (∀ b, m'.F b → m.F b ∨ w.heap.size ≤ b) ∧ Chg (fun b => b = bv ∨ m.av.ownBlock = some b ∨ m.jv.ownBlock = some b) w w' ∧ m'.tb = m.tb := by
  obtain ⟨n, hn⟩ : ∃ n, G.na = n := ⟨_, rfl⟩
  have hav : ∃ pa pcap, m.av = .slice pa n pcap := by
    have hrow := hL.log.act.row
    rw [hL.log.act.len, hn] at hrow
    exact own_form hrow
  obtain ⟨pa, pcap, hav⟩ := hav
  obtain ⟨i0, hi0, hz0, hz1, hz2⟩ := info91
  have hmx : n + 1 ≤ maxLen := by unfold maxLen; omega
  have hm24 : (n + 1) * 24 ≤ 140737488355328 := by omega
  have HWr := hide (write_any bv bm bo G m G.na line w hL hna h0 hl)
  have HL := hide hL
  have HAV := hide hav
  have HN := hide hn
  clear hL hav hn
  go_enter Tryd.func17, Tryd.ntmps17
  go_wp2_with (first
    | (go_at_call 42; refine (unhide HWr).mono ?_; rintro e wq ⟨rfl, jv, jn, hLq, hFq, hkq⟩; have HLq := hide hLq; have HFq := hide hFq; have HKq := hide hkq; have v5 : wq.cell? ⟨bv, 5, none⟩ = some (.slice pa n pcap) := (hLq.ven.cell 5).trans (by rw [← unhide HAV]; rfl); have f5 := hLq.ven.frozen 5; have lv := hLq.ven.lt; have hrow : wq.ownsRow 0 96 1 (.slice pa n pcap) n (m.ac.map Prod.fst) := (by have hr := hLq.log.act.row; simp only at hr; rw [hLq.log.act.len, unhide HN, unhide HAV] at hr; exact hr); have HR := hide hrow; clear hLq hFq hkq hrow)
    | (at_builtin; refine wpList_append_lies _ rfl _ _ 59 rfl 0 96 i0 (.slice none 0 0) 1 24 Tryd.underlying59 hi0 hz0 hz1 hz2 rfl (by decide) (.slice pa n pcap) n _ rfl (own_kept (unhide HR) ((Chg.refl Non wq).alloc _) (fun _ _ x => x)) ⟨wq.heap.size, 0, none⟩ 1 1 [.slice none 0 0] rfl rfl (World.news_of_block (Blk.new wq #[.slice none 0 0] 96)) (by simp [Value.oneCell']) (by omega) hmx hm24 (by omega) (wq.heap.size + 1) (by simp) ?_; intro g cap w2 hown2 hgrow hat hlt; have HO2 := hide hown2; have HG2 := hide hgrow; have HA2 := hide hat; have b2 : Blk w2 bv (venC bm bo { m with jv := jv, jn := jn } G.day) 62 := (hgrow.block bv ((unhide HLq).ven.alloc _).lt (fun e => (unhide HLq).bvne (.inr (.inr (.inr (.inl (by show m.av.ownBlock = _; rw [unhide HAV]; exact e.symm))))))).trans ((unhide HLq).ven.alloc _); have v52 := b2.cell 5; have f52 := b2.frozen 5; simp only [venC] at v52; simp at v52; clear hown2 hgrow hat b2))
  go_end0
  have k1 : Chg Non wq (wq.alloc (.cells #[.slice none 0 0] 96)) := (Chg.refl Non wq).alloc _
  have hg := ((unhide HLq).kept0 k1).grewAct (Nat.le_refl _) (unhide HN) (unhide HO2) (by show World.grownBy _ w2 m.av.ownBlock; rw [unhide HAV]; exact unhide HG2) (by show m.av.ownBlock = _ ∨ _; rw [unhide HAV]; exact unhide HA2) (by simp)
  have kq := unhide HKq
  refine ⟨rfl, _, hg.1, fun b hb => ?_, ?_, rfl⟩
  · rcases hg.2.1 b hb with h | h
    · rcases h with h | (h | h) | h | h
      · exact .inl (.inl h)
      · exact .inl (.inr (.inl (.inl h)))
      · exact (unhide HFq b h).imp_left (fun h => .inr (.inl (.inr h)))
      · exact .inl (.inr (.inr (.inl h)))
      · exact .inl (.inr (.inr (.inr h)))
    · have := kq.size
      exact .inr (by omega)
  · exact (kq.mono (fun b h => h.imp_right .inr)).trans ((k1.of_non.trans hg.2.2).mono (fun b h => h.imp_right .inl))

theorem begin_any (bv bm bo : Nat) (G : Lg) (m : Lm) (line : ByteArray) (w : World) (hL : IsLog w bv bm bo G m) (hna : G.na < 1000000) (h0 : 0 < line.size) (hl : line.size ≤ 290) :
    Calls Tryd.prog 17 #[.pointer (some ⟨bv, 0, none⟩), .string line] w fun e w' => e = .returned (.tuple #[]) ∧
      ∃ m', IsLog w' bv bm bo G.begun m' ∧ (∀ b, m'.F b → m.F b ∨ w.heap.size ≤ b) ∧ Chg (fun b => b = bv ∨ m.F b) w w' := by
  refine (begin_act bv bm bo G m line w hL hna h0 hl).mono ?_
  rintro e w' ⟨rfl, m', h1, h2, h3, _⟩
  exact ⟨rfl, m', h1, h2, h3.mono (fun b h => h.imp_right (fun h => h.elim (fun h => .inr (.inr (.inr (.inl h)))) (fun h => .inr (.inl (.inr h)))))⟩

theorem set_last {α : Type} (l : List α) (x y : α) : (l ++ [x]).set l.length y = l ++ [y] := by
  induction l with
  | nil => rfl
  | cons a l ih => simp only [List.cons_append, List.length_cons, List.set_cons_succ, ih]

/-- the last act has noted more -/
theorem IsLogp.grewNote {w1 w2 : World} {bv bm bo : Nat} {G : Lg} {m : Lm} (h : IsLog w1 bv bm bo G m) {init : List (Value × List Value)} {hd : Value} {fs news : List Value} {ds : List Back} {n k ga acap g cap c H : Nat} (hac : m.ac = init ++ [(hd, fs)]) (hav : m.av = .slice (some ⟨ga, 0, none⟩) n acap) (hn : G.na = n) (hk : k + 1 = n)
    (hown : w2.ownsRow 0 1 1 (.slice (some ⟨g, 0, none⟩) (fs.length + c) cap) (fs.length + c) (fs ++ news)) (hgrow : w1.grownBy w2 hd.ownBlock) (hat : hd.ownBlock = some g ∨ g = H) (hH : w1.heap.size = H) (hds : ds.length = c) :
    IsLog (w2.setCell ⟨ga, k, none⟩ (.slice (some ⟨g, 0, none⟩) (fs.length + c) cap)) bv bm bo (G.noted ds) { m with ac := init ++ [(.slice (some ⟨g, 0, none⟩) (fs.length + c) cap, fs ++ news)] } ∧
      (∀ b, Lm.F { m with ac := init ++ [(.slice (some ⟨g, 0, none⟩) (fs.length + c) cap, fs ++ news)] } b → m.F b ∨ H ≤ b) ∧ Chg (fun b => ActF m.av m.ac b) w1 (w2.setCell ⟨ga, k, none⟩ (.slice (some ⟨g, 0, none⟩) (fs.length + c) cap)) ∧
      (∀ b, ActF m.av (init ++ [(.slice (some ⟨g, 0, none⟩) (fs.length + c) cap, fs ++ news)]) b → ActF m.av m.ac b ∨ H ≤ b) := by
  have hA := h.log.act
  have hlast : (hd, fs) ∈ m.ac := by rw [hac]; simp
  have hga : m.av.ownBlock = some ga := by rw [hav]; rfl
  have hlen : init.length = k := by
    have := hA.len
    rw [hac, hn, List.length_append] at this
    simp at this
    omega
  have hne : hd.ownBlock ≠ some ga := fun e => by
    obtain ⟨cs, hc⟩ := own_blk (hA.own _ hlast) e
    exact own_ne hA.row hga hc (by decide) rfl
  have k2 : Chg (fun b => b = ga ∨ hd.ownBlock = some b) w1 (w2.setCell ⟨ga, k, none⟩ (.slice (some ⟨g, 0, none⟩) (fs.length + c) cap)) :=
    ((Chg.refl _ w1).grown hgrow (fun k e => .inl (.inr e))).setCell (p := ⟨ga, k, none⟩) (.inl (.inl rfl)) _
  have k3 : Chg (fun b => b = ga) w2 (w2.setCell ⟨ga, k, none⟩ (.slice (some ⟨g, 0, none⟩) (fs.length + c) cap)) := (Chg.refl (fun b => b = ga) w2).setCell (p := ⟨ga, k, none⟩) (.inl rfl) _
  have no : ∀ {b c t}, Blk w1 b c t → t ≠ 96 → t ≠ 1 → ¬ (b = ga ∨ hd.ownBlock = some b) := by
    rintro b c t hb h0 h1 (e | e)
    · exact own_ne hA.row hga hb (fun e => h0 e.symm) e.symm
    · exact own_ne (hA.own _ hlast) e hb (fun e => h1 e.symm) rfl
  have hdis := hA.dis
  rw [hac, List.filterMap_append] at hdis
  have farI : ∀ a, a ∈ init → ∀ b, a.1.ownBlock = some b → hd.ownBlock ≠ some b := by
    intro a ha b hb e
    have h2 := (List.nodup_append.1 hdis).2.2
    exact h2 b (List.mem_filterMap.2 ⟨a, ha, hb⟩) b (by simp [e]) rfl
  have ltI : ∀ a, a ∈ init → ∀ b, a.1.ownBlock = some b → b < w1.heap.size := by
    intro a ha b hb
    obtain ⟨cs, hc⟩ := own_blk (hA.own a (by rw [hac]; exact List.mem_append.2 (.inl ha))) hb
    exact hc.lt
  have actS : ∀ b, ActF m.av (init ++ [(.slice (some ⟨g, 0, none⟩) (fs.length + c) cap, fs ++ news)]) b → ActF m.av m.ac b ∨ H ≤ b := by
    rintro b (hb | ⟨a, ha, hb⟩)
    · exact .inl (.inl hb)
    · rcases List.mem_append.1 ha with ha | ha
      · exact .inl (.inr ⟨a, by rw [hac]; exact List.mem_append.2 (.inl ha), hb⟩)
      · simp only [List.mem_singleton] at ha
        subst ha
        simp only [Value.ownBlock, Option.some.injEq] at hb
        subst hb
        rcases hat with e | e
        · exact .inl (.inr ⟨_, hlast, e⟩)
        · right; omega
  refine ⟨⟨k2.blk h.ven (no h.ven (by decide) (by decide)), ?_⟩, ?_, k2.mono (fun b hb => by
    rcases hb with e | e
    · subst e; exact .inl hga
    · exact .inr ⟨_, hlast, e⟩), ?_⟩
  · refine ⟨own_kept h.log.trow k2 ?_, own_kept h.log.prow k2 ?_, h.log.len, fun i b g hi hg => k2.blk (h.log.blk i b g hi hg) (no (h.log.blk i b g hi hg) (by decide) (by decide)), h.log.nodup, ⟨?_, ?_, ?_, ?_, ?_⟩, own_kept h.log.jrow k2 ?_, h.log.jb⟩
    · intro b hb
      obtain ⟨cs, hc⟩ := own_blk h.log.trow hb
      exact no hc (by decide) (by decide)
    · intro b hb
      obtain ⟨cs, hc⟩ := own_blk h.log.prow hb
      exact no hc (by decide) (by decide)
    · have hr := hA.row
      rw [hA.len, hn] at hr
      have hl : (init ++ [((.slice (some ⟨g, 0, none⟩) (fs.length + c) cap : Value), fs ++ news)]).length = n := by rw [List.length_append, hlen]; exact hk
      rcases hr.2 with ⟨e, _⟩ | ⟨g', cap', cur, e, h0, hg, h1, h2, h3, h4⟩
      · rw [hav] at e; simp at e
      · rw [hav] at e
        simp only [Value.slice.injEq, Option.some.injEq, Addr.mk.injEq] at e
        obtain ⟨⟨e1, _⟩, _, e2⟩ := e
        subst e1 e2
        have hb2 : Blk w2 ga cur 96 := (hgrow.block ga (Blk.lt hg) (fun e => hne e.symm)).trans hg
        have hb3 := hb2.set k (.slice (some ⟨g, 0, none⟩) (fs.length + c) cap)
        rw [hl]
        refine ⟨by simp only [List.length_map, hl]; omega, .inr ⟨ga, acap, _, hav, h0, hb3, h1, h2, by rw [Array.size_setIfInBounds]; exact h3, ?_⟩⟩
        rw [Array.toList_setIfInBounds, List.take_set, h4, hac]
        simp only [List.map_append, List.map_cons, List.map_nil]
        have : k = (init.map Prod.fst).length := by rw [List.length_map, hlen]
        rw [this]
        exact set_last _ _ _
    · intro a ha
      rcases List.mem_append.1 ha with ha | ha
      · have hm : a ∈ m.ac := by rw [hac]; exact List.mem_append.2 (.inl ha)
        refine own_kept (hA.own a hm) k2 ?_
        rintro b hb (e | e)
        · obtain ⟨cs, hc⟩ := own_blk (hA.own a hm) hb
          subst e
          exact own_ne hA.row hga hc (by decide) rfl
        · exact farI a ha b hb e
      · simp only [List.mem_singleton] at ha
        subst ha
        have e : (fs ++ news).length = fs.length + c := by have := hown.1; omega
        simp only [e]
        refine own_kept hown k3 (fun b hb e => ?_)
        simp only [Value.ownBlock, Option.some.injEq] at hb
        subst hb
        subst e
        obtain ⟨cs, hc⟩ := own_blk hA.row hga
        have hb2 : Blk w2 g cs 96 := (hgrow.block g hc.lt (fun e => hne e.symm)).trans hc
        exact own_ne hown rfl hb2 (by decide) rfl
    · rw [List.filterMap_append, List.nodup_append]
      refine ⟨(List.nodup_append.1 hdis).1, by simp [Value.ownBlock], ?_⟩
      intro x hx y hy e
      simp [Value.ownBlock] at hy
      subst hy
      subst e
      obtain ⟨a, ha, hb⟩ := List.mem_filterMap.1 hx
      rcases hat with e | e
      · exact farI a ha _ hb e
      · have := ltI a ha _ hb; omega
    · have : init.length + 1 = n := by omega
      simpa [hn, Lg.noted] using this
    · intro a ha
      simp at ha
      subst ha
      have h1 := hA.last (hd, fs) (by rw [hac]; simp)
      simp only at h1
      have := hown.1
      simp only [Lg.noted, List.length_append] at this ⊢
      omega
    · intro b hb
      obtain ⟨cs, hc⟩ := own_blk h.log.jrow hb
      exact no hc (by decide) (by decide)
  · rintro b (hb | hb | hb | hb)
    · exact .inl (.inl hb)
    · exact .inl (.inr (.inl hb))
    · exact .inl (.inr (.inr (.inl hb)))
    · exact (actS b hb).imp_left (fun h => .inr (.inr (.inr h)))
  · exact actS

theorem snoc_of_pos {α : Type} : ∀ l : List α, 0 < l.length → ∃ i x, l = i ++ [x]
  | [], h => absurd h (by simp)
  | [x], _ => ⟨[], x, rfl⟩
  | a :: b :: l, _ => by
    obtain ⟨i, x, e⟩ := snoc_of_pos (b :: l) (by simp)
    exact ⟨a :: i, x, by rw [e]; rfl⟩

set_option maxRecDepth 100000 in
set_option maxHeartbeats 2000000 in
theorem note_act (bv bm bo : Nat) (G : Lg) (m : Lm) (ds : List Back) (news : List Value) (sb c kc : Nat) (w : World) (hL : IsLog w bv bm bo G m) (hna : 0 < G.na) (hna2 : G.na ≤ 1000000) (hnf : G.nt.length + c < 1000000) (hc : 0 < c) (hds : ds.length = c) (hl : news.length = c) (hnews : ∀ j u, news[j]? = some u → w.cell? ((⟨sb, 0, none⟩ : Addr).add j) = some u) (hone : ∀ u ∈ news, u.oneCell' = true) :
    Calls Tryd.prog 19 #[.pointer (some ⟨bv, 0, none⟩), .slice (some ⟨sb, 0, none⟩) c kc] w fun e w' => e = .returned (.tuple #[]) ∧
      ∃ m', IsLog w' bv bm bo (G.noted ds) m' ∧ (∀ b, m'.F b → m.F b ∨ w.heap.size ≤ b) ∧ Chg (fun b => ActF m.av m.ac b) w w' ∧ (∀ b, ActF m'.av m'.ac b → ActF m.av m.ac b ∨ w.heap.size ≤ b) := by
  obtain ⟨n, hn⟩ : ∃ n, G.na = n := ⟨_, rfl⟩
  have hA := hL.log.act
  obtain ⟨init, ⟨hd, fs⟩, hac⟩ := snoc_of_pos m.ac (by rw [hA.len]; exact hna)
  have hlen := hA.len
  rw [hac, List.length_append, hn] at hlen
  simp at hlen
  obtain ⟨k, hk⟩ : ∃ k, k + 1 = n := ⟨init.length, hlen⟩
  have hrow := hA.row
  rw [hA.len, hn] at hrow
  obtain ⟨ga, acap, hav, _, hga⟩ := hrow.form (by omega)
  rcases hrow.2 with ⟨e, _⟩ | ⟨g', cap', cur, e, h0, hg, h1, h2, h3, h4⟩
  · rw [hav] at e; simp at e
  have ee := hav.symm.trans e
  simp only [Value.slice.injEq, Option.some.injEq, Addr.mk.injEq] at ee
  obtain ⟨⟨e1, _⟩, _, e2⟩ := ee
  subst e1 e2
  have hfs := hA.last (hd, fs) (by rw [hac]; simp)
  simp only at hfs
  have hown := hA.own (hd, fs) (by rw [hac]; simp)
  simp only at hown
  obtain ⟨ha, hcap, hhd⟩ := own_form hown
  rw [hfs] at hhd
  obtain ⟨q, hq⟩ : ∃ q, fs.length = q := ⟨_, rfl⟩
  rw [hq] at hown hfs
  rw [← hfs] at hhd
  rw [hhd] at hown
  have hB : Blk w ga cur 96 := hg
  have hcell : cur[k]? = some hd := by
    have : cur.toList.take (n * 1) = init.map Prod.fst ++ [hd] := by rw [h4, hac]; simp
    have h5 : (cur.toList.take (n * 1))[k]? = some hd := by
      rw [this]
      have e : k = (init.map Prod.fst).length := by rw [List.length_map]; omega
      rw [e]; simp
    rw [List.getElem?_take_of_lt (by omega)] at h5
    simpa using h5
  have cK : w.cell? ⟨ga, k, none⟩ = some (.slice ha q hcap) := by rw [hB.cell k, hcell, hhd]
  have v5 : w.cell? ⟨bv, 5, none⟩ = some (.slice (some ⟨ga, 0, none⟩) n acap) := (hL.ven.cell 5).trans (by rw [← hav]; rfl)
  have hkn : k < n := by omega
  have hki : (n : Int) - 1 = (k : Int) := by omega
  have hkw : wrap64 (k : Int) = (k : Int) := by unfold wrap64; omega
  have hnd : (Value.slice ha q hcap).ownBlock ≠ some ga := fun e => by
    obtain ⟨cs, hc⟩ := own_blk hown e
    exact Blk.ne hc hB (by decide) rfl
  have hnv : (Value.slice ha q hcap).ownBlock ≠ some bv := fun e => by
    obtain ⟨cs, hc⟩ := own_blk hown e
    exact Blk.ne hc hL.ven (by decide) rfl
  have HNv := hide hnv
  clear hnv
  have HOn := hide hown
  have HNw := hide hnews
  have HL := hide hL
  have HB := hide hB
  have HCell := hide (show cur[k]? = some (.slice ha q hcap) by rw [hcell, hhd])
  have HAC := hide hac
  have HAV := hide hav
  have HN := hide hn
  have HK := hide hk
  have HHd := hide hhd
  have HQ := hide hq
  have HOne := hide hone
  have HNd := hide hnd
  have HLn := hide hl
  have hv := hide hL.ven
  have lv := hL.ven.lt
  have hnb : q + c ≤ 2000000 := by omega
  clear hown hnews hL hB hcell hac hav hn hk hhd hq hone hnd hg hA hlen hrow h0 h1 h2 h3 h4 e hfs hl hnf
  go_enter Tryd.func19, Tryd.ntmps19
  go_wp2
  go_region_law (first | (refine step_append_act rfl (.tmp 22) (.tmp 23) rfl ha q hcap fs rfl (unhide HOn) ⟨sb, 0, none⟩ c kc news rfl (by rw [unhide HLn]; omega) (unhide HNw) (unhide HOne) hc hnb w.heap.size rfl ?_; intro g cap w2 hown2 hgrow hat hlt; have HO2 := hide hown2; have HG2 := hide hgrow; have HA2 := hide hat; have b2 : Blk w2 ga cur 96 := (hgrow.block ga hga (fun e => unhide HNd e.symm)).trans (unhide HB); have c2 : w2.cell? ⟨ga, k, none⟩ = some (.slice ha q hcap) := (b2.cell k).trans (unhide HCell); have f2 := b2.frozen k; have v52 : w2.cell? ⟨bv, 5, none⟩ = some (.slice (some ⟨ga, 0, none⟩) n acap) := (World.cell?_of_block (a := ⟨bv, 5, none⟩) (hgrow.block bv lv (fun e => unhide HNv e.symm))).trans v5; clear hown2 hgrow hat b2))
  all_goals
    go_end0
    have hh := unhide HHd
    have hg := ((unhide HL).kept0 (Chg.refl Non w).drew).grewNote (ds := ds) (c := c) (fs := fs) (news := news) (unhide HAC) (unhide HAV) (unhide HN) (unhide HK) (by rw [unhide HQ]; exact unhide HO2) (by rw [hh]; exact unhide HG2) (by rw [hh]; exact unhide HA2) rfl hds
    rw [unhide HQ] at hg
    exact ⟨rfl, _, hg.1, hg.2.1, (Chg.refl _ w).drew.trans hg.2.2.1, hg.2.2.2⟩

theorem note_any (bv bm bo : Nat) (G : Lg) (m : Lm) (ds : List Back) (news : List Value) (sb c kc : Nat) (w : World) (hL : IsLog w bv bm bo G m) (hna : 0 < G.na) (hna2 : G.na ≤ 1000000) (hnf : G.nt.length + c < 1000000) (hc : 0 < c) (hds : ds.length = c) (hl : news.length = c) (hnews : ∀ j u, news[j]? = some u → w.cell? ((⟨sb, 0, none⟩ : Addr).add j) = some u) (hone : ∀ u ∈ news, u.oneCell' = true) :
    Calls Tryd.prog 19 #[.pointer (some ⟨bv, 0, none⟩), .slice (some ⟨sb, 0, none⟩) c kc] w fun e w' => e = .returned (.tuple #[]) ∧
      ∃ m', IsLog w' bv bm bo (G.noted ds) m' ∧ (∀ b, m'.F b → m.F b ∨ w.heap.size ≤ b) ∧ Chg (fun b => m.F b) w w' := by
  refine (note_act bv bm bo G m ds news sb c kc w hL hna hna2 hnf hc hds hl hnews hone).mono ?_
  rintro e w' ⟨rfl, m', h1, h2, h3, -⟩
  exact ⟨rfl, m', h1, h2, h3.mono (fun b h => .inr (.inr (.inr h)))⟩

end Go.Proofs.YtigaphnafnpfnaaDoor
