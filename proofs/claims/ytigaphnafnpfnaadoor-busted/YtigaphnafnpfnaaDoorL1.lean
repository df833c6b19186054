import Derived.Test.YtigaphnafnpfnaaDoorB3
import Derived.Deep.QuietTactic
import Derived.BigQuiet
import Derived.BigRegion
import Derived.Deep.RegionWith
import Derived.Deep.RegionHeld3
import Derived.Deep.DrawnRows
import Derived.Deep.RegionLaw
import Derived.Deep.AppendLies
set_option linter.unusedVariables false
set_option linter.unusedSimpArgs false
/- The venue's log: trades, tape, day. -/
namespace Go.Proofs.YtigaphnafnpfnaaDoor
open Go.RowKit
attribute [local go_sem ↓] Go.wp_at_zero Go.wp_at_succ

structure Tr where
  num : Int
  sym : ByteArray
  price : Int
  qty : Int
  buy : Int
  sell : Int
  day : Int

def Tr.cells (t : Tr) : List Value := [.int .i64 t.num, .string t.sym, .int .i64 t.price, .int .i64 t.qty, .int .i64 t.buy, .int .i64 t.sell, .int .i64 t.day]
def Tr.val (t : Tr) : Value := .agg #[.int .i64 t.num, .string t.sym, .int .i64 t.price, .int .i64 t.qty, .int .i64 t.buy, .int .i64 t.sell, .int .i64 t.day]

structure Tg where
  t : Tr
  holds : Bool

def Tg.cells (g : Tg) : Array Value := #[.int .i64 g.t.num, .string g.t.sym, .int .i64 g.t.price, .int .i64 g.t.qty, .int .i64 g.t.buy, .int .i64 g.t.sell, .int .i64 g.t.day, .bool g.holds]

structure Rc where
  num : Int
  kind : Int
  t : Tr

def Rc.cells (r : Rc) : List Value := [.int .i64 r.num, .int .i64 r.kind, .int .i64 r.t.num, .string r.t.sym, .int .i64 r.t.price, .int .i64 r.t.qty, .int .i64 r.t.buy, .int .i64 r.t.sell, .int .i64 r.t.day]
def flatR (rs : List Rc) : List Value := rs.flatMap Rc.cells

theorem flatR_snoc (rs : List Rc) (r : Rc) : flatR (rs ++ [r]) = flatR rs ++ r.cells := by simp [flatR, List.flatMap_append]
theorem flatR_length (rs : List Rc) : (flatR rs).length = rs.length * 9 := by
  induction rs with
  | nil => rfl
  | cons r rs ih => simp only [flatR, List.flatMap_cons, List.length_append, List.length_cons] at ih ⊢; rw [ih]; simp only [Rc.cells, List.length_cons, List.length_nil]; omega

/-- what an act notes so that it can be put back: an order as it was; one that left; one that came to rest, and its place before; an id, a symbol, a trade that is new; a trade that held, or had another price; the day -/
inductive Back where
  | now (b : Nat) (o : Ord)
  | left (b : Nat)
  | rested (b : Nat) (p : Int)
  | entered (id : Int)
  | listed (s : ByteArray)
  | traded (t : Tr)
  | busted (tb : Nat)
  | priced (tb : Nat) (p : Int)
  | closed

/-- what was traded, what was told, the day; how many acts, and what the last of them has noted -/
structure Lg where
  tr : List Tg
  tp : List Rc
  day : Int
  na : Nat
  nt : List Back

/-- where they lie -/
structure Lm where
  tv : Value
  pv : Value
  tb : List Nat
  av : Value
  ac : List (Value × List Value)
  jv : Value
  jn : List Value

/-- the blocks of the acts -/
def ActF (av : Value) (ac : List (Value × List Value)) (b : Nat) : Prop := av.ownBlock = some b ∨ ∃ a, a ∈ ac ∧ a.1.ownBlock = some b

def Lm.F (m : Lm) (b : Nat) : Prop := m.tv.ownBlock = some b ∨ (m.pv.ownBlock = some b ∨ m.jv.ownBlock = some b) ∨ b ∈ m.tb ∨ ActF m.av m.ac b


def venC (bm bo : Nat) (m : Lm) (day : Int) : Array Value := #[.map (some bm), .map (some bo), m.tv, m.pv, .int .i64 day, m.av, m.jv]

theorem own_blk {w : World} {base e size n : Nat} {v : Value} {xs : List Value} (h : w.ownsRow base e size v n xs) {b : Nat} (hb : v.ownBlock = some b) : ∃ cs, Blk w b cs e := by
  rcases h.2 with ⟨rfl, _⟩ | ⟨g, cap, cs, rfl, _, hg, _⟩
  · simp [Value.ownBlock] at hb
  · simp only [Value.ownBlock, Option.some.injEq] at hb
    subst hb
    exact ⟨cs, hg⟩

structure ActV (w : World) (av : Value) (ac : List (Value × List Value)) (na nf : Nat) : Prop where
  row : w.ownsRow 0 96 1 av ac.length (ac.map Prod.fst)
  own : ∀ a, a ∈ ac → w.ownsRow 0 1 1 a.1 a.2.length a.2
  dis : (ac.filterMap (fun a => a.1.ownBlock)).Nodup
  len : ac.length = na
  last : ∀ a, ac.getLast? = some a → a.2.length = nf

theorem ActV.typ {w : World} {av : Value} {ac : List (Value × List Value)} {na nf : Nat} (h : ActV w av ac na nf) {b : Nat} (hb : ActF av ac b) : ∃ cs t, Blk w b cs t ∧ (t = 96 ∨ t = 1) := by
  rcases hb with hb | ⟨a, ha, hb⟩
  · obtain ⟨cs, hc⟩ := own_blk h.row hb; exact ⟨cs, 96, hc, .inl rfl⟩
  · obtain ⟨cs, hc⟩ := own_blk (h.own a ha) hb; exact ⟨cs, 1, hc, .inr rfl⟩

theorem own_kept {w w' : World} {base e size n : Nat} {v : Value} {xs : List Value} (h : w.ownsRow base e size v n xs) {S : Nat → Prop} (k : Chg S w w') (hS : ∀ b, v.ownBlock = some b → ¬ S b) : w'.ownsRow base e size v n xs := by
  refine ⟨h.1, ?_⟩
  rcases h.2 with h | ⟨g, cap, cs, rfl, h1, hg, h3⟩
  · exact .inl h
  · exact .inr ⟨g, cap, cs, rfl, h1, k.blk hg (hS g rfl), h3⟩

theorem ActV.kept {w w' : World} {av : Value} {ac : List (Value × List Value)} {na nf : Nat} (h : ActV w av ac na nf) {S : Nat → Prop} (k : Chg S w w') (hS : ∀ b, ActF av ac b → ¬ S b) : ActV w' av ac na nf :=
  ⟨own_kept h.row k (fun b hb => hS b (.inl hb)), fun a ha => own_kept (h.own a ha) k (fun b hb => hS b (.inr ⟨a, ha, hb⟩)), h.dis, h.len, h.last⟩

structure LogVp (w : World) (G : Lg) (m : Lm) (q : Nat) : Prop where
  trow : w.ownsRow 0 77 1 m.tv G.tr.length (m.tb.map ptrT)
  prow : w.ownsRow 0 102 9 m.pv G.tp.length (flatR G.tp)
  len : m.tb.length = G.tr.length
  blk : ∀ (i b : Nat) (g : Tg), m.tb[i]? = some b → G.tr[i]? = some g → Blk w b g.cells 84
  nodup : m.tb.Nodup
  act : ActV w m.av m.ac G.na G.nt.length
  jrow : w.ownsRow 0 5 1 m.jv m.jn.length m.jn
  jb : m.jn.length ≤ 300 * q

abbrev LogV (w : World) (G : Lg) (m : Lm) : Prop := LogVp w G m G.na

structure IsLogp (w : World) (bv bm bo : Nat) (G : Lg) (m : Lm) (q : Nat) : Prop where
  ven : Blk w bv (venC bm bo m G.day) 62
  log : LogVp w G m q

abbrev IsLog (w : World) (bv bm bo : Nat) (G : Lg) (m : Lm) : Prop := IsLogp w bv bm bo G m G.na

theorem LogVp.typ {w : World} {G : Lg} {m : Lm} {q : Nat} (h : LogVp w G m q) {b : Nat} (hb : m.F b) : ∃ cs t, Blk w b cs t ∧ (t = 77 ∨ t = 102 ∨ t = 84 ∨ t = 96 ∨ t = 1 ∨ t = 5) := by
  rcases hb with hb | (hb | hb) | hb | hb
  · obtain ⟨cs, hc⟩ := own_blk h.trow hb; exact ⟨cs, 77, hc, .inl rfl⟩
  · obtain ⟨cs, hc⟩ := own_blk h.prow hb; exact ⟨cs, 102, hc, .inr (.inl rfl)⟩
  · obtain ⟨cs, hc⟩ := own_blk h.jrow hb; exact ⟨cs, 5, hc, .inr (.inr (.inr (.inr (.inr rfl))))⟩
  · obtain ⟨i, hi, e⟩ := List.mem_iff_getElem.1 hb
    have hj : i < G.tr.length := by rw [← h.len]; exact hi
    exact ⟨_, 84, h.blk i b _ (by rw [List.getElem?_eq_getElem hi, e]) (List.getElem?_eq_getElem hj), .inr (.inr (.inl rfl))⟩
  · obtain ⟨cs, t, hc, ht⟩ := h.act.typ hb
    exact ⟨cs, t, hc, ht.elim (fun e => .inr (.inr (.inr (.inl e)))) (fun e => .inr (.inr (.inr (.inr (.inl e)))))⟩

theorem LogVp.lt {w : World} {G : Lg} {m : Lm} {q : Nat} (h : LogVp w G m q) {b : Nat} (hb : m.F b) : b < w.heap.size := by
  obtain ⟨cs, t, hc, _⟩ := h.typ hb
  exact hc.lt

/-- a block of another type is none of the log's -/
theorem LogVp.ne {w : World} {G : Lg} {m : Lm} {q : Nat} (h : LogVp w G m q) {b : Nat} {c : Array Value} {t : TypeId} (hb : Blk w b c t) (h1 : t ≠ 77) (h2 : t ≠ 102) (h3 : t ≠ 84) (h4 : t ≠ 96 := by decide) (h5 : t ≠ 1 ∧ t ≠ 5 := by decide) : ¬ m.F b := by
  intro hf
  obtain ⟨cs, t', hc, ht⟩ := h.typ hf
  unfold Blk at hb hc
  rw [hb] at hc
  simp only [Option.some.injEq, Obj.cells.injEq] at hc
  obtain ⟨_, e, _⟩ := hc
  subst e
  rcases ht with e | e | e | e | e | e
  · exact h1 e
  · exact h2 e
  · exact h3 e
  · exact h4 e
  · exact h5.1 e
  · exact h5.2 e

theorem LogVp.kept {w w' : World} {G : Lg} {m : Lm} {q : Nat} (h : LogVp w G m q) {S : Nat → Prop} (k : Chg S w w') (hS : ∀ b, m.F b → ¬ S b) : LogVp w' G m q :=
  ⟨own_kept h.trow k (fun b hb => hS b (.inl hb)), own_kept h.prow k (fun b hb => hS b (.inr (.inl (.inl hb)))), h.len,
    fun i b g hi hg => k.blk (h.blk i b g hi hg) (hS b (.inr (.inr (.inl (List.mem_of_getElem? hi))))), h.nodup, h.act.kept k (fun b hb => hS b (.inr (.inr (.inr hb)))), own_kept h.jrow k (fun b hb => hS b (.inr (.inl (.inr hb)))), h.jb⟩

theorem IsLogp.kept {w w' : World} {bv bm bo : Nat} {G : Lg} {m : Lm} {q : Nat} (h : IsLogp w bv bm bo G m q) {S : Nat → Prop} (k : Chg S w w') (h1 : ¬ S bv) (hS : ∀ b, m.F b → ¬ S b) : IsLogp w' bv bm bo G m q :=
  ⟨k.blk h.ven h1, h.log.kept k hS⟩

theorem IsLogp.kept0 {w w' : World} {bv bm bo : Nat} {G : Lg} {m : Lm} {q : Nat} (h : IsLogp w bv bm bo G m q) (k : Chg Non w w') : IsLogp w' bv bm bo G m q := h.kept k (fun x => x) (fun _ _ x => x)

theorem IsLogp.bvne {w : World} {bv bm bo : Nat} {G : Lg} {m : Lm} {q : Nat} (h : IsLogp w bv bm bo G m q) : ¬ m.F bv := h.log.ne h.ven (by decide) (by decide) (by decide)

/-- a record more -/
def Lg.told (G : Lg) (kind : Int) (t : Tr) : Lg := { G with tp := G.tp ++ [⟨(G.tp.length : Int) + 1, kind, t⟩] }

theorem info96 : (Tryd.prog.info? 102).map (fun i => (i.zero.map (fun z => z.cells.size), i.size, i.bytes)) = some (some 9, 9, 80) := by kernel_rfl
theorem info98 : (Tryd.prog.info? 77).map (fun i => (i.zero, i.size, i.bytes)) = some (some (.pointer none), 1, 8) := by kernel_rfl

theorem info96_parts : ∃ i z, Tryd.prog.info? 102 = some i ∧ i.zero = some z ∧ i.size = 9 ∧ i.bytes = 80 ∧ z.cells.size = 9 := by
  have h := info96
  cases hi : Tryd.prog.info? 102 with
  | none => rw [hi] at h; simp at h
  | some i =>
    rw [hi] at h
    simp at h
    obtain ⟨⟨z, hz, hs⟩, h2, h3⟩ := h
    exact ⟨i, z, rfl, hz, h2, h3, hs⟩

theorem news9 (w : World) (r : Rc) : ∀ j u, r.cells[j]? = some u → (w.alloc (.cells #[.int .i64 r.num, .int .i64 r.kind, .int .i64 r.t.num, .string r.t.sym, .int .i64 r.t.price, .int .i64 r.t.qty, .int .i64 r.t.buy, .int .i64 r.t.sell, .int .i64 r.t.day] 102)).cell? (Addr.add ⟨w.heap.size, 0, none⟩ j) = some u := by
  intro j u hj
  have hb := Blk.new w #[.int .i64 r.num, .int .i64 r.kind, .int .i64 r.t.num, .string r.t.sym, .int .i64 r.t.price, .int .i64 r.t.qty, .int .i64 r.t.buy, .int .i64 r.t.sell, .int .i64 r.t.day] 102
  have e : Addr.add ⟨w.heap.size, 0, none⟩ j = ⟨w.heap.size, j, none⟩ := by simp [Addr.add]; omega
  rw [e, hb.cell, ← hj]
  simp [Rc.cells]

theorem own_ne {w : World} {base e size n : Nat} {v : Value} {xs : List Value} (h : w.ownsRow base e size v n xs) {b : Nat} (hb : v.ownBlock = some b) {b' : Nat} {c : Array Value} {t : TypeId} (hb' : Blk w b' c t) (ht : e ≠ t) : b ≠ b' := by
  obtain ⟨cs, hc⟩ := own_blk h hb
  exact Blk.ne hc hb' ht

/-- the tape has grown: what is so behind it -/
theorem IsLogp.tapeGrown {w1 w2 : World} {bv bm bo : Nat} {G : Lg} {m : Lm} (h : IsLog w1 bv bm bo G m) {n H g cap : Nat} {r : Rc} (hn : G.tp.length = n) (hown : w2.ownsRow 0 102 9 (.slice (some ⟨g, 0, none⟩) (n + 1) cap) (n + 1) (flatR G.tp ++ r.cells)) (hgrow : w1.grownBy w2 m.pv.ownBlock) (hat : m.pv.ownBlock = some g ∨ g = H) (hH : w1.heap.size = H) :
    IsLog (w2.setCell ⟨bv, 3, none⟩ (.slice (some ⟨g, 0, none⟩) (n + 1) cap)) bv bm bo { G with tp := G.tp ++ [r] } { m with pv := .slice (some ⟨g, 0, none⟩) (n + 1) cap } ∧
      (∀ b, Lm.F { m with pv := .slice (some ⟨g, 0, none⟩) (n + 1) cap } b → m.F b ∨ H ≤ b) ∧ Chg (fun b => b = bv ∨ m.pv.ownBlock = some b) w1 (w2.setCell ⟨bv, 3, none⟩ (.slice (some ⟨g, 0, none⟩) (n + 1) cap)) := by
  have hb2 : Blk w2 bv (venC bm bo m G.day) 62 := (hgrow.block bv h.ven.lt (fun e => h.bvne (.inr (.inl (.inl e.symm))))).trans h.ven
  have k2 : Chg (fun b => b = bv ∨ m.pv.ownBlock = some b) w1 (w2.setCell ⟨bv, 3, none⟩ (.slice (some ⟨g, 0, none⟩) (n + 1) cap)) :=
    ((Chg.refl _ w1).grown hgrow (fun k e => .inl (.inr e))).setCell (p := ⟨bv, 3, none⟩) (.inl (.inl rfl)) _
  have k3 : Chg (fun b => b = bv) w2 (w2.setCell ⟨bv, 3, none⟩ (.slice (some ⟨g, 0, none⟩) (n + 1) cap)) := (Chg.refl (fun b => b = bv) w2).setCell (p := ⟨bv, 3, none⟩) (.inl rfl) _
  refine ⟨⟨hb2.set 3 _, ?_⟩, ?_, k2⟩
  · refine ⟨own_kept h.log.trow k2 ?_, ?_, h.log.len, fun i b g hi hg => k2.blk (h.log.blk i b g hi hg) ?_, h.log.nodup, h.log.act.kept k2 ?_, own_kept h.log.jrow k2 ?_, h.log.jb⟩
    · rintro b hb (e | e)
      · exact own_ne h.log.trow hb h.ven (by decide) e
      · obtain ⟨cs, hc⟩ := own_blk h.log.prow e
        exact own_ne h.log.trow hb hc (by decide) rfl
    · simp only [List.length_append, List.length_cons, List.length_nil, hn, flatR_snoc]
      refine own_kept hown k3 (fun b hb e => ?_)
      exact own_ne hown hb hb2 (by decide) e
    · have hbk := h.log.blk i b g hi hg
      rintro (e | e)
      · exact Blk.ne hbk h.ven (by decide) e
      · exact own_ne h.log.prow e hbk (by decide) rfl
    · intro b hb
      obtain ⟨cs, t, hc, ht⟩ := h.log.act.typ hb
      rintro (e | e)
      · exact Blk.ne hc h.ven (by rcases ht with rfl | rfl <;> decide) e
      · exact own_ne h.log.prow e hc (by rcases ht with rfl | rfl <;> decide) rfl
    · rintro b hb (e | e)
      · exact own_ne h.log.jrow hb h.ven (by decide) e
      · obtain ⟨cs, hc⟩ := own_blk h.log.prow e
        exact own_ne h.log.jrow hb hc (by decide) rfl
  · rintro b (hb | (hb | hb) | hb)
    · exact .inl (.inl hb)
    · simp only [Value.ownBlock, Option.some.injEq] at hb
      rcases hat with e | e
      · exact .inl (.inr (.inl (.inl (by rw [e, hb]))))
      · right; omega
    · exact .inl (.inr (.inl (.inr hb)))
    · exact .inl (.inr (.inr hb))

end Go.Proofs.YtigaphnafnpfnaaDoor
