/- Slices of integers in memory: what is read at an address, what the call itself owns; and the walk's law for append onto such a row. Nothing of the program is named. -/
import Derived.Test.YtdpmjaelbjjanaaGreatQa0
import Derived.WalkKit
import Derived.WalkSpells
import Derived.WalkLawsBesides
import Derived.Laws.CopyOwn
import Derived.Deep.QuietTactic
import Derived.BigQuiet
namespace Go.Proofs.YtdpmjaelbjjanaaGreat.Wf
open Go.RowKit
set_option linter.unusedVariables false
set_option linter.unusedSimpArgs false

/-- The n numbers zs lie at ao. -/
def Reads (k : IntKind) (w : World) (ao : Option Addr) (n : Nat) (zs : List Int) : Prop :=
  zs.length = n ∧ (n = 0 ∨ ∃ b off, ao = some ⟨b, off, none⟩ ∧ ∀ i, i < n → w.cell? ⟨b, off + i, none⟩ = some (.int k (zs.getD i 0)))

theorem Reads.at {k : IntKind} {w : World} {ao : Option Addr} {n : Nat} {zs : List Int} (h : Reads k w ao n zs) {i : Nat} (hi : i < n) :
    ∃ b off, ao = some ⟨b, off, none⟩ ∧ ∀ i, i < n → w.cell? ⟨b, off + i, none⟩ = some (.int k (zs.getD i 0)) := by
  rcases h.2 with h | h
  · omega
  · exact h

theorem Reads.nil (k : IntKind) (w : World) (ao : Option Addr) : Reads k w ao 0 [] := ⟨rfl, Or.inl rfl⟩

theorem Reads.kept {k : IntKind} {w w' : World} {ao : Option Addr} {n : Nat} {zs : List Int} (h : Reads k w ao n zs) (hb : Below w.heap.size w w') : Reads k w' ao n zs := by
  refine ⟨h.1, ?_⟩
  rcases h.2 with h | ⟨b, off, rfl, hc⟩
  · exact Or.inl h
  · exact Or.inr ⟨b, off, rfl, fun i hi => (hb.cell (World.block_lt_of_cell? w _ (hc i hi))).trans (hc i hi)⟩

/-- What was read at w is read later, where nothing below w's size has turned. -/
theorem Reads.later {k : IntKind} {w w1 w2 : World} {ao : Option Addr} {n : Nat} {zs : List Int} (h : Reads k w ao n zs) (h1 : Below w.heap.size w w1) (h2 : Below w.heap.size w1 w2) : Reads k w2 ao n zs := h.kept (h1.trans h2)

def blk (ao : Option Addr) : Option Nat := ao.map (·.block)

/-- The slice (ao, n, cap) owns its n numbers zs: it is nil, or it begins at the head of a row from block 'base' on that is not frozen. -/
def Own (k : IntKind) (e : TypeId) (w : World) (base : Nat) (ao : Option Addr) (n cap : Nat) (zs : List Int) : Prop :=
  zs.length = n ∧ ((ao = none ∧ n = 0 ∧ cap = 0) ∨
    ∃ g cur, ao = some ⟨g, 0, none⟩ ∧ base ≤ g ∧ w.heap[g]? = some (.cells cur e (0, 0)) ∧ n ≤ cap ∧ cap ≤ cur.size ∧ cur.toList.take n = zs.map (Value.int k))

section
variable {k : IntKind} {e : TypeId} {w w' : World} {base : Nat} {ao : Option Addr} {n cap : Nat} {zs : List Int}

theorem Own.nil (k : IntKind) (e : TypeId) (w : World) (base : Nat) : Own k e w base none 0 0 [] := ⟨rfl, Or.inl ⟨rfl, rfl, rfl⟩⟩

theorem row_cell {cur : Array Value} {g : Nat} (hg : w.heap[g]? = some (.cells cur e (0, 0))) (hl : zs.length = n) (ht : cur.toList.take n = zs.map (Value.int k)) (i : Nat) (hi : i < n) :
    w.cell? ⟨g, i, none⟩ = some (.int k (zs.getD i 0)) := by
  have h1 : (cur.toList.take n)[i]? = (zs.map (Value.int k))[i]? := by rw [ht]
  rw [List.getElem?_take_of_lt hi] at h1
  simp only [World.cell?, hg, Option.isSome_none, Bool.false_eq_true, if_false]
  rw [Array.getElem?_toList] at h1
  rw [h1]
  simp [List.getD_eq_getElem?_getD, show i < zs.length by omega]

theorem Own.reads (h : Own k e w base ao n cap zs) : Reads k w ao n zs := by
  refine ⟨h.1, ?_⟩
  rcases h.2 with ⟨_, h2, _⟩ | ⟨g, cur, rfl, _, hg, _, _, ht⟩
  · exact Or.inl h2
  · exact Or.inr ⟨g, 0, rfl, fun i hi => by rw [Nat.zero_add]; exact row_cell hg h.1 ht i hi⟩

theorem Own.at (h : Own k e w base ao n cap zs) {i : Nat} (hi : i < n) :
    ∃ g, ao = some ⟨g, 0, none⟩ ∧ base ≤ g ∧ g < w.heap.size ∧ (∀ i, i < n → w.cell? ⟨g, i, none⟩ = some (.int k (zs.getD i 0))) ∧ (∀ i, w.frozen? ⟨g, i, none⟩ = false) := by
  rcases h.2 with ⟨_, h2, _⟩ | ⟨g, cur, rfl, hb, hg, _, _, ht⟩
  · omega
  · exact ⟨g, rfl, hb, (Array.getElem?_eq_some_iff.1 hg).1, fun i hi => row_cell hg h.1 ht i hi, fun i => by simp [World.frozen?, hg]⟩

theorem Own.le_cap (h : Own k e w base ao n cap zs) : n ≤ cap := by
  rcases h.2 with ⟨_, h2, _⟩ | ⟨_, _, _, _, _, h2, _⟩
  · omega
  · exact h2

theorem Own.kept {row : Option Nat} (h : Own k e w base ao n cap zs) (hg : w.grownBy w' row) (hne : blk ao = none ∨ blk ao ≠ row) : Own k e w' base ao n cap zs := by
  refine ⟨h.1, ?_⟩
  rcases h.2 with h | ⟨g, cur, rfl, hb, hgg, r⟩
  · exact Or.inl h
  · refine Or.inr ⟨g, cur, rfl, hb, ?_, r⟩
    rw [hg.block g (Array.getElem?_eq_some_iff.1 hgg).1 (by simpa [blk] using hne)]
    exact hgg

theorem Own.below (h : Own k e w base ao n cap zs) (hb : Below w.heap.size w w') : Own k e w' base ao n cap zs := by
  refine ⟨h.1, ?_⟩
  rcases h.2 with h | ⟨g, cur, rfl, hbs, hgg, r⟩
  · exact Or.inl h
  · refine Or.inr ⟨g, cur, rfl, hbs, ?_, r⟩
    rw [hb.block g (Array.getElem?_eq_some_iff.1 hgg).1]
    exact hgg

theorem Own.mono (h : Own k e w base ao n cap zs) {base' : Nat} (hb : base' ≤ base) : Own k e w base' ao n cap zs := by
  refine ⟨h.1, ?_⟩
  rcases h.2 with h | ⟨g, cur, rfl, hbs, r⟩
  · exact Or.inl h
  · exact Or.inr ⟨g, cur, rfl, by omega, r⟩

theorem Own.lt (h : Own k e w base ao n cap zs) : ∀ b, blk ao = some b → base ≤ b ∧ b < w.heap.size := by
  intro b hb
  rcases h.2 with ⟨rfl, _⟩ | ⟨g, cur, rfl, hbs, hg, _⟩
  · simp [blk] at hb
  · simp [blk] at hb
    subst hb
    exact ⟨hbs, (Array.getElem?_eq_some_iff.1 hg).1⟩

theorem Own.take (h : Own k e w base ao n cap zs) {m : Nat} (hm : m ≤ n) : Own k e w base ao m cap (zs.take m) := by
  refine ⟨by rw [List.length_take, h.1]; omega, ?_⟩
  rcases h.2 with ⟨h1, h2, h3⟩ | ⟨g, cur, rfl, hbs, hg, h1, h2, ht⟩
  · exact Or.inl ⟨h1, by omega, h3⟩
  · refine Or.inr ⟨g, cur, rfl, hbs, hg, by omega, h2, ?_⟩
    rw [List.map_take, ← ht, List.take_take, Nat.min_eq_left hm]

theorem Own.trim (h : Own k e w base ao n cap zs) {c : Nat} (h1 : n ≤ c) (h2 : c ≤ cap) : Own k e w base ao n c zs := by
  refine ⟨h.1, ?_⟩
  rcases h.2 with ⟨a1, a2, a3⟩ | ⟨g, cur, rfl, hbs, hg, a1, a2, ht⟩
  · exact Or.inl ⟨a1, a2, by omega⟩
  · exact Or.inr ⟨g, cur, rfl, hbs, hg, h1, by omega, ht⟩

theorem grownBy_setCell (w : World) (g j : Nat) (v : Value) : w.grownBy (w.setCell ⟨g, j, none⟩ v) (some g) :=
  ⟨rfl, rfl, rfl, by simp [World.setCell], fun b _ hne => Below.heap_setCell _ _ _ _ (fun e => hne (by rw [e]))⟩

theorem Own.stored {g : Nat} (h : Own k e w base (some ⟨g, 0, none⟩) n cap zs) (j : Nat) (hj : j < n) (z : Int) :
    Own k e (w.setCell ⟨g, j, none⟩ (.int k z)) base (some ⟨g, 0, none⟩) n cap (zs.set j z) := by
  refine ⟨by rw [List.length_set]; exact h.1, ?_⟩
  rcases h.2 with ⟨a1, _⟩ | ⟨g', cur, hg', hbs, hg, a1, a2, ht⟩
  · cases a1
  · simp only [Option.some.injEq, Addr.mk.injEq, and_true] at hg'
    subst hg'
    refine Or.inr ⟨g, cur.setIfInBounds j (.int k z), rfl, hbs, ?_, a1, by simpa using a2, ?_⟩
    · rw [setCell_eq_setRow w g j cur e (0, 0) _ hg]
      exact setRow_heap w g cur _ e (0, 0) hg
    · rw [Array.toList_setIfInBounds, List.take_set, ht, List.map_set]

theorem Own.ofRow {v : Value} (h : w.ownsRow base e 1 v n (zs.map (Value.int k))) : ∃ ao cap, v = .slice ao n cap ∧ Own k e w base ao n cap zs := by
  have hl : zs.length = n := by simpa using h.1
  rcases h.2 with ⟨rfl, h0⟩ | ⟨g, cap, cur, rfl, hb, hg, hc, _, hs, ht⟩
  · exact ⟨none, 0, by rw [h0], hl, Or.inl ⟨rfl, h0, rfl⟩⟩
  · exact ⟨some ⟨g, 0, none⟩, cap, rfl, hl, Or.inr ⟨g, cur, rfl, hb, hg, hc, by omega, by simpa using ht⟩⟩

theorem Own.to_below {row : Option Nat} (hg : w.grownBy w' row) {B : Nat} (hB : B ≤ w.heap.size) (hr : ∀ b, row = some b → B ≤ b) : Below B w w' := (Below.refl B w).grown hg hB hr

end

theorem grownBy_none_below {w w' : World} (h : w.grownBy w' none) : Below w.heap.size w w' := (Below.refl _ w).grown h (Nat.le_refl _) (fun k e => by cases e)
theorem below_grownBy {w w' : World} (h : Below w.heap.size w w') (row : Option Nat) : w.grownBy w' row := ⟨h.os, h.tape, h.output, h.size, fun k hk _ => h.block k hk⟩
theorem grownBy_trans {a b c : World} {row : Option Nat} (h : a.grownBy b row) (g : b.grownBy c row) : a.grownBy c row :=
  ⟨g.os.trans h.os, g.tape.trans h.tape, g.output.trans h.output, Nat.le_trans h.size g.size, fun k hk hne => (g.block k (Nat.lt_of_lt_of_le hk h.size) hne).trans (h.block k hk hne)⟩

/-- Two steps, the second of which may have written to a row that is new since the first world. -/
theorem grownBy_new {a b c : World} {row row2 : Option Nat} (h : a.grownBy b row) (g : b.grownBy c row2) (hn : ∀ k, row2 = some k → row = some k ∨ a.heap.size ≤ k) : a.grownBy c row :=
  ⟨g.os.trans h.os, g.tape.trans h.tape, g.output.trans h.output, Nat.le_trans h.size g.size, fun k hk hne =>
    (g.block k (Nat.lt_of_lt_of_le hk h.size) (fun e => by
      rcases hn k e.symm with h1 | h1
      · exact hne h1.symm
      · omega)).trans (h.block k hk hne)⟩

/-- append of m numbers onto a row that the call owns (nil; with room; without): the row then owns both. -/
theorem wpList_append_int {P : Program} (w : World) {ops : Array Oper} {rest : List Oper} {o : Oper} {a : Act} {Q : Exit → Act → World → Prop}
    (hg : o.guard = none) (s x : Operand) (t : TypeId) (hop : o.op = Op.call { callee := Callee.builtin Builtin.append, args := #[s, x], argTypes := #[t, t] })
    (e : TypeId) (i : TypeInfo) (z : Value) (bytes : Nat) (h1 : P.underlying t = some (.slice e)) (h2 : P.info? e = some i) (h3 : i.zero = some z) (h4 : i.size = 1) (h5 : i.bytes = bytes) (h6 : z.cells.size = 1)
    (k : IntKind) (base : Nat) (ao : Option Addr) (n cap : Nat) (zs : List Int) (hs : a.eval s = .slice ao n cap) (hown : Own k e w base ao n cap zs)
    (ad : Addr) (m c : Nat) (ns : List Int) (hx : a.eval x = .slice (some ad) m c) (hn : ns.length = m) (hc : ∀ j, j < m → w.cell? (ad.add j) = some (.int k (ns.getD j 0)))
    (b1 : (n + m) * bytes ≤ 140737488355328) (b2 : n + m ≤ 4611686018427387904) (hbase : base ≤ w.heap.size)
    (hK : ∀ ao' cap' w', Own k e w' base ao' (n + m) cap' (zs ++ ns) → w.grownBy w' (blk ao) → wpList P ops Q rest (a.put o.dst (.slice ao' (n + m) cap')) w') :
    wpList P ops Q (o :: rest) a w := by
  have hcn : ∀ j u, (ns.map (Value.int k))[j]? = some u → w.cell? (ad.add j) = some u := by
    intro j u hu
    have hj : j < m := by
      have := (List.getElem?_eq_some_iff.1 hu).1
      simpa [hn] using this
    rw [hc j hj, ← hu]
    simp [List.getD_eq_getElem?_getD, show j < ns.length by omega]
  have hmax : n + m ≤ maxLen := by unfold maxLen; omega
  have fin : ∀ v' w1, w1.ownsRow w.heap.size e 1 v' (n + m) (zs.map (Value.int k) ++ ns.map (Value.int k)) → w.grownBy w1 none → wpList P ops Q rest (a.put o.dst v') w1 := by
    intro v' w1 ho hgr
    rw [← List.map_append] at ho
    obtain ⟨ao', cap', rfl, hown'⟩ := Own.ofRow ho
    exact hK ao' cap' w1 (hown'.mono hbase) (below_grownBy (grownBy_none_below hgr) _)
  by_cases hr : n + m ≤ cap ∧ ao ≠ none
  · rcases hown.2 with ⟨rfl, _⟩ | ⟨g, cur, rfl, hb, hgg, hle, hcs, ht⟩
    · exact absurd rfl hr.2
    · refine wpList_append_arg w hg s x t hop e i z 1 bytes h1 h2 h3 h4 h5 h6 (by decide) g 0 n cap (zs.map (Value.int k)) hs (by simp [hown.1]) ?_ ad m c (ns.map (Value.int k)) hx (by simp [hn]) hcn (ints_oneCell _ _) ?_ hmax b1 ?_ (fun hlt => by omega)
      · intro j u hu
        have hj : j < n := by
          have := (List.getElem?_eq_some_iff.1 hu).1
          simpa [hown.1] using this
        rw [Nat.zero_add, row_cell hgg hown.1 ht j hj, ← hu]
        simp [List.getD_eq_getElem?_getD, show j < zs.length by have := hown.1; omega]
      · intro _ j hj
        simp only [List.length_map, hn] at hj
        constructor
        · simp [World.cell?, hgg, show n + j < cur.size by omega]
        · simp [World.frozen?, hgg]
      · intro _
        have key : ∀ (vs : List Value) (o : Nat) (w : World) (cur : Array Value), w.heap[g]? = some (.cells cur e (0, 0)) → o + vs.length ≤ cur.size →
            ∃ cur', (w.setCells g o vs).heap[g]? = some (.cells cur' e (0, 0)) ∧ cur'.size = cur.size ∧ cur'.toList.take o = cur.toList.take o ∧ (cur'.toList.drop o).take vs.length = vs ∧ w.grownBy (w.setCells g o vs) (some g) := by
          intro vs
          induction vs with
          | nil => intro o w cur hw _; exact ⟨cur, hw, rfl, rfl, by simp, World.grownBy.refl _ _⟩
          | cons v r ih =>
            intro o w cur hw hlen
            simp only [List.length_cons] at hlen
            obtain ⟨cur', e1, e2, e3, e4, e5⟩ := ih (o + 1) (w.setCell ⟨g, o, none⟩ v) (cur.setIfInBounds o v) (by
              rw [setCell_eq_setRow w g o cur e (0, 0) _ hw]
              exact setRow_heap w g cur _ e (0, 0) hw) (by simp; omega)
            refine ⟨cur', e1, by rw [e2]; simp, ?_, ?_, grownBy_trans (grownBy_setCell w g o v) e5⟩
            · have := congrArg (List.take o) e3
              rw [List.take_take, List.take_take, Nat.min_eq_left (by omega)] at this
              rw [this, Array.toList_setIfInBounds, List.take_set_of_le (Nat.le_refl _)]
            · have hsz : cur'.toList.length = cur.size := by rw [Array.length_toList, e2]; simp
              have ho : o < cur'.toList.length := by omega
              rw [List.drop_eq_getElem_cons ho, List.length_cons, List.take_succ_cons, e4]
              congr 1
              have h5 : (cur'.toList.take (o + 1))[o]? = ((cur.setIfInBounds o v).toList.take (o + 1))[o]? := by rw [e3]
              rw [List.getElem?_take_of_lt (by omega), List.getElem?_take_of_lt (by omega), List.getElem?_eq_getElem ho, Array.getElem?_toList] at h5
              rw [Array.getElem?_setIfInBounds_self_of_lt (by omega)] at h5
              exact Option.some.inj h5
        obtain ⟨cur', e1, e2, e3, e4, e5⟩ := key (ns.map (Value.int k)) (0 + n * 1) w cur hgg (by simp [hn]; omega)
        refine hK _ _ _ ⟨by simp [hown.1, hn], Or.inr ⟨g, cur', rfl, hb, e1, hr.1, by omega, ?_⟩⟩ e5
        simp only [Nat.zero_add, Nat.mul_one, List.length_map, hn] at e3 e4
        rw [List.take_add, e3, e4, ht, List.map_append]
  · have hfull : cap < n + m ∨ ao = none := by
      by_cases h : ao = none
      · exact Or.inr h
      · left
        by_cases h' : n + m ≤ cap
        · exact absurd ⟨h', h⟩ hr
        · omega
    by_cases hm0 : ao = none ∧ m = 0
    · obtain ⟨rfl, rfl⟩ := hm0
      rcases hown.2 with ⟨_, rfl, rfl⟩ | ⟨g, cur, hgn, _⟩
      · obtain rfl : zs = [] := List.eq_nil_of_length_eq_zero hown.1
        obtain rfl : ns = [] := List.eq_nil_of_length_eq_zero hn
        refine wpList_append_own w hg s x t hop base e i z 1 bytes h1 h2 h3 h4 h5 h6 (by decide) _ _ [] hs (World.ownsRow_nil w base e 1) ad 0 c [] hx (by simp) (by simp) (by simp) (by unfold maxLen; omega) (by omega) hbase ?_
        intro v' w' ho hgr _
        obtain ⟨ao', cap', rfl, hown'⟩ := Own.ofRow (k := k) (zs := []) (by simpa using ho)
        exact hK ao' cap' w' hown' (by simpa [Value.ownBlock, blk] using hgr)
      · cases hgn
    · refine wpList_append_grows w hg s x t hop e i z 1 bytes h1 h2 h3 h4 h5 h6 (by decide) ao n cap (zs.map (Value.int k)) hs ?_ (by simp [hown.1]) ?_ ad m c (ns.map (Value.int k)) hx (by simp [hn]) hcn (ints_oneCell _ _) ?_ hmax b1 fin
      · intro h
        rcases hown.2 with ⟨_, a, b⟩ | ⟨g, cur, hgn, _⟩
        · exact ⟨a, b⟩
        · rw [h] at hgn; cases hgn
      · intro b hb j u hu
        have hj : j < n := by
          have := (List.getElem?_eq_some_iff.1 hu).1
          simpa [hown.1] using this
        obtain ⟨g, hao, _, _, hcell, _⟩ := hown.at hj
        rw [hb] at hao
        obtain rfl := Option.some.inj hao
        rw [Addr.add_lit, Nat.zero_add, hcell j hj, ← hu]
        simp [List.getD_eq_getElem?_getD, show j < zs.length by have := hown.1; omega]
      · rcases hfull with h | h
        · exact h
        · rcases hown.2 with ⟨_, a, b⟩ | ⟨g, cur, hgn, _⟩
          · have : m ≠ 0 := fun h0 => hm0 ⟨h, h0⟩
            omega
          · rw [h] at hgn; cases hgn

/-- append of one number, which lies in a block of its own that was laid just ahead. -/
theorem wpList_append_one {P : Program} (w0 : World) {ops : Array Oper} {rest : List Oper} {o : Oper} {a : Act} {Q : Exit → Act → World → Prop}
    (hg : o.guard = none) (s x : Operand) (t : TypeId) (hop : o.op = Op.call { callee := Callee.builtin Builtin.append, args := #[s, x], argTypes := #[t, t] })
    (e : TypeId) (i : TypeInfo) (z : Value) (bytes : Nat) (h1 : P.underlying t = some (.slice e)) (h2 : P.info? e = some i) (h3 : i.zero = some z) (h4 : i.size = 1) (h5 : i.bytes = bytes) (h6 : z.cells.size = 1)
    (k : IntKind) (base : Nat) (ao : Option Addr) (n cap : Nat) (zs : List Int) (y : Int) (hs : a.eval s = .slice ao n cap) (hown : Own k e w0 base ao n cap zs) (hx : a.eval x = .slice (some ⟨w0.heap.size, 0, none⟩) 1 1)
    (b1 : (n + 1) * bytes ≤ 140737488355328) (b2 : n + 1 ≤ 4611686018427387904) (hbase : base ≤ w0.heap.size)
    (hK : ∀ ao' cap' w', Own k e w' base ao' (n + 1) cap' (zs ++ [y]) → w0.grownBy w' (blk ao) → wpList P ops Q rest (a.put o.dst (.slice ao' (n + 1) cap')) w') :
    wpList P ops Q (o :: rest) a (w0.alloc (.cells #[.int k y] e)) := by
  have hb : Below w0.heap.size w0 (w0.alloc (.cells #[.int k y] e)) := (Below.refl _ _).alloc (Nat.le_refl _) _
  refine wpList_append_int _ hg s x t hop e i z bytes h1 h2 h3 h4 h5 h6 k base ao n cap zs hs (hown.below hb) ⟨w0.heap.size, 0, none⟩ 1 1 [y] hx rfl ?_ b1 b2 (by simp; omega) ?_
  · intro j hj
    obtain rfl : j = 0 := by omega
    simp [Addr.add]
  · intro ao' cap' w' hO hgr
    exact hK ao' cap' w' hO (grownBy_trans (below_grownBy hb _) hgr)

theorem row_block {w : World} {base e n cap g : Nat} {xs : List Value} (h : w.ownsRow base e 1 (.slice (some ⟨g, 0, none⟩) n cap) n xs) (hc : n = cap) : w.heap[g]? = some (.cells xs.toArray e (0, 0)) := by
  subst hc
  rcases h.2 with ⟨h, _⟩ | ⟨g', cap', cur, hv, _, hg, _, _, hs, ht⟩
  · cases h
  · simp only [Value.slice.injEq, Option.some.injEq, Addr.mk.injEq, and_true, true_and] at hv
    obtain ⟨rfl, rfl⟩ := hv
    rw [hg, ← ht, List.take_of_length_le (by simp [hs])]

/-- 'make([]T, n)' and what is copied into it whole. -/
theorem run_copy_full {P : Program} (w : World) (t ty e : TypeId) (hu : P.underlying t = some (.slice e)) (hs : (P.info? e).map (·.size) = some 1) (k : IntKind) (base g n cap : Nat) (ao : Option Addr) (zs : List Int) (cur : Array Value)
    (hg : w.heap[g]? = some (.cells cur e (0, 0))) (hsz : cur.size = n) (hb : base ≤ g) (hR : Reads k w ao n zs) :
    ∃ w2, (Builtin.copy_ #[t, t] ty #[.slice (some ⟨g, 0, none⟩) n n, .slice ao n cap]).run P w = .ok (goInt n) w2 ∧ Own k e w2 base (some ⟨g, 0, none⟩) n n zs ∧ w.grownBy w2 (some g) := by
  by_cases h0 : n = 0
  · obtain rfl : n = 0 := h0
    obtain rfl : zs = [] := List.eq_nil_of_length_eq_zero hR.1
    exact ⟨w, run_copy_none (P := P) w t t ty e _ _ 0 0 0 cap hu hs (by simp), ⟨rfl, Or.inr ⟨g, cur, rfl, hb, hg, Nat.le_refl _, by omega, by simp⟩⟩, World.grownBy.refl _ _⟩
  · obtain ⟨b, off, rfl, hc⟩ := hR.at (i := 0) (by omega)
    have hl : (zs.map (Value.int k)).length = n := by simp [hR.1]
    have hrun := run_copy_row (P := P) w t t ty e g 0 n n ⟨b, off, none⟩ n cap cur e (zs.map (Value.int k)) hu hs hg (by simp [hR.1]) (fun j v hv => by
      have hj : j < n := by have := (List.getElem?_eq_some_iff.1 hv).1; omega
      rw [Addr.add_lit, hc j hj, ← hv]
      simp [List.getD_eq_getElem?_getD, show j < zs.length by have := hR.1; omega]) (by omega) (ints_oneCell _ _)
    rw [hl] at hrun
    refine ⟨_, hrun, ⟨hR.1, Or.inr ⟨g, _, rfl, hb, setRow_heap w g cur _ e (0, 0) hg, Nat.le_refl _, ?_, ?_⟩⟩, ⟨rfl, rfl, rfl, by simp, fun i _ hne => setRow_other w g i _ (fun e => hne (by rw [e]))⟩⟩
    · simp [hR.1]
    · simp only [List.take_zero, List.nil_append]
      rw [← hl, List.take_left]

/-- 'make([]T, n)', then 'copy(own, l)', l as long: a copy in memory of its own. -/
theorem run_make_block {P : Program} (w : World) (t e : TypeId) (hu : P.underlying t = some (.slice e)) (z : Value) (bytes : Nat) (hinfo : (P.info? e).map (fun i => (i.zero, i.size, i.bytes)) = some (some z, 1, bytes)) (n : Nat) (hn : bytes * n ≤ 281474976710656) (hm : n ≤ maxLen) :
    ∃ w1 cur, (Instr.makeSlice t (.int .i64 n) (.int .i64 n)).run P w = .ok (.slice (some ⟨w.heap.size, 0, none⟩) n n) w1 ∧ w1.heap[w.heap.size]? = some (.cells cur e (0, 0)) ∧ cur.toList = (madeCells z.cells n).toList ∧ Below w.heap.size w w1 := by
  obtain ⟨i0, hi, hz0, hz1, hz2⟩ := info_parts hinfo
  obtain ⟨w1, hrun, hown, hgr⟩ := run_make_full (P := P) w w.heap.size t e i0 z 1 hu hi hz0 hz1 .i64 .i64 n (by rw [hz2]; exact hn) hm (Nat.le_refl _)
  refine ⟨w1, _, hrun, row_block hown rfl, ?_, grownBy_none_below hgr⟩
  simp

theorem bcell {B : Nat} {w w' : World} (h : Below B w w') {b o : Nat} (hb : b < B) : w'.cell? ⟨b, o, none⟩ = w.cell? ⟨b, o, none⟩ := h.cell hb
theorem bfrozen {B : Nat} {w w' : World} (h : Below B w w') {b o : Nat} (hb : b < B) : w'.frozen? ⟨b, o, none⟩ = w.frozen? ⟨b, o, none⟩ := h.frozen hb
theorem bset {B : Nat} {a w : World} (h : Below B a w) {b o : Nat} (hb : B ≤ b) (u : Value) : Below B a (w.setCell ⟨b, o, none⟩ u) := h.setCell hb u

theorem cell_new (w : World) (v : Value) (T : TypeId) {b : Nat} (hb : b = w.heap.size) : (w.alloc (.cells #[v] T)).cell? ⟨b, 0, none⟩ = some v := by subst hb; simp
theorem frozen_new (w : World) (v : Value) (T : TypeId) {b : Nat} (hb : b = w.heap.size) : (w.alloc (.cells #[v] T)).frozen? ⟨b, 0, none⟩ = false := by subst hb; simp
theorem cell_old (w : World) (o : Obj) {b off : Nat} (hb : b < w.heap.size) : (w.alloc o).cell? ⟨b, off, none⟩ = w.cell? ⟨b, off, none⟩ := bcell ((Below.refl _ _).alloc (Nat.le_refl _) o) hb
theorem frozen_old (w : World) (o : Obj) {b off : Nat} (hb : b < w.heap.size) : (w.alloc o).frozen? ⟨b, off, none⟩ = w.frozen? ⟨b, off, none⟩ := bfrozen ((Below.refl _ _).alloc (Nat.le_refl _) o) hb

end Go.Proofs.YtdpmjaelbjjanaaGreat.Wf
