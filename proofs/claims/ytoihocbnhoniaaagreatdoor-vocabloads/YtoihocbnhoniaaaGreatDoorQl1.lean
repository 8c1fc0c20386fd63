/- Slices of integers in memory: what is read at an address, what the call itself owns; and the walk's law for append onto such a row. Nothing of the program is named. -/
import Derived.Test.YtoihocbnhoniaaaGreatDoorQl0
import Derived.WalkKit
import Derived.WalkSpells
import Derived.WalkLawsBesides
import Derived.Laws.CopyOwn
import Derived.Deep.QuietTactic
import Derived.BigQuiet
namespace Go.Proofs.YtoihocbnhoniaaaGreatDoor.Wf
open Go.RowKit
set_option linter.unusedVariables false
set_option linter.unusedSimpArgs false

/-- The n numbers zs lie at ao. -/
def Reads (k : IntKind) (w : World) (ao : Option Addr) (n : Nat) (zs : List Int) : Prop :=
  zs.length = n ∧ (n = 0 ∨ ∃ b off, ao = some ⟨b, off, none⟩ ∧ ∀ i, i < n → w.cell? ⟨b, off + i, none⟩ = some (.int k (zs.getD i 0)))

theorem Reads.at {k : IntKind} {w : World} {ao : Option Addr} {n : Nat} {zs : List Int} (h : Reads k w ao n zs) {i : Nat} (hi : i < n) :
    ∃ b off, ao = some ⟨b, off, none⟩ ∧ ∀ i, i < n → w.cell? ⟨b, off + i, none⟩ = some (.int k (zs.getD i 0)) := by
  rcases h.2 with h | h
  · omega
  · exact h

theorem Reads.nil (k : IntKind) (w : World) (ao : Option Addr) : Reads k w ao 0 [] := ⟨rfl, Or.inl rfl⟩

theorem Reads.kept {k : IntKind} {w w' : World} {ao : Option Addr} {n : Nat} {zs : List Int} (h : Reads k w ao n zs) (hb : Below w.heap.size w w') : Reads k w' ao n zs := by
  refine ⟨h.1, ?_⟩
  rcases h.2 with h | ⟨b, off, rfl, hc⟩
  · exact Or.inl h
  · exact Or.inr ⟨b, off, rfl, fun i hi => (hb.cell (World.block_lt_of_cell? w _ (hc i hi))).trans (hc i hi)⟩

/-- What was read at w is read later, where nothing below w's size has turned. -/
theorem Reads.later {k : IntKind} {w w1 w2 : World} {ao : Option Addr} {n : Nat} {zs : List Int} (h : Reads k w ao n zs) (h1 : Below w.heap.size w w1) (h2 : Below w.heap.size w1 w2) : Reads k w2 ao n zs := h.kept (h1.trans h2)

def blk (ao : Option Addr) : Option Nat := ao.map (·.block)

/-- The slice (ao, n, cap) owns its n numbers zs: it is nil, or it begins at the head of a row from block 'base' on that is not frozen. -/
def Own (k : IntKind) (e : TypeId) (w : World) (base : Nat) (ao : Option Addr) (n cap : Nat) (zs : List Int) : Prop :=
  zs.length = n ∧ ((ao = none ∧ n = 0 ∧ cap = 0) ∨
    ∃ g cur, ao = some ⟨g, 0, none⟩ ∧ base ≤ g ∧ w.heap[g]? = some (.cells cur e (0, 0)) ∧ n ≤ cap ∧ cap ≤ cur.size ∧ cur.toList.take n = zs.map (Value.int k))

section
variable {k : IntKind} {e : TypeId} {w w' : World} {base : Nat} {ao : Option Addr} {n cap : Nat} {zs : List Int}

theorem Own.nil (k : IntKind) (e : TypeId) (w : World) (base : Nat) : Own k e w base none 0 0 [] := ⟨rfl, Or.inl ⟨rfl, rfl, rfl⟩⟩

theorem row_cell {cur : Array Value} {g : Nat} (hg : w.heap[g]? = some (.cells cur e (0, 0))) (hl : zs.length = n) (ht : cur.toList.take n = zs.map (Value.int k)) (i : Nat) (hi : i < n) :
    w.cell? ⟨g, i, none⟩ = some (.int k (zs.getD i 0)) := by
  have h1 : (cur.toList.take n)[i]? = (zs.map (Value.int k))[i]? := by rw [ht]
  rw [List.getElem?_take_of_lt hi] at h1
  simp only [World.cell?, hg, Option.isSome_none, Bool.false_eq_true, if_false]
  rw [Array.getElem?_toList] at h1
  rw [h1]
  simp [List.getD_eq_getElem?_getD, show i < zs.length by omega]

theorem Own.reads (h : Own k e w base ao n cap zs) : Reads k w ao n zs := by
  refine ⟨h.1, ?_⟩
  rcases h.2 with ⟨_, h2, _⟩ | ⟨g, cur, rfl, _, hg, _, _, ht⟩
  · exact Or.inl h2
  · exact Or.inr ⟨g, 0, rfl, fun i hi => by rw [Nat.zero_add]; exact row_cell hg h.1 ht i hi⟩

theorem Own.at (h : Own k e w base ao n cap zs) {i : Nat} (hi : i < n) :
    ∃ g, ao = some ⟨g, 0, none⟩ ∧ base ≤ g ∧ g < w.heap.size ∧ (∀ i, i < n → w.cell? ⟨g, i, none⟩ = some (.int k (zs.getD i 0))) ∧ (∀ i, w.frozen? ⟨g, i, none⟩ = false) := by
  rcases h.2 with ⟨_, h2, _⟩ | ⟨g, cur, rfl, hb, hg, _, _, ht⟩
  · omega
  · exact ⟨g, rfl, hb, (Array.getElem?_eq_some_iff.1 hg).1, fun i hi => row_cell hg h.1 ht i hi, fun i => by simp [World.frozen?, hg]⟩

theorem Own.kept {row : Option Nat} (h : Own k e w base ao n cap zs) (hg : w.grownBy w' row) (hne : blk ao = none ∨ blk ao ≠ row) : Own k e w' base ao n cap zs := by
  refine ⟨h.1, ?_⟩
  rcases h.2 with h | ⟨g, cur, rfl, hb, hgg, r⟩
  · exact Or.inl h
  · refine Or.inr ⟨g, cur, rfl, hb, ?_, r⟩
    rw [hg.block g (Array.getElem?_eq_some_iff.1 hgg).1 (by simpa [blk] using hne)]
    exact hgg

theorem Own.below (h : Own k e w base ao n cap zs) (hb : Below w.heap.size w w') : Own k e w' base ao n cap zs := by
  refine ⟨h.1, ?_⟩
  rcases h.2 with h | ⟨g, cur, rfl, hbs, hgg, r⟩
  · exact Or.inl h
  · refine Or.inr ⟨g, cur, rfl, hbs, ?_, r⟩
    rw [hb.block g (Array.getElem?_eq_some_iff.1 hgg).1]
    exact hgg

theorem Own.mono (h : Own k e w base ao n cap zs) {base' : Nat} (hb : base' ≤ base) : Own k e w base' ao n cap zs := by
  refine ⟨h.1, ?_⟩
  rcases h.2 with h | ⟨g, cur, rfl, hbs, r⟩
  · exact Or.inl h
  · exact Or.inr ⟨g, cur, rfl, by omega, r⟩

theorem Own.lt (h : Own k e w base ao n cap zs) : ∀ b, blk ao = some b → base ≤ b ∧ b < w.heap.size := by
  intro b hb
  rcases h.2 with ⟨rfl, _⟩ | ⟨g, cur, rfl, hbs, hg, _⟩
  · simp [blk] at hb
  · simp [blk] at hb
    subst hb
    exact ⟨hbs, (Array.getElem?_eq_some_iff.1 hg).1⟩

theorem Own.take (h : Own k e w base ao n cap zs) {m : Nat} (hm : m ≤ n) : Own k e w base ao m cap (zs.take m) := by
  refine ⟨by rw [List.length_take, h.1]; omega, ?_⟩
  rcases h.2 with ⟨h1, h2, h3⟩ | ⟨g, cur, rfl, hbs, hg, h1, h2, ht⟩
  · exact Or.inl ⟨h1, by omega, h3⟩
  · refine Or.inr ⟨g, cur, rfl, hbs, hg, by omega, h2, ?_⟩
    rw [List.map_take, ← ht, List.take_take, Nat.min_eq_left hm]

theorem grownBy_setCell (w : World) (g j : Nat) (v : Value) : w.grownBy (w.setCell ⟨g, j, none⟩ v) (some g) :=
  ⟨rfl, rfl, rfl, by simp [World.setCell], fun b _ hne => Below.heap_setCell _ _ _ _ (fun e => hne (by rw [e]))⟩

theorem Own.stored {g : Nat} (h : Own k e w base (some ⟨g, 0, none⟩) n cap zs) (j : Nat) (hj : j < n) (z : Int) :
    Own k e (w.setCell ⟨g, j, none⟩ (.int k z)) base (some ⟨g, 0, none⟩) n cap (zs.set j z) := by
  refine ⟨by rw [List.length_set]; exact h.1, ?_⟩
  rcases h.2 with ⟨a1, _⟩ | ⟨g', cur, hg', hbs, hg, a1, a2, ht⟩
  · cases a1
  · simp only [Option.some.injEq, Addr.mk.injEq, and_true] at hg'
    subst hg'
    refine Or.inr ⟨g, cur.setIfInBounds j (.int k z), rfl, hbs, ?_, a1, by simpa using a2, ?_⟩
    · rw [setCell_eq_setRow w g j cur e (0, 0) _ hg]
      exact setRow_heap w g cur _ e (0, 0) hg
    · rw [Array.toList_setIfInBounds, List.take_set, ht, List.map_set]

theorem Own.ofRow {v : Value} (h : w.ownsRow base e 1 v n (zs.map (Value.int k))) : ∃ ao cap, v = .slice ao n cap ∧ Own k e w base ao n cap zs := by
  have hl : zs.length = n := by simpa using h.1
  rcases h.2 with ⟨rfl, h0⟩ | ⟨g, cap, cur, rfl, hb, hg, hc, _, hs, ht⟩
  · exact ⟨none, 0, by rw [h0], hl, Or.inl ⟨rfl, h0, rfl⟩⟩
  · exact ⟨some ⟨g, 0, none⟩, cap, rfl, hl, Or.inr ⟨g, cur, rfl, hb, hg, hc, by omega, by simpa using ht⟩⟩

end

theorem grownBy_none_below {w w' : World} (h : w.grownBy w' none) : Below w.heap.size w w' := (Below.refl _ w).grown h (Nat.le_refl _) (fun k e => by cases e)
theorem row_block {w : World} {base e n cap g : Nat} {xs : List Value} (h : w.ownsRow base e 1 (.slice (some ⟨g, 0, none⟩) n cap) n xs) (hc : n = cap) : w.heap[g]? = some (.cells xs.toArray e (0, 0)) := by
  subst hc
  rcases h.2 with ⟨h, _⟩ | ⟨g', cap', cur, hv, _, hg, _, _, hs, ht⟩
  · cases h
  · simp only [Value.slice.injEq, Option.some.injEq, Addr.mk.injEq, and_true, true_and] at hv
    obtain ⟨rfl, rfl⟩ := hv
    rw [hg, ← ht, List.take_of_length_le (by simp [hs])]

/-- 'make([]T, n)', then 'copy(own, l)', l as long: a copy in memory of its own. -/
theorem run_make_block {P : Program} (w : World) (t e : TypeId) (hu : P.underlying t = some (.slice e)) (z : Value) (bytes : Nat) (hinfo : (P.info? e).map (fun i => (i.zero, i.size, i.bytes)) = some (some z, 1, bytes)) (n : Nat) (hn : bytes * n ≤ 281474976710656) (hm : n ≤ maxLen) :
    ∃ w1 cur, (Instr.makeSlice t (.int .i64 n) (.int .i64 n)).run P w = .ok (.slice (some ⟨w.heap.size, 0, none⟩) n n) w1 ∧ w1.heap[w.heap.size]? = some (.cells cur e (0, 0)) ∧ cur.toList = (madeCells z.cells n).toList ∧ Below w.heap.size w w1 := by
  obtain ⟨i0, hi, hz0, hz1, hz2⟩ := info_parts hinfo
  obtain ⟨w1, hrun, hown, hgr⟩ := run_make_full (P := P) w w.heap.size t e i0 z 1 hu hi hz0 hz1 .i64 .i64 n (by rw [hz2]; exact hn) hm (Nat.le_refl _)
  refine ⟨w1, _, hrun, row_block hown rfl, ?_, grownBy_none_below hgr⟩
  simp

theorem bcell {B : Nat} {w w' : World} (h : Below B w w') {b o : Nat} (hb : b < B) : w'.cell? ⟨b, o, none⟩ = w.cell? ⟨b, o, none⟩ := h.cell hb
theorem bfrozen {B : Nat} {w w' : World} (h : Below B w w') {b o : Nat} (hb : b < B) : w'.frozen? ⟨b, o, none⟩ = w.frozen? ⟨b, o, none⟩ := h.frozen hb
theorem cell_new (w : World) (v : Value) (T : TypeId) {b : Nat} (hb : b = w.heap.size) : (w.alloc (.cells #[v] T)).cell? ⟨b, 0, none⟩ = some v := by subst hb; simp
theorem cell_old (w : World) (o : Obj) {b off : Nat} (hb : b < w.heap.size) : (w.alloc o).cell? ⟨b, off, none⟩ = w.cell? ⟨b, off, none⟩ := bcell ((Below.refl _ _).alloc (Nat.le_refl _) o) hb
theorem frozen_old (w : World) (o : Obj) {b off : Nat} (hb : b < w.heap.size) : (w.alloc o).frozen? ⟨b, off, none⟩ = w.frozen? ⟨b, off, none⟩ := bfrozen ((Below.refl _ _).alloc (Nat.le_refl _) o) hb

end Go.Proofs.YtoihocbnhoniaaaGreatDoor.Wf
