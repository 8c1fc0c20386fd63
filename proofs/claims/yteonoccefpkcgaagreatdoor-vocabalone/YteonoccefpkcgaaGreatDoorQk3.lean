/- Slices of integers in memory: what is read at an address, what the call itself owns; and the walk's law for append onto such a row. Nothing of the program is named. -/
import Derived.Test.YteonoccefpkcgaaGreatDoorQk2
import Derived.WalkKit
import Derived.WalkSpells
import Derived.WalkLawsBesides
import Derived.Laws.CopyOwn
import Derived.Deep.QuietTactic
import Derived.BigQuiet
namespace Go.Proofs.YteonoccefpkcgaaGreatDoor.Wf
open Go.RowKit
set_option linter.unusedVariables false
set_option linter.unusedSimpArgs false

/-- The n numbers zs lie at ao. -/
def Reads (k : IntKind) (w : World) (ao : Option Addr) (n : Nat) (zs : List Int) : Prop :=
  zs.length = n ∧ (n = 0 ∨ ∃ b off, ao = some ⟨b, off, none⟩ ∧ ∀ i, i < n → w.cell? ⟨b, off + i, none⟩ = some (.int k (zs.getD i 0)))

theorem Reads.at {k : IntKind} {w : World} {ao : Option Addr} {n : Nat} {zs : List Int} (h : Reads k w ao n zs) {i : Nat} (hi : i < n) :
    ∃ b off, ao = some ⟨b, off, none⟩ ∧ ∀ i, i < n → w.cell? ⟨b, off + i, none⟩ = some (.int k (zs.getD i 0)) := by
  rcases h.2 with h | h
  · omega
  · exact h

theorem Reads.nil (k : IntKind) (w : World) (ao : Option Addr) : Reads k w ao 0 [] := ⟨rfl, Or.inl rfl⟩

theorem Reads.kept {k : IntKind} {w w' : World} {ao : Option Addr} {n : Nat} {zs : List Int} (h : Reads k w ao n zs) (hb : Below w.heap.size w w') : Reads k w' ao n zs := by
  refine ⟨h.1, ?_⟩
  rcases h.2 with h | ⟨b, off, rfl, hc⟩
  · exact Or.inl h
  · exact Or.inr ⟨b, off, rfl, fun i hi => (hb.cell (World.block_lt_of_cell? w _ (hc i hi))).trans (hc i hi)⟩

/-- What was read at w is read later, where nothing below w's size has turned. -/
theorem Reads.later {k : IntKind} {w w1 w2 : World} {ao : Option Addr} {n : Nat} {zs : List Int} (h : Reads k w ao n zs) (h1 : Below w.heap.size w w1) (h2 : Below w.heap.size w1 w2) : Reads k w2 ao n zs := h.kept (h1.trans h2)

def blk (ao : Option Addr) : Option Nat := ao.map (·.block)

section
variable {k : IntKind} {e : TypeId} {w w' : World} {base : Nat} {ao : Option Addr} {n cap : Nat} {zs : List Int}

theorem grownBy_setCell (w : World) (g j : Nat) (v : Value) : w.grownBy (w.setCell ⟨g, j, none⟩ v) (some g) :=
  ⟨rfl, rfl, rfl, by simp [World.setCell], fun b _ hne => Below.heap_setCell _ _ _ _ (fun e => hne (by rw [e]))⟩

end

theorem grownBy_none_below {w w' : World} (h : w.grownBy w' none) : Below w.heap.size w w' := (Below.refl _ w).grown h (Nat.le_refl _) (fun k e => by cases e)
theorem row_block {w : World} {base e n cap g : Nat} {xs : List Value} (h : w.ownsRow base e 1 (.slice (some ⟨g, 0, none⟩) n cap) n xs) (hc : n = cap) : w.heap[g]? = some (.cells xs.toArray e (0, 0)) := by
  subst hc
  rcases h.2 with ⟨h, _⟩ | ⟨g', cap', cur, hv, _, hg, _, _, hs, ht⟩
  · cases h
  · simp only [Value.slice.injEq, Option.some.injEq, Addr.mk.injEq, and_true, true_and] at hv
    obtain ⟨rfl, rfl⟩ := hv
    rw [hg, ← ht, List.take_of_length_le (by simp [hs])]

/-- 'make([]T, n)', then 'copy(own, l)', l as long: a copy in memory of its own. -/
theorem run_make_block {P : Program} (w : World) (t e : TypeId) (hu : P.underlying t = some (.slice e)) (z : Value) (bytes : Nat) (hinfo : (P.info? e).map (fun i => (i.zero, i.size, i.bytes)) = some (some z, 1, bytes)) (n : Nat) (hn : bytes * n ≤ 281474976710656) (hm : n ≤ maxLen) :
    ∃ w1 cur, (Instr.makeSlice t (.int .i64 n) (.int .i64 n)).run P w = .ok (.slice (some ⟨w.heap.size, 0, none⟩) n n) w1 ∧ w1.heap[w.heap.size]? = some (.cells cur e (0, 0)) ∧ cur.toList = (madeCells z.cells n).toList ∧ Below w.heap.size w w1 := by
  obtain ⟨i0, hi, hz0, hz1, hz2⟩ := info_parts hinfo
  obtain ⟨w1, hrun, hown, hgr⟩ := run_make_full (P := P) w w.heap.size t e i0 z 1 hu hi hz0 hz1 .i64 .i64 n (by rw [hz2]; exact hn) hm (Nat.le_refl _)
  refine ⟨w1, _, hrun, row_block hown rfl, ?_, grownBy_none_below hgr⟩
  simp

theorem bcell {B : Nat} {w w' : World} (h : Below B w w') {b o : Nat} (hb : b < B) : w'.cell? ⟨b, o, none⟩ = w.cell? ⟨b, o, none⟩ := h.cell hb
theorem bfrozen {B : Nat} {w w' : World} (h : Below B w w') {b o : Nat} (hb : b < B) : w'.frozen? ⟨b, o, none⟩ = w.frozen? ⟨b, o, none⟩ := h.frozen hb
theorem cell_new (w : World) (v : Value) (T : TypeId) {b : Nat} (hb : b = w.heap.size) : (w.alloc (.cells #[v] T)).cell? ⟨b, 0, none⟩ = some v := by subst hb; simp
theorem cell_old (w : World) (o : Obj) {b off : Nat} (hb : b < w.heap.size) : (w.alloc o).cell? ⟨b, off, none⟩ = w.cell? ⟨b, off, none⟩ := bcell ((Below.refl _ _).alloc (Nat.le_refl _) o) hb
theorem frozen_old (w : World) (o : Obj) {b off : Nat} (hb : b < w.heap.size) : (w.alloc o).frozen? ⟨b, off, none⟩ = w.frozen? ⟨b, off, none⟩ := bfrozen ((Below.refl _ _).alloc (Nat.le_refl _) o) hb

end Go.Proofs.YteonoccefpkcgaaGreatDoor.Wf
