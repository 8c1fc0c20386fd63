/- Slices of integers in memory: what is read at an address, what the call itself owns; and the walk's law for append onto such a row. Nothing of the program is named. -/
import Derived.Test.YtdpmjaelbjjanaaGreatZQa0
import Derived.WalkKit
import Derived.WalkSpells
import Derived.WalkLawsBesides
import Derived.Laws.CopyOwn
import Derived.Deep.QuietTactic
import Derived.BigQuiet
namespace Go.Proofs.YtdpmjaelbjjanaaGreat.Wf
open Go.RowKit
set_option linter.unusedVariables false
set_option linter.unusedSimpArgs false

/-- The n numbers zs lie at ao. -/
def Reads (k : IntKind) (w : World) (ao : Option Addr) (n : Nat) (zs : List Int) : Prop :=
  zs.length = n ∧ (n = 0 ∨ ∃ b off, ao = some ⟨b, off, none⟩ ∧ ∀ i, i < n → w.cell? ⟨b, off + i, none⟩ = some (.int k (zs.getD i 0)))

theorem Reads.at {k : IntKind} {w : World} {ao : Option Addr} {n : Nat} {zs : List Int} (h : Reads k w ao n zs) {i : Nat} (hi : i < n) :
    ∃ b off, ao = some ⟨b, off, none⟩ ∧ ∀ i, i < n → w.cell? ⟨b, off + i, none⟩ = some (.int k (zs.getD i 0)) := by
  rcases h.2 with h | h
  · omega
  · exact h

theorem Reads.nil (k : IntKind) (w : World) (ao : Option Addr) : Reads k w ao 0 [] := ⟨rfl, Or.inl rfl⟩

theorem Reads.kept {k : IntKind} {w w' : World} {ao : Option Addr} {n : Nat} {zs : List Int} (h : Reads k w ao n zs) (hb : Below w.heap.size w w') : Reads k w' ao n zs := by
  refine ⟨h.1, ?_⟩
  rcases h.2 with h | ⟨b, off, rfl, hc⟩
  · exact Or.inl h
  · exact Or.inr ⟨b, off, rfl, fun i hi => (hb.cell (World.block_lt_of_cell? w _ (hc i hi))).trans (hc i hi)⟩

def blk (ao : Option Addr) : Option Nat := ao.map (·.block)

section
variable {k : IntKind} {e : TypeId} {w w' : World} {base : Nat} {ao : Option Addr} {n cap : Nat} {zs : List Int}

theorem grownBy_setCell (w : World) (g j : Nat) (v : Value) : w.grownBy (w.setCell ⟨g, j, none⟩ v) (some g) :=
  ⟨rfl, rfl, rfl, by simp [World.setCell], fun b _ hne => Below.heap_setCell _ _ _ _ (fun e => hne (by rw [e]))⟩

end

theorem bcell {B : Nat} {w w' : World} (h : Below B w w') {b o : Nat} (hb : b < B) : w'.cell? ⟨b, o, none⟩ = w.cell? ⟨b, o, none⟩ := h.cell hb
theorem bfrozen {B : Nat} {w w' : World} (h : Below B w w') {b o : Nat} (hb : b < B) : w'.frozen? ⟨b, o, none⟩ = w.frozen? ⟨b, o, none⟩ := h.frozen hb
theorem cell_new (w : World) (v : Value) (T : TypeId) {b : Nat} (hb : b = w.heap.size) : (w.alloc (.cells #[v] T)).cell? ⟨b, 0, none⟩ = some v := by subst hb; simp
theorem cell_old (w : World) (o : Obj) {b off : Nat} (hb : b < w.heap.size) : (w.alloc o).cell? ⟨b, off, none⟩ = w.cell? ⟨b, off, none⟩ := bcell ((Below.refl _ _).alloc (Nat.le_refl _) o) hb
theorem frozen_old (w : World) (o : Obj) {b off : Nat} (hb : b < w.heap.size) : (w.alloc o).frozen? ⟨b, off, none⟩ = w.frozen? ⟨b, off, none⟩ := bfrozen ((Below.refl _ _).alloc (Nat.le_refl _) o) hb

end Go.Proofs.YtdpmjaelbjjanaaGreat.Wf
