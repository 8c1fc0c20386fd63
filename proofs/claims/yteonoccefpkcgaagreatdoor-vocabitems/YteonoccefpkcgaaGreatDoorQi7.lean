/- Contracts of the law's own reference: Texts, Cut. -/
import Derived.Test.YteonoccefpkcgaaGreatDoorQi2
import Derived.Test.YteonoccefpkcgaaGreatDoorQi1
import Derived.Test.YteonoccefpkcgaaGreatDoorProg
import Derived.BigQuiet
import Derived.Lib.AppendZeros
import Derived.Deep.AppendLies
import Derived.Laws.OwnMore
namespace Go.Proofs.YteonoccefpkcgaaGreatDoor.Wf
open Go.RowKit
set_option linter.unusedVariables false
set_option linter.unusedSimpArgs false

/-- A text of a list. -/
def gT (l : List ByteArray) (i : Nat) : ByteArray := l.getD i ⟨#[]⟩
/-- Texts that are read. -/
def RdT (w : World) (ao : Option Addr) (n : Nat) (l : List ByteArray) : Prop := l.length = n ∧ (n = 0 ∨ ∃ b off, ao = some ⟨b, off, none⟩ ∧ b < w.heap.size ∧ ∀ i, i < n → w.cell? ⟨b, off + i, none⟩ = some (.string (gT l i)))
theorem RdT.kept {w w' : World} {ao : Option Addr} {n : Nat} {l : List ByteArray} (h : RdT w ao n l) (hb : Below w.heap.size w w') : RdT w' ao n l := by
  refine ⟨h.1, ?_⟩
  rcases h.2 with h0 | ⟨b, off, rfl, hlt, hc⟩
  · exact Or.inl h0
  · exact Or.inr ⟨b, off, rfl, Nat.lt_of_lt_of_le hlt hb.size, fun i hi => (hb.cell hlt).trans (hc i hi)⟩
theorem RdT.take {w : World} {ao : Option Addr} {n : Nat} {l : List ByteArray} (h : RdT w ao n l) {m : Nat} (hm : m ≤ n) : RdT w ao m (l.take m) := by
  refine ⟨by rw [List.length_take, h.1]; omega, ?_⟩
  rcases h.2 with h0 | ⟨b, off, rfl, hlt, hc⟩
  · exact Or.inl (by omega)
  · refine Or.inr ⟨b, off, rfl, hlt, fun i hi => ?_⟩
    rw [hc i (by omega)]
    congr 2
    unfold gT
    rw [List.getD_eq_getElem?_getD, List.getD_eq_getElem?_getD, List.getElem?_take_of_lt hi]

/-- Pieces as cells. -/
def tv (l : List (List UInt8)) : List Value := l.map (fun x => Value.string ⟨x.toArray⟩)
end Go.Proofs.YteonoccefpkcgaaGreatDoor.Wf
