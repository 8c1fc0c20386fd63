/- A spec that came in, opened. -/
import Derived.Test.YteonoccefpkcgaaGreatDoorQk10
import Derived.Deep.Slices
import Derived.ChangeSame
import Derived.Lib.SmallJoins
import Derived.Deep.Strs
import Derived.SliceStrings
namespace Go.Proofs.YteonoccefpkcgaaGreatDoor.Wf
open Go.ChangeShapes Go.WideShapes Go.ChangeAt Go.RowKit
set_option linter.unusedVariables false

section
variable {H : Type} {enc : TypeId × Value → H} {W : World} {base : Nat} {spare : Nat → Bool} {held : Bool}

theorem addr_add (b off k : Nat) : (⟨b, off, none⟩ : Addr).add k = ⟨b, off + k, none⟩ := by unfold Addr.add; split <;> simp_all
theorem spot_none {a : Addr} {v : Value} (hc : W.cell? (a.add 0) = some v) : ∃ b off, a = ⟨b, off, none⟩ ∧ b < W.heap.size := by
  obtain ⟨b, off, spot⟩ := a
  have hs : spot = none := by
    cases spot with
    | none => rfl
    | some s =>
      exfalso
      simp only [Addr.add, World.cell?, Option.isSome_some, if_true] at hc
      split at hc <;> cases hc
  subst hs
  refine ⟨b, off, rfl, ?_⟩
  rw [addr_add] at hc
  exact World.block_lt_of_cell? W _ hc

end
end Go.Proofs.YteonoccefpkcgaaGreatDoor.Wf
