/- A spec that came in, opened. -/
import Derived.Test.YtoihocbnhoniaaaGreatDoorQl8
import Derived.Deep.Slices
import Derived.ChangeSame
import Derived.Lib.SmallJoins
import Derived.Deep.Strs
import Derived.SliceStrings
namespace Go.Proofs.YtoihocbnhoniaaaGreatDoor.Wf
open Go.ChangeShapes Go.WideShapes Go.ChangeAt Go.RowKit
set_option linter.unusedVariables false

section
variable {H : Type} {enc : TypeId × Value → H} {W : World} {base : Nat} {spare : Nat → Bool} {held : Bool}

end
end Go.Proofs.YtoihocbnhoniaaaGreatDoor.Wf
