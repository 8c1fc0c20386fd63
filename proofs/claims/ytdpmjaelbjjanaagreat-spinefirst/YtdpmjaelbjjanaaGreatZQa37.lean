/- The iterator of pieces: its contract. -/
import Derived.RangeFuncNested
import Derived.RangeFuncBound
import Derived.RangeFuncCalls
import Derived.RangeFuncLeaves
import Derived.RangeFuncBox
import Derived.Shelf.Abstract
import Derived.Shelf.RegionOpen
import Derived.OwnWalkIn
import Derived.TacticsInMore
import Derived.LoopNIn
import Derived.LoopIn
import Derived.Test.YtdpmjaelbjjanaaGreatZQa36
namespace Go.Proofs.YtdpmjaelbjjanaaGreat
open Go.RowKit Go.Maps
set_option linter.unusedVariables false
set_option linter.unusedSimpArgs false
attribute [local go_sem] Oper.semAt_some

/-- How long a slice is. -/
def slLen : Value → Nat
  | .slice _ n _ => n
  | _ => 0
@[simp] theorem slLen_slice (a : Option Addr) (n c : Nat) : slLen (.slice a n c) = n := rfl
/-- A piece: where it begins, and how many items it has. -/
abbrev PcT (s : Wf.Sp) (I : List Int) := { x : Nat × Nat // 0 < x.2 ∧ x.1 + x.2 ≤ I.length ∧ (I.drop x.1).take x.2 ∈ rns (icE (cuE s)) I }
/-- Its items. -/
def pcL {s : Wf.Sp} {I : List Int} (x : PcT s I) : List Int := (I.drop x.1.1).take x.1.2
end Go.Proofs.YtdpmjaelbjjanaaGreat
