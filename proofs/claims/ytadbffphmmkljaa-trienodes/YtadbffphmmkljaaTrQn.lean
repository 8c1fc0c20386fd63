/- TrieNodes: the walk, with the sort of this program. -/
import Derived.Test.YtadbffphmmkljaaTrQ
import Derived.Test.YtadbffphmmkljaaShelf
namespace Go.Proofs.Ytadbffphmmkljaa
open Go.RowKit Go.Maps Go.Shelf
set_option linter.unusedVariables false

theorem tnodes_all (au : Option Addr) (nu cu : Nat) (U : List Int) (m : Int × Int) (w : World) (hU : ReadsH w au nu U) (hn : nu ≤ 9223372036854775807) :
    Calls Try.prog 4 #[.slice au nu cu, .agg #[.int .i64 m.1, .int .i64 m.2]] w fun e w' => e = .returned (.bool true) ∧ Below w.heap.size w w' := tnodes_walk au nu cu U m w hU hn Try.lays189 (by kernel_rfl)
end Go.Proofs.Ytadbffphmmkljaa
