/- TrieBegins: the walk, with the sort of this program. -/
import Derived.Test.YtadbffphmmkljaaTrZ
import Derived.Test.YtadbffphmmkljaaShelf
namespace Go.Proofs.Ytadbffphmmkljaa
open Go.RowKit Go.Maps Go.Shelf
set_option linter.unusedVariables false

theorem tbegins_all (au : Option Addr) (nu cu : Nat) (U : List Int) (s : ByteArray) (w : World) (hU : ReadsH w au nu U) (hn : nu ≤ 9223372036854775807) (hs : s.size ≤ 9223372036854775807) :
    Calls Try.prog 3 #[.slice au nu cu, .string s] w fun e w' => e = .returned (.bool true) ∧ Below w.heap.size w w' := tbegins_walk au nu cu U s w hU hn hs Try.lays189 (by kernel_rfl)
end Go.Proofs.Ytadbffphmmkljaa
