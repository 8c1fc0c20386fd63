/- TrieNone: the walk, with the sort of this program. -/
import Derived.Test.YtadbffphmmkljaaTrY
import Derived.Test.YtadbffphmmkljaaShelf
namespace Go.Proofs.Ytadbffphmmkljaa
open Go.RowKit Go.Maps Go.Shelf
set_option linter.unusedVariables false

theorem tnone_all (s : ByteArray) (w : World) (hs : s.size ≤ 9223372036854775807) :
    Calls Try.prog 5 #[.string s] w fun e w' => e = .returned (.bool true) ∧ Below w.heap.size w w' := tnone_walk s w Try.lays189 (by kernel_rfl)
end Go.Proofs.Ytadbffphmmkljaa
