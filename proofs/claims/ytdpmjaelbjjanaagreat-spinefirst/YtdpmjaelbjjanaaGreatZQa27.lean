/- Contracts of package token: Merges of a table. -/
import Derived.Test.YtdpmjaelbjjanaaGreatZQa23
import Derived.Lib.SmallJoins
namespace Go.Proofs.YtdpmjaelbjjanaaGreat
open Go.RowKit Go.Maps
set_option linter.unusedVariables false
set_option linter.unusedSimpArgs false
attribute [local go_sem ↓] Go.wp_at_zero Go.wp_at_succ

section
variable {mg : List (Int × Int)} {w : World} {vm : Value}

end

section
variable {F : List Nat} {p b2 b3 : Nat} {v0 v1 : Value} {tx : List ByteArray} {mg : List (Int × Int)} {lg : Int} {w : World}

end

end Go.Proofs.YtdpmjaelbjjanaaGreat
