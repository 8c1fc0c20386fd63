/- Contracts of the document's answer for tokens: Pair. -/
import Derived.Test.YtlfffalfnnmliaaTkV
namespace Go.Proofs.Ytlfffalfnnmliaa
open Go.RowKit Go.Maps
set_option linter.unusedVariables false
set_option linter.unusedSimpArgs false
attribute [local go_sem ↓] Go.wp_at_zero Go.wp_at_succ

/-- The token whose parents two are, or -1. -/
def Prd (mg : List (Int × Int)) (a b r : Int) : Prop := (r = -1 ∧ ∀ j, j < mg.length → gm mg j ≠ (a, b)) ∨ ∃ k : Nat, r = 256 + k ∧ k < mg.length ∧ gm mg k = (a, b)

section
variable {vb vm : Value} {tx : List ByteArray} {mg : List (Int × Int)} {w : World}

end

end Go.Proofs.Ytlfffalfnnmliaa
