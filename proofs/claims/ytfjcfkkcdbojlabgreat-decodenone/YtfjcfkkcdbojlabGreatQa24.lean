/- Contracts of the document's answer for tokens: Begin. Contracts of the document's answer for tokens: Add. -/
import Derived.Test.YtfjcfkkcdbojlabGreatQa23
import Derived.Deep.Onto
import Derived.BigRegion
import Derived.Deep.RegionLaw
namespace Go.Proofs.YtfjcfkkcdbojlabGreat
open Go.RowKit Go.Maps
set_option linter.unusedVariables false
set_option linter.unusedSimpArgs false
attribute [local go_sem ↓] Go.wp_at_zero Go.wp_at_succ

end Go.Proofs.YtfjcfkkcdbojlabGreat

namespace Go.Proofs.YtfjcfkkcdbojlabGreat
open Go.RowKit Go.Maps
set_option linter.unusedVariables false
set_option linter.unusedSimpArgs false
attribute [local go_sem ↓] Go.wp_at_zero Go.wp_at_succ

theorem RT.drew {vb vm : Value} {tx : List ByteArray} {mg : List (Int × Int)} {w : World} (h : RT vb vm tx mg w) : RT vb vm tx mg w.drew := ⟨h.rb, h.rm, h.nl⟩
def rtR (vb vm : Value) (c : Int) : Value := .tuple #[.agg #[vb, vm], .int .i64 c]

section
variable {vb vm : Value} {tx : List ByteArray} {mg : List (Int × Int)} {w : World}

end

end Go.Proofs.YtfjcfkkcdbojlabGreat
