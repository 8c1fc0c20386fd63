/- Plain mathematics: limbs to the base 2^32 and decimal digits, the lowest first; nothing of the program is named. -/
import Derived.Below
namespace Go.Proofs.YtdpmjaelbjjanaaGreat.Wf
open Go.RowKit
set_option linter.unusedVariables false
set_option linter.unusedSimpArgs false

theorem hide {p : Prop} (h : p) : Hid p := h
theorem unhide {p : Prop} (h : Hid p) : p := h

/-- The number of digits to the base B, the lowest first. -/
def pv (B : Int) : List Int → Int
  | [] => 0
  | a :: r => a + B * pv B r

end Go.Proofs.YtdpmjaelbjjanaaGreat.Wf
