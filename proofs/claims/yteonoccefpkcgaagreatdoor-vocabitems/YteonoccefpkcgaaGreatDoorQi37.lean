/- The document's Lines: a spec's lines. The document's Lines: a spec's lines. -/
import Derived.Test.YteonoccefpkcgaaGreatDoorQi8
import Derived.Test.YteonoccefpkcgaaGreatDoorQi4
import Derived.Test.YteonoccefpkcgaaGreatDoorQi10
import Derived.Test.YteonoccefpkcgaaGreatDoorQi7
import Derived.Laws.OwnMore
import Derived.Lib.ItoaLen
import Derived.Deep.RegionHeld3
import Derived.Laws.Concat
namespace Go.Proofs.YteonoccefpkcgaaGreatDoor.Wf
open Go.RowKit
set_option linter.unusedVariables false
set_option linter.unusedSimpArgs false

end Go.Proofs.YteonoccefpkcgaaGreatDoor.Wf

namespace Go.Proofs.YteonoccefpkcgaaGreatDoor.Wf
open Go.RowKit
set_option linter.unusedVariables false
set_option linter.unusedSimpArgs false

end Go.Proofs.YteonoccefpkcgaaGreatDoor.Wf
