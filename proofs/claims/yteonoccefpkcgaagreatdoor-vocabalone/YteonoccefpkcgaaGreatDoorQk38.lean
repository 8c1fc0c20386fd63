/- The document's Lines: a spec's lines. The document's Lines: a spec's lines. -/
import Derived.Test.YteonoccefpkcgaaGreatDoorQk10
import Derived.Test.YteonoccefpkcgaaGreatDoorQk6
import Derived.Test.YteonoccefpkcgaaGreatDoorQk12
import Derived.Test.YteonoccefpkcgaaGreatDoorQk9
import Derived.Laws.OwnMore
import Derived.Lib.ItoaLen
import Derived.Deep.RegionHeld3
import Derived.Laws.Concat
namespace Go.Proofs.YteonoccefpkcgaaGreatDoor.Wf
open Go.RowKit
set_option linter.unusedVariables false
set_option linter.unusedSimpArgs false

end Go.Proofs.YteonoccefpkcgaaGreatDoor.Wf

namespace Go.Proofs.YteonoccefpkcgaaGreatDoor.Wf
open Go.RowKit
set_option linter.unusedVariables false
set_option linter.unusedSimpArgs false

end Go.Proofs.YteonoccefpkcgaaGreatDoor.Wf
