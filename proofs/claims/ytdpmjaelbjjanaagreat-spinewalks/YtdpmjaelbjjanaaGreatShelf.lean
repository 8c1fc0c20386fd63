/- Nothing of the shelf is wanted here. -/
import Derived.Test.YtdpmjaelbjjanaaGreatProg
import Derived.Lib.Bytealg
namespace Go.Proofs.YtdpmjaelbjjanaaGreat
end Go.Proofs.YtdpmjaelbjjanaaGreat
