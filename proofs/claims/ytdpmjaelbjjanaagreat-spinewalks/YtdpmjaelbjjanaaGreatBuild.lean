/- Nothing of the shelf is wanted here. -/
import Derived.Test.YtdpmjaelbjjanaaGreatShelf
namespace Go.Proofs.YtdpmjaelbjjanaaGreat
end Go.Proofs.YtdpmjaelbjjanaaGreat
