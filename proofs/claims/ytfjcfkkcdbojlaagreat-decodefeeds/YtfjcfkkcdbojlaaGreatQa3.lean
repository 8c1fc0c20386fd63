/- Nothing of the shelf is used at this seat: a text that only hands on the program. Nothing of the Builder's contracts off the shelf is used at this seat: a text that only hands on the program. -/
import Derived.Test.YtfjcfkkcdbojlaaGreatProg
import Derived.Lib.Bytealg
namespace Go.Proofs.YtfjcfkkcdbojlaaGreat
end Go.Proofs.YtfjcfkkcdbojlaaGreat

namespace Go.Proofs.YtfjcfkkcdbojlaaGreat
end Go.Proofs.YtfjcfkkcdbojlaaGreat
