/- TokenAdds: the walk, both cases. -/
import Derived.Test.YtblbbenfaafcoaaTkAe
import Derived.Test.YtblbbenfaafcoaaTkAf
namespace Go.Proofs.Ytblbbenfaafcoaa
open Go.RowKit Go.Maps

theorem adds_walk (ao : Option Addr) (n cap : Nat) (M : List (Int × Int)) (a b : Int) (s : ByteArray) (w : World) (hM : ReadsM w ao n M) (hn : n ≤ 9223372036854775807) (hw : wfM (a, b)) (hsz : s.size ≤ 9223372036854775807) :
    Calls Try.prog 4 #[.slice ao n cap, .int .i64 a, .int .i64 b, .string s] w fun e w' => e = .returned (.bool true) ∧ Below w.heap.size w w' := by
  by_cases h : 0 ≤ a ∧ a < ((stT M n).1.length : Int)
  · exact adds_walk_has ao n cap M a b s w hM hn hw hsz (hide h)
  · exact adds_walk_no ao n cap M a b s w hM hn hw hsz (hide h)

end Go.Proofs.Ytblbbenfaafcoaa
