/- Contracts of package token: Parents, Merges; the law's own example. -/
import Derived.Test.YtadbffphmmkljaaTkJ
import Derived.Lib.AppendZeros
namespace Go.Proofs.Ytadbffphmmkljaa
open Go.RowKit Go.Maps
set_option linter.unusedVariables false
set_option linter.unusedSimpArgs false

def merR (m : Int × Int) (ok : Bool) : Value := .tuple #[.agg #[.int .i64 m.1, .int .i64 m.2], .bool ok]

section
variable {F : List Nat} {p : Nat} {v0 v1 : Value} {b2 b3 : Nat} {tx : List ByteArray} {mg : List (Int × Int)} {lg : Int} {w : World}

end

def exM : List (Int × Int) := [(97, 98), (256, 99)]
theorem ex0 : addC (stT exM 0).1 (gm exM 0) = 0 := by decide +kernel
theorem ex1 : addC (stT exM 1).1 (gm exM 1) = 0 := by decide +kernel
theorem ex2 : addC (stT exM 2).1 (98, 99) = 0 := by decide +kernel
theorem ex3 : addC (nextT (stT exM 2).1 (98, 99)) (97, 258) = 10 := by decide +kernel
theorem ex4 : gs (stT exM 2).1 257 = ⟨#[97, 98, 99]⟩ := by decide +kernel
theorem ex5 : 257 < (stT exM 2).1.length := by decide +kernel

end Go.Proofs.Ytadbffphmmkljaa
