/- Numbers told and read: the mathematics. -/
import Derived.Test.YtdpmjaelbjjanaaGreatZQa1
import Derived.Lib.ItoaNum
import Derived.Lib.AtoiAll
import Derived.Lib.AtoiAllCases
namespace Go.Proofs.YtdpmjaelbjjanaaGreat.Wf
open Go.RowKit
set_option linter.unusedVariables false
set_option linter.unusedSimpArgs false

def IsD (c : UInt8) : Prop := 48 ≤ c.toNat ∧ c.toNat ≤ 57
instance (c : UInt8) : Decidable (IsD c) := by unfold IsD; infer_instance
def valA (acc : Nat) (l : List UInt8) : Nat := l.foldl (fun a c => a * 10 + (c.toNat - 48)) acc
def val (l : List UInt8) : Nat := valA 0 l
end Go.Proofs.YtdpmjaelbjjanaaGreat.Wf
