/- Contracts: word.Hex, word.Unhex, and the reference's. Contract: word.Unhex. The hex words: back and forth. Contracts: the reference's Hex, digit, Unhex. -/
import Derived.Test.YtdpmjaelbjjanaaGreatProg
import Derived.Lib.Bytealg
import Derived.Test.YtdpmjaelbjjanaaGreatZQa1
import Derived.Test.YtdpmjaelbjjanaaGreatRows
import Derived.WalkKit
import Derived.ProofKit
namespace Go.Proofs.YtdpmjaelbjjanaaGreat.Wf
open Go.RowKit
set_option linter.unusedVariables false
set_option linter.unusedSimpArgs false


/-- A hex digit's letter. -/
def hx (n : Nat) : UInt8 := if n < 10 then (48 + n).toUInt8 else (87 + n).toUInt8
def hex2 (c : UInt8) : List UInt8 := [hx (c.toNat / 16), hx (c.toNat % 16)]
def hexL (l : List UInt8) : List UInt8 := l.flatMap hex2
def hexS (s : ByteArray) : ByteArray := if s.size = 0 then ⟨#[45]⟩ else ⟨(hexL s.data.toList).toArray⟩

theorem byteCells_append (a b : List UInt8) : Lib.byteCells (a ++ b) = Lib.byteCells a ++ Lib.byteCells b := List.map_append ..
theorem size_toList (s : ByteArray) : s.toList.length = s.size := by rw [ByteArray.toList_eq, Array.length_toList]; rfl

theorem isEmpty_true {s : ByteArray} (h : s.size = 0) : s.toList.isEmpty = true := by rw [List.isEmpty_iff_length_eq_zero, size_toList, h]
theorem isEmpty_false {s : ByteArray} (h : ¬ s.size = 0) : s.toList.isEmpty = false := by
  rw [Bool.eq_false_iff]
  intro h'
  rw [List.isEmpty_iff_length_eq_zero, size_toList] at h'
  exact h h'

end Go.Proofs.YtdpmjaelbjjanaaGreat.Wf

namespace Go.Proofs.YtdpmjaelbjjanaaGreat.Wf
open Go.RowKit
set_option linter.unusedVariables false
set_option linter.unusedSimpArgs false

/-- A hex digit's number; 16: none. -/
def dv (c : UInt8) : Nat := if 48 ≤ c.toNat ∧ c.toNat ≤ 57 then c.toNat - 48 else if 97 ≤ c.toNat ∧ c.toNat ≤ 102 then c.toNat - 87 else 16
def at0 (l : List UInt8) (j : Nat) : UInt8 := l.getD j 0
def okAt (l : List UInt8) (i : Nat) : Prop := dv (at0 l (2 * i)) < 16 ∧ dv (at0 l (2 * i + 1)) < 16
instance (l : List UInt8) (i : Nat) : Decidable (okAt l i) := by unfold okAt; infer_instance
end Go.Proofs.YtdpmjaelbjjanaaGreat.Wf

namespace Go.Proofs.YtdpmjaelbjjanaaGreat.Wf
open Go.RowKit
set_option linter.unusedVariables false
set_option linter.unusedSimpArgs false

end Go.Proofs.YtdpmjaelbjjanaaGreat.Wf

namespace Go.Proofs.YtdpmjaelbjjanaaGreat.Wf
open Go.RowKit
set_option linter.unusedVariables false
set_option linter.unusedSimpArgs false

end Go.Proofs.YtdpmjaelbjjanaaGreat.Wf
