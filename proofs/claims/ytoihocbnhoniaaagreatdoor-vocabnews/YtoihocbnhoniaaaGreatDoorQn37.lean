/- Contracts of package mark: Bytes, Parse. -/
import Derived.Test.YtoihocbnhoniaaaGreatDoorQn36
namespace Go.Proofs.YtoihocbnhoniaaaGreatDoor.Mk
open Go.RowKit Go.Maps
set_option linter.unusedVariables false
set_option linter.unusedSimpArgs false

def bys (s : ByteArray) : List Int := s.data.toList.map (fun b => (b.toNat : Int))

theorem bys_len (s : ByteArray) : (bys s).length = s.size := by
  unfold bys
  rw [List.length_map, Array.length_toList]
  rfl

theorem size_toList (s : ByteArray) : s.toList.length = s.size := by rw [ByteArray.toList_eq, Array.length_toList]; rfl

theorem isEmpty_true {s : ByteArray} (h : s.size = 0) : s.toList.isEmpty = true := by rw [List.isEmpty_iff_length_eq_zero, size_toList, h]

theorem isEmpty_false {s : ByteArray} (h : ¬ s.size = 0) : s.toList.isEmpty = false := by
  rw [Bool.eq_false_iff]
  intro h'
  rw [List.isEmpty_iff_length_eq_zero, size_toList] at h'
  exact h h'

def szOf : Value → Nat
  | .string s => s.size
  | _ => 0
@[simp] theorem szOf_string (s : ByteArray) : szOf (.string s) = s.size := rfl

section
variable {T : List (List UInt8)} {t : ByteArray}
end

section
variable {v : Value} {ao : Option Addr} {cap : Nat} {L : List (Int × ByteArray)} {w : World}
end
end Go.Proofs.YtoihocbnhoniaaaGreatDoor.Mk
