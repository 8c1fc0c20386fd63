/- Contracts: awake; the law of hex words. -/
import Derived.Test.YteiinkhdgppgbaaGreatDoorWordE
import Derived.Test.YteiinkhdgppgbaaGreatDoorWordF
namespace Go.Proofs.YteiinkhdgppgbaaGreatDoor
open Go.RowKit
set_option linter.unusedVariables false
set_option linter.unusedSimpArgs false

theorem hex_az : hexS ⟨#[97, 122]⟩ = ⟨#[54, 49, 55, 97]⟩ := by decide +kernel
theorem nums_31 : numsS [3, -1] = ⟨#[51, 32, 45, 49]⟩ := by
  simp [numsS, lineS, lineL, numS, Lib.itoa, Lib.decDigits]

theorem unhexS_size (s : ByteArray) : (unhexS s).1.size ≤ s.size := by
  unfold unhexS
  split
  · exact Nat.zero_le _
  · split
    · exact Nat.zero_le _
    · split
      · show (outs s.data.toList (s.size / 2)).toArray.size ≤ _
        rw [List.size_toArray, outs_length]
        omega
      · exact Nat.zero_le _
theorem unhexS_none (s : ByteArray) (h : (unhexS s).2 = false) : (unhexS s).1 = ⟨#[]⟩ := by
  unfold unhexS at h ⊢
  split
  · rfl
  · rename_i h1
    rw [if_neg h1] at h
    split
    · rfl
    · rename_i h2
      rw [if_neg h2] at h
      split
      · rename_i h3
        rw [if_pos h3] at h
        cases h
      · rfl
theorem hexS_size (b : ByteArray) : (hexS b).size ≤ 2 * b.size + 1 := by
  rw [hexS]
  split
  · show 1 ≤ _
    omega
  · show (hexL b.data.toList).toArray.size ≤ _
    rw [List.size_toArray, hexL_length, Array.length_toList]
    have : b.data.size = b.size := rfl
    omega
abbrev Lands (f : Nat) (args : Array Value) (v : Value) : Prop := ∀ W, Calls Tryz.prog f args W fun e w' => e = .returned v ∧ Below W.heap.size W w'

end Go.Proofs.YteiinkhdgppgbaaGreatDoor
