/- Contracts: awake; the law of hex words. -/
import Derived.Test.YtgligelcabjikaaDoorWordE
import Derived.Test.YtgligelcabjikaaDoorWordF
namespace Go.Proofs.YtgligelcabjikaaDoor
open Go.RowKit
set_option linter.unusedVariables false
set_option linter.unusedSimpArgs false

theorem hex_az : hexS ⟨#[97, 122]⟩ = ⟨#[54, 49, 55, 97]⟩ := by decide +kernel
theorem nums_31 : numsS [3, -1] = ⟨#[51, 32, 45, 49]⟩ := by
  simp [numsS, lineS, lineL, numS, Lib.itoa, Lib.decDigits]

set_option maxHeartbeats 1600000 in
theorem awake_any (w : World) (ht : Tens w) :
    Calls Tryd.prog 4 #[] w fun e w' => e = .returned (.bool true) ∧ Below w.heap.size w w' := by
  have HT := hide ht
  clear ht
  go_enter Tryd.func4, Tryd.ntmps4
  go_wp2_with fail
  refine (hex_any _ w (by decide)).mono ?_
  rintro e w1 ⟨rfl, hb1⟩
  rw [hex_az]
  have HB1 := hide hb1
  have HT1 := hide (tens_below HT.out hb1)
  clear hb1
  go_wp2_with fail
  refine (numbers_any (some ⟨w1.heap.size, 0, none⟩) 2 2 [3, -1] (w1.alloc (.cells #[.int .i64 3, .int .i64 (-1)] 3)) ?_ ?_ (by omega) (tens_below HT1.out ((Below.refl _ w1).alloc (Nat.le_refl _) _))).mono ?_
  · refine ⟨rfl, Or.inr ⟨_, 0, rfl, fun i hi => ?_⟩⟩
    rcases i with _ | _ | i
    · simp
    · simp
    · omega
  · intro z hz
    simp only [List.mem_cons, List.not_mem_nil, or_false] at hz
    rcases hz with rfl | rfl <;> omega
  rintro e w2 ⟨rfl, hb2⟩
  rw [nums_31]
  have HB2 := hide (HB1.out.trans ((((Below.refl w1.heap.size w1).alloc (Nat.le_refl _) (.cells #[.int .i64 3, .int .i64 (-1)] 3)).trans (hb2.mono (by simp))).mono HB1.out.size))
  clear hb2
  go_wp2
  go_ret
  exact ⟨rfl, HB2.out⟩

theorem unhexS_size (s : ByteArray) : (unhexS s).1.size ≤ s.size := by
  unfold unhexS
  split
  · exact Nat.zero_le _
  · split
    · exact Nat.zero_le _
    · split
      · show (outs s.data.toList (s.size / 2)).toArray.size ≤ _
        rw [List.size_toArray, outs_length]
        omega
      · exact Nat.zero_le _
theorem unhexS_none (s : ByteArray) (h : (unhexS s).2 = false) : (unhexS s).1 = ⟨#[]⟩ := by
  unfold unhexS at h ⊢
  split
  · rfl
  · rename_i h1
    rw [if_neg h1] at h
    split
    · rfl
    · rename_i h2
      rw [if_neg h2] at h
      split
      · rename_i h3
        rw [if_pos h3] at h
        cases h
      · rfl
theorem hexS_size (b : ByteArray) : (hexS b).size ≤ 2 * b.size + 1 := by
  rw [hexS]
  split
  · show 1 ≤ _
    omega
  · show (hexL b.data.toList).toArray.size ≤ _
    rw [List.size_toArray, hexL_length, Array.length_toList]
    have : b.data.size = b.size := rfl
    omega
abbrev Lands (f : Nat) (args : Array Value) (v : Value) : Prop := ∀ W, Calls Tryd.prog f args W fun e w' => e = .returned v ∧ Below W.heap.size W w'

end Go.Proofs.YtgligelcabjikaaDoor
