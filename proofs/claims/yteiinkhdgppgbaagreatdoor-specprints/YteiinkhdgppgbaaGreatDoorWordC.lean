/- Contracts: the reference's Hex, digit, Unhex. -/
import Derived.Test.YteiinkhdgppgbaaGreatDoorWordB
namespace Go.Proofs.YteiinkhdgppgbaaGreatDoor
open Go.RowKit
set_option linter.unusedVariables false
set_option linter.unusedSimpArgs false

theorem digit_any (c : UInt8) (w : World) :
    Calls Tryz.prog 76 #[.int .u8 c.toNat] w fun e w' => e = .returned (.int .i64 (dv c)) ∧ w' = w := by
  have hc := c.toNat_lt
  by_cases h1 : (c.toNat : Int) < 48
  · have HV := hide (show (dv c : Int) = 16 by unfold dv; rw [if_neg (by omega), if_neg (by omega)]; rfl)
    go_enter Tryz.func76, Tryz.ntmps76
    go_wp2
    go_ret
    rw [HV.out]
    exact ⟨rfl, rfl⟩
  by_cases h2 : (c.toNat : Int) ≤ 57
  · have HV := hide (show (dv c : Int) = (c.toNat : Int) - 48 by unfold dv; rw [if_pos (by omega)]; omega)
    go_enter Tryz.func76, Tryz.ntmps76
    go_wp2
    go_ret
    rw [HV.out]
    exact ⟨rfl, rfl⟩
  by_cases h3 : (c.toNat : Int) < 97
  · have HV := hide (show (dv c : Int) = 16 by unfold dv; rw [if_neg (by omega), if_neg (by omega)]; rfl)
    go_enter Tryz.func76, Tryz.ntmps76
    go_wp2
    go_ret
    rw [HV.out]
    exact ⟨rfl, rfl⟩
  by_cases h4 : (c.toNat : Int) ≤ 102
  · have HV := hide (show (dv c : Int) = (c.toNat : Int) - 97 + 10 by unfold dv; rw [if_neg (by omega), if_pos (by omega)]; omega)
    go_enter Tryz.func76, Tryz.ntmps76
    go_wp2
    go_ret
    rw [HV.out]
    exact ⟨rfl, rfl⟩
  have HV := hide (show (dv c : Int) = 16 by unfold dv; rw [if_neg (by omega), if_neg (by omega)]; rfl)
  go_enter Tryz.func76, Tryz.ntmps76
  go_wp2
  go_ret
  rw [HV.out]
  exact ⟨rfl, rfl⟩

theorem conv2 (wr : World) (x y : Int) : (convert 45 9 (.slice (some ⟨wr.heap.size, 0, none⟩) 2 2)).run Tryz.prog (wr.alloc (.cells #[.int .u8 x, .int .u8 y] 5)).drew = .ok (.string (strOfNums [x, y])) (wr.alloc (.cells #[.int .u8 x, .int .u8 y] 5)).drew :=
  run_convert_bytes_arg (P := Tryz.prog) (wr.alloc (.cells #[.int .u8 x, .int .u8 y] 5)).drew 45 5 Tryz.underlying45 Tryz.underlying5 wr.heap.size 0 2 2 [x, y] rfl (by
    intro i hi
    rcases i with _ | _ | i
    · simp
    · simp
    · omega) 9 Tryz.underlying9
theorem str_two (a b : UInt8) : strOfNums [(a.toNat : Int), (b.toNat : Int)] = ⟨#[a, b]⟩ := by
  simp [strOfNums]
theorem str_append (a b : List UInt8) : (⟨a.toArray⟩ : ByteArray) ++ ⟨b.toArray⟩ = ⟨(a ++ b).toArray⟩ := by
  apply ByteArray.ext
  rw [ByteArray.data_append]
  simp

set_option maxHeartbeats 800000 in
theorem refHex_any (s : ByteArray) (w : World) (hs : s.size ≤ 1000000) :
    Calls Tryz.prog 51 #[.string s] w fun e w' => e = .returned (.string (hexS s)) ∧ Below w.heap.size w w' := by
  go_enter Tryz.func51, Tryz.ntmps51
  go_wp2
  go_loopw [3, 4] (fun o i wr => ∃ (k : Nat) (S : ByteArray), k ≤ s.size ∧ i = .int .i64 k ∧ o = .string S ∧ S.size ≤ 2 * k ∧ Hid (S = ⟨(hexL (s.data.toList.take k)).toArray⟩) ∧ Below w.heap.size w wr) (fun _ i _ => s.size - (intOf i).toNat)
  case atStart =>
    exact ⟨0, _, Nat.zero_le _, rfl, rfl, Nat.le_refl _, hide rfl, Below.refl _ w⟩
  case round =>
    obtain ⟨k, S, hk, rfl, rfl, hSs, hS, hbel⟩ := hrel
    by_cases hlt : k < s.size
    · have hc := s[k].toNat_lt
      have hq : (s[k].toNat : Int) / 16 < 16 := by omega
      have hq0 : 0 ≤ (s[k].toNat : Int) / 16 := by omega
      have hm : (s[k].toNat : Int) % 16 < 16 := by omega
      have hm0 : 0 ≤ (s[k].toNat : Int) % 16 := by omega
      have hcv := conv2 wr ((({ data := #[48, 49, 50, 51, 52, 53, 54, 55, 56, 57, 97, 98, 99, 100, 101, 102] } : ByteArray)[s[k].toNat / 16]'(by show _ < 16; omega)).toNat : Int) ((({ data := #[48, 49, 50, 51, 52, 53, 54, 55, 56, 57, 97, 98, 99, 100, 101, 102] } : ByteArray)[s[k].toNat % 16]'(by show _ < 16; omega)).toNat : Int)
      have HB := hide ((hbel.alloc hbel.size (.cells #[.int .u8 ((({ data := #[48, 49, 50, 51, 52, 53, 54, 55, 56, 57, 97, 98, 99, 100, 101, 102] } : ByteArray)[s[k].toNat / 16]'(by show _ < 16; omega)).toNat : Int), .int .u8 ((({ data := #[48, 49, 50, 51, 52, 53, 54, 55, 56, 57, 97, 98, 99, 100, 101, 102] } : ByteArray)[s[k].toNat % 16]'(by show _ < 16; omega)).toNat : Int)] 5)).drew)
      have hS8 : (S.size : Int) ≤ 8388608 := by omega
      have hT8 : ((strOfNums [((({ data := #[48, 49, 50, 51, 52, 53, 54, 55, 56, 57, 97, 98, 99, 100, 101, 102] } : ByteArray)[s[k].toNat / 16]'(by show _ < 16; omega)).toNat : Int), ((({ data := #[48, 49, 50, 51, 52, 53, 54, 55, 56, 57, 97, 98, 99, 100, 101, 102] } : ByteArray)[s[k].toNat % 16]'(by show _ < 16; omega)).toNat : Int)]).size : Int) ≤ 8388608 := by rw [strOfNums_size]; simp
      have HE := hide (hexL_take s k hlt)
      have HD1 := hide (digs_at (s[k].toNat / 16) (by show _ < 16; omega))
      have HD2 := hide (digs_at (s[k].toNat % 16) (by show _ < 16; omega))
      clear hbel
      go_wp2
      go_region
      go_wp2
      go_roundw
      case rel =>
        refine ⟨k + 1, _, by omega, by go_num, rfl, ?_, ?_, HB.out⟩
        · rw [ByteArray.size_append, strOfNums_size]
          simp only [List.length_cons, List.length_nil]
          omega
        · refine hide ?_
          rw [HE.out, hS.out, str_two, HD1.out, HD2.out]
          exact str_append _ _
      case measure => simp [intOf]; omega
    · have hks : k = s.size := by omega
      have HE : Hid (S = ⟨(hexL s.data.toList).toArray⟩) := hide (by rw [hS.out, hks, List.take_of_length_le (by rw [Array.length_toList]; exact Nat.le_refl _)])
      have HZ : Hid (S.size = 2 * s.size) := hide (by rw [HE.out]; show (hexL s.data.toList).toArray.size = _; rw [List.size_toArray, hexL_length, Array.length_toList]; rfl)
      clear hks hS
      by_cases h0 : s.size = 0
      · have he := isEmpty_true (s := S) (by rw [HZ.out, h0])
        have HU := hide (show hexS s = ⟨#[45]⟩ by rw [hexS, if_pos h0])
        clear h0
        go_wp2
        go_ret
        exact ⟨by rw [HU.out]; rfl, hbel⟩
      · have he := isEmpty_false (s := S) (by rw [HZ.out]; omega)
        have HU := hide (show hexS s = S by rw [hexS, if_neg h0, HE.out])
        clear h0
        go_wp2
        go_ret
        exact ⟨by rw [HU.out]; rfl, hbel⟩
end Go.Proofs.YteiinkhdgppgbaaGreatDoor
