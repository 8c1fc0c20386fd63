/- Contract: the reference's Number. -/
import Derived.Test.YteiinkhdgppgbaaGreatDoorWordF
import Derived.Test.YteiinkhdgppgbaaGreatDoorWordH
namespace Go.Proofs.YteiinkhdgppgbaaGreatDoor
open Go.RowKit
set_option linter.unusedVariables false
set_option linter.unusedSimpArgs false

def up (m : Nat) : List UInt8 := if m = 0 then [] else Lib.decDigits m
theorem dec_step (m : Nat) : Lib.decDigits m = up (m / 10) ++ [UInt8.ofNat (48 + m % 10)] := by
  rw [Lib.decDigits, up]
  split
  · rw [if_pos (by omega), show m % 10 = m by omega]
    rfl
  · rw [if_neg (by omega)]
theorem conv1 (wr : World) (x : Int) : (convert 45 9 (.slice (some ⟨wr.heap.size, 0, none⟩) 1 1)).run Tryz.prog (wr.alloc (.cells #[.int .u8 x] 5)) = .ok (.string (strOfNums [x])) (wr.alloc (.cells #[.int .u8 x] 5)) :=
  run_convert_bytes_arg (P := Tryz.prog) (wr.alloc (.cells #[.int .u8 x] 5)) 45 5 Tryz.underlying45 Tryz.underlying5 wr.heap.size 0 1 1 [x] rfl (by
    intro i hi
    obtain rfl : i = 0 := (by omega)
    simp) 9 Tryz.underlying9
def strE : Value → Nat | .string s => if s.size = 0 then 1 else 0 | _ => 0
theorem str_one (m : Nat) (l : List UInt8) : strOfNums [48 + (m : Int) % 10] ++ (⟨l.toArray⟩ : ByteArray) = ⟨(UInt8.ofNat (48 + m % 10) :: l).toArray⟩ := by
  have : strOfNums [48 + (m : Int) % 10] = ⟨[UInt8.ofNat (48 + m % 10)].toArray⟩ := by
    rw [strOfNums, List.map_cons, List.map_nil, show (48 + (m : Int) % 10).toNat = 48 + m % 10 by omega]
  rw [this, str_append]
  rfl
theorem up_step (N m : Nat) (l : List UInt8) (h : Lib.decDigits N = up m ++ l) (hm : m ≠ 0) : Lib.decDigits N = up (m / 10) ++ (UInt8.ofNat (48 + m % 10) :: l) := by
  rw [h]
  conv => lhs; rw [up, if_neg hm, dec_step m]
  rw [List.append_assoc]
  rfl

set_option maxHeartbeats 800000 in
set_option maxRecDepth 20000 in
theorem refNumber_any (n : Int) (w : World) (h0 : -9223372036854775808 ≤ n) (h1 : n ≤ 9223372036854775807) :
    Calls Tryz.prog 50 #[.int .i64 n] w fun e w' => e = .returned (.string ⟨(Lib.itoa n).toArray⟩) ∧ Below w.heap.size w w' := by
  by_cases hn : n < 0
  · have HI := hide (show Lib.itoa n = 45 :: Lib.decDigits n.natAbs by rw [Lib.itoa, if_pos hn])
    go_enter Tryz.func50, Tryz.ntmps50
    go_wp2
    have HN0 := hide (And.intro h0 hn)
    have HL : Hid ((Lib.decDigits n.natAbs).length ≤ 20) := hide (decDigits_len 19 _ (by have e : (10 : Nat) ^ (19 + 1) = 100000000000000000000 := (by decide); rw [e]; omega))
    clear h0 h1 hn
    go_loopw [0, 4] (fun v S wr => ∃ (m : Nat) (l : List UInt8), v = .int .i64 (-(m : Int)) ∧ S = .string ⟨l.toArray⟩ ∧ m ≤ 9223372036854775808 ∧ l.length ≤ 100 ∧ Hid (Lib.decDigits n.natAbs = up m ++ l) ∧ Below w.heap.size w wr) (fun v _ _ => (intOf v).natAbs)
    case atStart =>
      refine ⟨n.natAbs, [], ?_, rfl, ?_, by simp, hide ?_, Below.refl _ w⟩
      · have := HN0.out
        congr 1
        omega
      · have := HN0.out
        omega
      · have := HN0.out
        rw [up, if_neg (by omega), List.append_nil]
    case round =>
      obtain ⟨m, l, rfl, rfl, hm, hl, hd, hbel⟩ := hrel
      have hl8 : ((⟨l.toArray⟩ : ByteArray).size : Int) ≤ 8388608 := by show ((l.toArray.size : Nat) : Int) ≤ _; rw [List.size_toArray]; omega
      by_cases hz : m = 0
      · subst hz
        have HF := hide (show Lib.itoa n = 45 :: l by rw [HI.out, hd.out]; rfl)
        clear hd
        go_wp2
        go_ret
        rw [HF.out]
        exact ⟨congrArg (fun s => Ending.returned (Value.string s)) (str_append [45] l), hbel⟩
      · have hlt : -(m : Int) < 0 := by omega
        have htm : (-(m : Int)).tmod 10 = -((m % 10 : Nat) : Int) := by rw [Int.neg_tmod, Int.tmod_eq_emod_of_nonneg (by omega)]; rfl
        have htd : (-(m : Int)).tdiv 10 = -((m / 10 : Nat) : Int) := by rw [Int.neg_tdiv, Int.tdiv_eq_ediv_of_nonneg (by omega)]; rfl
        have hcv := conv1 wr (48 + (m : Int) % 10)
        have hT8 : ((strOfNums [48 + (m : Int) % 10]).size : Int) ≤ 8388608 := by rw [strOfNums_size]; simp
        have HB := hide (hbel.alloc hbel.size (.cells #[.int .u8 (48 + (m : Int) % 10)] 5))
        have HD := hide (up_step _ m l hd.out hz)
        have HLL : Hid ((UInt8.ofNat (48 + m % 10) :: l).length ≤ 100) := hide (by have h1 := HL.out; rw [HD.out, List.length_append] at h1; omega)
        clear hd
        go_wp2
        go_roundw
        case rel =>
          refine ⟨m / 10, _ :: l, ?_, ?_, by omega, HLL.out, HD, HB.out⟩
          · go_num
          · rw [str_one]
        case measure => simp [intOf]; omega
  · have HI := hide (show Lib.itoa n = Lib.decDigits n.toNat by rw [Lib.itoa, if_neg hn])
    go_enter Tryz.func50, Tryz.ntmps50
    go_wp2
    have HN0 := hide (And.intro h1 hn)
    have HL : Hid ((Lib.decDigits n.toNat).length ≤ 20) := hide (decDigits_len 19 _ (by have e : (10 : Nat) ^ (19 + 1) = 100000000000000000000 := (by decide); rw [e]; omega))
    clear h0 h1 hn
    go_loopw [0, 3] (fun v S wr => ∃ (m : Nat) (l : List UInt8), v = .int .i64 (m : Int) ∧ S = .string ⟨l.toArray⟩ ∧ m ≤ 9223372036854775807 ∧ l.length ≤ 100 ∧ Hid ((l = [] ∧ m = n.toNat) ∨ (l ≠ [] ∧ Lib.decDigits n.toNat = up m ++ l)) ∧ Below w.heap.size w wr) (fun v S _ => (intOf v).toNat + strE S)
    case atStart =>
      refine ⟨n.toNat, [], ?_, rfl, ?_, by simp, hide (Or.inl ⟨rfl, rfl⟩), Below.refl _ w⟩
      · have := HN0.out
        congr 1
        omega
      · have := HN0.out
        omega
    case round =>
      obtain ⟨m, l, rfl, rfl, hm, hl, hd, hbel⟩ := hrel
      have hl8 : ((⟨l.toArray⟩ : ByteArray).size : Int) ≤ 8388608 := by show ((l.toArray.size : Nat) : Int) ≤ _; rw [List.size_toArray]; omega
      have hsz : (⟨l.toArray⟩ : ByteArray).size = l.length := by show l.toArray.size = _; rw [List.size_toArray]
      by_cases hend : m = 0 ∧ l ≠ []
      · obtain ⟨rfl, hne⟩ := hend
        have HF := hide (show Lib.itoa n = l by
          rw [HI.out]
          rcases hd.out with ⟨h, _⟩ | ⟨_, h⟩
          · exact absurd h hne
          · rw [h]; rfl)
        have hee : l.isEmpty = false := by cases l with
          | nil => exact absurd rfl hne
          | cons a r => rfl
        clear hd hne hsz
        go_wp2
        go_ret
        rw [HF.out]
        exact ⟨rfl, hbel⟩
      · have HD : Hid (Lib.decDigits n.toNat = up (m / 10) ++ (UInt8.ofNat (48 + m % 10) :: l)) := by
          refine hide ?_
          rcases hd.out with ⟨h, h2⟩ | ⟨h, h2⟩
          · rw [h, ← h2]; exact dec_step m
          · exact up_step _ m l h2 (fun h3 => hend ⟨h3, h⟩)
        have HME : Hid (m / 10 < m + strE (.string ⟨l.toArray⟩)) := by
          refine hide ?_
          by_cases h0 : m = 0
          · have hl0 : l = [] := by
              cases l with
              | nil => rfl
              | cons a r => exact absurd ⟨h0, by simp⟩ hend
            rw [h0, hl0]
            decide
          · have : m / 10 < m := by omega
            omega
        have hcv := conv1 wr (48 + (m : Int) % 10)
        have hT8 : ((strOfNums [48 + (m : Int) % 10]).size : Int) ≤ 8388608 := by rw [strOfNums_size]; simp
        have HB := hide (hbel.alloc hbel.size (.cells #[.int .u8 (48 + (m : Int) % 10)] 5))
        have HLL : Hid ((UInt8.ofNat (48 + m % 10) :: l).length ≤ 100) := hide (by have h1 := HL.out; rw [HD.out, List.length_append] at h1; omega)
        have HEND := hide hend
        clear hd hend
        by_cases hm0 : m = 0
        · obtain rfl : l = [] := by
            cases l with
            | nil => rfl
            | cons a r => exact absurd ⟨hm0, by simp⟩ HEND.out
          subst hm0
          clear hsz hcv hT8 HB HLL HEND hl hl8
          have hcv := conv1 wr 48
          have hT8 : ((strOfNums [48]).size : Int) ≤ 8388608 := by rw [strOfNums_size]; simp
          have HB := hide (hbel.alloc hbel.size (.cells #[.int .u8 48] 5))
          go_wp2
          go_roundw
          case rel =>
            refine ⟨0, [48], ?_, ?_, by omega, by simp, hide (Or.inr ⟨by simp, HD.out⟩), HB.out⟩
            · go_num
            · rfl
          case measure =>
            show 0 + strE (.string (strOfNums [48] ++ ⟨#[]⟩)) < 0 + strE (.string ⟨#[]⟩)
            decide +kernel
        · have hgt : (0 : Int) < m := by omega
          clear hsz
          go_wp2
          go_roundw
          case rel =>
            refine ⟨m / 10, _ :: l, ?_, ?_, by omega, HLL.out, hide (Or.inr ⟨by simp, HD.out⟩), HB.out⟩
            · go_num
            · rw [str_one]
          case measure =>
            have h1 := HME.out
            have h2 : strE (.string ⟨(UInt8.ofNat (48 + m % 10) :: l).toArray⟩) = 0 := by simp [strE, ByteArray.size]
            rw [str_one, h2]
            show ((m : Int) / 10).toNat + 0 < (m : Int).toNat + _
            omega
end Go.Proofs.YteiinkhdgppgbaaGreatDoor
