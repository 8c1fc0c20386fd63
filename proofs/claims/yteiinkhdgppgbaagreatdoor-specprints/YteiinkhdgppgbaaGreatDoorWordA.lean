/- Contracts: word.Hex, word.Unhex, and the reference's. -/
import Derived.Test.YteiinkhdgppgbaaGreatDoorBuild
import Derived.Test.YteiinkhdgppgbaaGreatDoorBase
import Derived.Test.YteiinkhdgppgbaaGreatDoorRows
import Derived.WalkKit
import Derived.ProofKit
namespace Go.Proofs.YteiinkhdgppgbaaGreatDoor
open Go.RowKit
set_option linter.unusedVariables false
set_option linter.unusedSimpArgs false


/-- A hex digit's letter. -/
def hx (n : Nat) : UInt8 := if n < 10 then (48 + n).toUInt8 else (87 + n).toUInt8
def hex2 (c : UInt8) : List UInt8 := [hx (c.toNat / 16), hx (c.toNat % 16)]
def hexL (l : List UInt8) : List UInt8 := l.flatMap hex2
def hexS (s : ByteArray) : ByteArray := if s.size = 0 then ⟨#[45]⟩ else ⟨(hexL s.data.toList).toArray⟩

theorem hexL_take (s : ByteArray) (k : Nat) (h : k < s.size) : hexL (s.data.toList.take (k + 1)) = hexL (s.data.toList.take k) ++ hex2 s[k] := by
  have h' : k < s.data.toList.length := by rw [Array.length_toList]; exact h
  rw [List.take_succ_eq_append_getElem h', hexL, List.flatMap_append]
  simp [hexL]
  rfl
theorem hexL_length (l : List UInt8) : (hexL l).length = 2 * l.length := by
  induction l with
  | nil => rfl
  | cons a r ih => simp only [hexL, List.flatMap_cons, List.length_append, List.length_cons] at ih ⊢; rw [ih]; simp [hex2]; omega
/-- The digits as they lie in the program. -/
abbrev digs : ByteArray := { data := #[48, 49, 50, 51, 52, 53, 54, 55, 56, 57, 97, 98, 99, 100, 101, 102] }
theorem digs_at (n : Nat) (h : n < digs.size) : digs[n] = hx n := by
  have h' : n < 16 := h
  have all : ∀ m : Fin 16, digs[m.val]'(m.isLt) = hx m.val := by decide
  exact all ⟨n, h'⟩
theorem byteCells_append (a b : List UInt8) : Lib.byteCells (a ++ b) = Lib.byteCells a ++ Lib.byteCells b := List.map_append ..
theorem byteCells_length (a : List UInt8) : (Lib.byteCells a).length = a.length := List.length_map ..
theorem size_toList (s : ByteArray) : s.toList.length = s.size := by rw [ByteArray.toList_eq, Array.length_toList]; rfl

theorem isEmpty_true {s : ByteArray} (h : s.size = 0) : s.toList.isEmpty = true := by rw [List.isEmpty_iff_length_eq_zero, size_toList, h]
theorem isEmpty_false {s : ByteArray} (h : ¬ s.size = 0) : s.toList.isEmpty = false := by
  rw [Bool.eq_false_iff]
  intro h'
  rw [List.isEmpty_iff_length_eq_zero, size_toList] at h'
  exact h h'

set_option maxHeartbeats 800000 in
theorem hex_any (s : ByteArray) (w : World) (hs : s.size ≤ 1000000) :
    Calls Tryz.prog 46 #[.string s] w fun e w' => e = .returned (.string (hexS s)) ∧ Below w.heap.size w w' := by
  by_cases h0 : s.size = 0
  · have he := isEmpty_true h0
    have H0 := hide h0
    clear h0
    go_enter Tryz.func46, Tryz.ntmps46
    go_wp2
    go_ret
    refine ⟨?_, Below.refl _ _⟩
    rw [hexS, if_pos H0.out]
    rfl
  have he := isEmpty_false h0
  go_enter Tryz.func46, Tryz.ntmps46
  go_wp2
  go_loopw [9] (fun i wr => ∃ k : Nat, k ≤ s.size ∧ i = .int .i64 k ∧ Lib.IsBuilder 47 5 w.heap.size w.heap.size (Lib.byteCells (hexL (s.data.toList.take k))) wr ∧ Below w.heap.size w wr) (fun i _ => s.size - (intOf i).toNat)
  case atStart =>
    refine ⟨0, Nat.zero_le _, rfl, Lib.fresh_isBuilder _ _ w, (Below.refl _ w).alloc (Nat.le_refl _) _⟩
  case round =>
    obtain ⟨k, hk, rfl, hB, hbel⟩ := hrel
    by_cases hlt : k < s.size
    · have hc := s[k].toNat_lt
      have hq : (s[k].toNat : Int) / 16 < 16 := by omega
      have hq0 : 0 ≤ (s[k].toNat : Int) / 16 := by omega
      have hm : (s[k].toNat : Int) % 16 < 16 := by omega
      have hm0 : 0 ≤ (s[k].toNat : Int) % 16 := by omega
      have hl0 : (Lib.byteCells (hexL (s.data.toList.take k))).length ≤ 2 * s.size := by
        rw [byteCells_length, hexL_length, List.length_take, Array.length_toList]
        have : s.data.size = s.size := rfl
        omega
      go_wp2_with fail
      refine (Tryz.Builder_WriteByte w.heap.size w.heap.size _ _ wr hB (by omega) hbel.size).mono ?_
      rintro e w1 ⟨rfl, hB1, hb1⟩
      go_wp2_with fail
      refine (Tryz.Builder_WriteByte w.heap.size w.heap.size _ _ w1 (Or.inr hB1) (by rw [List.length_append]; simp only [List.length_cons, List.length_nil]; omega) (hbel.trans hb1).size).mono ?_
      rintro e w2 ⟨rfl, hB2, hb2⟩
      go_wp2
      rw [digs_at, digs_at] at hB2
      rw [List.append_assoc] at hB2
      have hB3 := hide hB2
      clear hB2 hB1 hB
      go_roundw
      case rel =>
        refine ⟨k + 1, by omega, by go_num, ?_, (hbel.trans hb1).trans hb2⟩
        rw [hexL_take s k hlt, byteCells_append]
        exact Or.inr hB3.out
      case measure => simp [intOf]; omega
    · go_wp2_with fail
      have hks : k = s.size := by omega
      subst hks
      refine (Tryz.Builder_String_any w.heap.size w.heap.size _ wr hB hbel.size).mono ?_
      rintro e w1 ⟨rfl, hb1⟩
      go_wp2
      go_ret
      refine ⟨?_, hbel.trans hb1⟩
      rw [hexS, if_neg h0, List.take_of_length_le (by rw [Array.length_toList]; exact Nat.le_refl _)]
      rfl
end Go.Proofs.YteiinkhdgppgbaaGreatDoor
