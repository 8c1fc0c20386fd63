/- Contract of package token: ofBytes. -/
import Derived.Test.YtadbffphmmkljaaTkD
import Derived.Laws.BytesArg
namespace Go.Proofs.Ytadbffphmmkljaa
open Go.RowKit Go.Maps
set_option linter.unusedVariables false
set_option linter.unusedSimpArgs false

def one (i : Nat) : ByteArray := ⟨#[UInt8.ofNat i]⟩
def tb (j : Nat) : List ByteArray := (List.range j).map one
theorem tb_len (j : Nat) : (tb j).length = j := by simp [tb]
theorem tb_succ (j : Nat) : tb (j + 1) = tb j ++ [one j] := by simp [tb, List.range_succ]
theorem one_inj {i j : Nat} (hi : i < 256) (hj : j < 256) (h : one i = one j) : i = j := by
  unfold one at h
  simp at h
  have := congrArg UInt8.toNat h
  simp at this
  omega
theorem tb_not {j : Nat} (hj : j < 256) : one j ∉ tb j := by
  intro h
  obtain ⟨i, hi, e⟩ := List.mem_map.1 h
  have h1 := List.mem_range.1 hi
  have := one_inj (by omega) hj e
  omega

theorem conv_one (wr : World) (j : Nat) : (convert 71 9 (.slice (some ⟨wr.heap.size, 0, none⟩) 1 1)).run Try.prog (wr.alloc (.cells #[.int .u8 j] 5)) = .ok (.string (one j)) (wr.alloc (.cells #[.int .u8 j] 5)) :=
  run_convert_bytes_arg (P := Try.prog) (wr.alloc (.cells #[.int .u8 j] 5)) 71 5 Try.underlying71 Try.underlying5 wr.heap.size 0 1 1 [(j : Int)] rfl (by
    intro i hi
    obtain rfl : i = 0 := (by omega)
    simp) 9 Try.underlying9

def tabO (w : World) : Obj := .cells #[.slice none 0 0, .slice none 0 0, .map (some w.heap.size), .map (some (w.heap.size + 1)), .int .i64 0] 70
theorem begin_tab (w : World) : TAt [w.heap.size + 1 + 1, w.heap.size, w.heap.size + 1] (w.heap.size + 1 + 1) (.slice none 0 0) (.slice none 0 0) w.heap.size (w.heap.size + 1) (tb 0) [] 0 (((w.alloc (.map #[] 0)).alloc (.map #[] 0)).alloc (tabO w)) := by
  have e1 : (w.alloc (.map #[] 0)).heap.size = w.heap.size + 1 := by simp
  have e2 : ((w.alloc (.map #[] 0)).alloc (.map #[] 0)).heap.size = w.heap.size + 1 + 1 := by simp
  refine ⟨?_, World.ownsRow_nil _ _ _ _, World.ownsRow_nil _ _ _ _, ?_, ?_, by omega, by simp, by simp, by simp, fun k e => (by cases e), fun k e => (by cases e), ?_⟩
  · have := heap_alloc_new ((w.alloc (.map #[] 0)).alloc (.map #[] 0)) (tabO w)
    rw [e2] at this
    exact this
  · have h1 := MapK.made Try.prog 9 3 0 w
    refine h1.keep ?_
    rw [Below.heap_alloc _ _ _ (by omega), Below.heap_alloc _ _ _ (by omega)]
  · have h1 := MapK.made Try.prog 44 3 256 (w.alloc (.map #[] 0))
    rw [e1] at h1
    refine h1.keep ?_
    rw [Below.heap_alloc _ _ _ (by omega)]
  · intro k hk
    simp at hk
    simp
    omega
theorem begin_low (w : World) : Below w.heap.size w (((w.alloc (.map #[] 0)).alloc (.map #[] 0)).alloc (tabO w)) := (((Below.refl _ _).alloc (Nat.le_refl _) _).alloc (by simp) _).alloc (by simp; omega) _

set_option maxRecDepth 20000 in
set_option maxHeartbeats 2000000 in
theorem ofBytes_any (w : World) : Calls Try.prog 22 #[] w fun e w' => ∃ p F v0 b2 b3, e = .returned (.pointer (some ⟨p, 0, none⟩)) ∧ TAt F p v0 (.slice none 0 0) b2 b3 (tb 256) [] 1 w' ∧ (∀ k ∈ F, w.heap.size ≤ k) ∧ Below w.heap.size w w' := by
  have hmm := @run_makeMap Try.prog
  go_enter Try.func22, Try.ntmps22
  go_wp2
  go_loopw [7] (fun i wr => ∃ (j : Nat) (F : List Nat) (v0 : Value), i = .int .i64 j ∧ j ≤ 256 ∧ TAt F (w.heap.size + 1 + 1) v0 (.slice none 0 0) w.heap.size (w.heap.size + 1) (tb j) [] (if j = 0 then 0 else 1) wr ∧ (∀ k ∈ F, w.heap.size ≤ k) ∧ Below w.heap.size w wr) (fun i _ => 256 - (intOf i).toNat)
  case atStart => exact ⟨0, _, _, rfl, by omega, begin_tab w, fun k hk => by simp at hk; omega, begin_low w⟩
  case round =>
    obtain ⟨j, F, v0, rfl, hj, hT, hFb, hB⟩ := hrel
    by_cases hlt : j < 256
    · have hws : w.heap.size ≤ wr.heap.size := hB.size
      have hj0 : (0 : Int) ≤ (j : Int) := by omega
      have hj1 : (j : Int) < 256 := by omega
      have hcv := conv_one wr j
      have hba : Below wr.heap.size wr (wr.alloc (.cells #[.int .u8 j] 5)) := (Below.refl _ _).alloc (Nat.le_refl _) _
      have hT1 := hT.keptB hba
      have HE := hide (enter_any hT1 (one j) (by rw [show (one j).size = 1 from rfl]; omega) (tb_not hlt) (by rw [tb_len]; omega) (by split <;> omega) 1 (by rw [show (one j).size = 1 from rfl]; split <;> split <;> omega))
      rw [← tb_succ, tb_len] at HE
      clear hT1
      go_wp2_with fail
      refine (unhide HE).mono ?_
      rintro e w2 ⟨rfl, F2, v2, hT2, hFr2, hN2⟩
      go_wp2
      go_roundw
      case rel =>
        refine ⟨j + 1, F2, v2, by go_num, by omega, by rw [if_neg (by omega)]; exact hT2, fun k hk => ?_, (hB.trans (hba.mono hB.size)).trans (hFr2.below (by have := hba.size; omega) hFb)⟩
        rcases hN2 k hk with h1 | h1
        · exact hFb k h1
        · have := hba.size; omega
      case measure => simp [intOf]; omega
    · obtain rfl : j = 256 := by omega
      go_wp2
      go_ret
      exact ⟨_, F, v0, _, _, rfl, hT, hFb, hB⟩

end Go.Proofs.Ytadbffphmmkljaa
