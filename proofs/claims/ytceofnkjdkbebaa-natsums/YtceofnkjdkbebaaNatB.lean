/- Contracts: Int, limbAt, Sub32, Add32, Div32, cmp. -/
import Derived.Test.YtceofnkjdkbebaaNatA
import Derived.Test.YtceofnkjdkbebaaBits
namespace Go.Proofs.Ytceofnkjdkbebaa
open Go.RowKit
set_option linter.unusedVariables false
set_option linter.unusedSimpArgs false

set_option maxHeartbeats 400000 in
theorem limbAt_in (b off n cap : Nat) (i : Nat) (z : Int) (w : World) (hi : i < n) (hn : n ≤ 1000000) (hc : w.cell? ⟨b, off + i, none⟩ = some (.int .u32 z)) :
    Calls Try.prog 28 #[.slice (some ⟨b, off, none⟩) n cap, .int .i64 i] w fun e w' => e = .returned (.int .u32 z) ∧ w' = w := by
  go_enter Try.func28, Try.ntmps28
  go_wp2
  go_ret
  exact ⟨rfl, rfl⟩

set_option maxHeartbeats 400000 in
theorem limbAt_out (a : Option Addr) (n cap : Nat) (i : Nat) (w : World) (hi : n ≤ i) (hn : i ≤ 1000000) :
    Calls Try.prog 28 #[.slice a n cap, .int .i64 i] w fun e w' => e = .returned (.int .u32 0) ∧ w' = w := by
  go_enter Try.func28, Try.ntmps28
  go_wp2
  go_ret
  exact ⟨rfl, rfl⟩

theorem limbAt_any (ao : Option Addr) (n cap : Nat) (zs : List Int) (i : Nat) (w : World) (hR : Reads .u32 w ao n zs) (hn : n ≤ 1000000) (hi : i ≤ 1000000) :
    Calls Try.prog 28 #[.slice ao n cap, .int .i64 i] w fun e w' => e = .returned (.int .u32 (zs.getD i 0)) ∧ w' = w := by
  by_cases h : i < n
  · obtain ⟨b, off, rfl, hc⟩ := hR.at h
    exact limbAt_in b off n cap i _ w h hn (hc i h)
  · have h0 : zs.getD i 0 = 0 := by rw [List.getD_eq_getElem?_getD, List.getElem?_eq_none (by have := hR.1; omega)]; rfl
    rw [h0]
    exact limbAt_out ao n cap i w (by omega) hi

set_option maxHeartbeats 400000 in
theorem cmp32 (x y : Int) (w : World) :
    Calls Try.prog 30 #[.int .u32 x, .int .u32 y] w fun e w' => e = .returned (.int .i64 (if x < y then -1 else if y < x then 1 else 0)) ∧ w' = w := by
  go_enter Try.func30, Try.ntmps30
  go_wp2
  all_goals (go_ret; exact ⟨rfl, rfl⟩)

set_option maxHeartbeats 400000 in
theorem cmpInt (x y : Int) (w : World) :
    Calls Try.prog 29 #[.int .i64 x, .int .i64 y] w fun e w' => e = .returned (.int .i64 (if x < y then -1 else if y < x then 1 else 0)) ∧ w' = w := by
  go_enter Try.func29, Try.ntmps29
  go_wp2
  all_goals (go_ret; exact ⟨rfl, rfl⟩)

set_option maxHeartbeats 400000 in
theorem sub32 (x y b : Int) (w : World) (hx : 0 ≤ x ∧ x < 4294967296) (hy : 0 ≤ y ∧ y < 4294967296) (hb : 0 ≤ b ∧ b ≤ 1) :
    Calls Try.prog 27 #[.int .u32 x, .int .u32 y, .int .u32 b] w fun e w' => ∃ d q : Int, e = .returned (.tuple #[.int .u32 d, .int .u32 q]) ∧ 0 ≤ d ∧ d < 4294967296 ∧ 0 ≤ q ∧ q ≤ 1 ∧ Hid (x - y - b = d - 4294967296 * q) ∧ w' = w := by
  have key := hide (sub_borrow x y b hx hy hb)
  go_enter Try.func27, Try.ntmps27
  go_wp2
  go_ret2
  refine ⟨_, _, rfl, by omega, by omega, ?_, ?_, ?_, rfl⟩
  · rw [key.out]; split <;> omega
  · rw [key.out]; split <;> omega
  · rw [key.out]; apply hide; split <;> omega

set_option maxHeartbeats 400000 in
theorem add32 (x y b : Int) (w : World) (hx : 0 ≤ x ∧ x < 4294967296) (hy : 0 ≤ y ∧ y < 4294967296) (hb : 0 ≤ b ∧ b ≤ 1) :
    Calls Try.prog 33 #[.int .u32 x, .int .u32 y, .int .u32 b] w fun e w' => ∃ s q : Int, e = .returned (.tuple #[.int .u32 s, .int .u32 q]) ∧ 0 ≤ s ∧ s < 4294967296 ∧ 0 ≤ q ∧ q ≤ 1 ∧ Hid (x + y + b = s + 4294967296 * q) ∧ w' = w := by
  go_enter Try.func33, Try.ntmps33
  go_wp2
  go_ret2
  exact ⟨_, _, rfl, by omega, by omega, by omega, by omega, hide (by omega), rfl⟩

set_option maxHeartbeats 400000 in
theorem div32 (hi lo y : Int) (w : World) (h0 : 0 ≤ hi) (h1 : hi < y) (hy : y < 4294967296) (hlo : 0 ≤ lo ∧ lo < 4294967296) :
    Calls Try.prog 34 #[.int .u32 hi, .int .u32 lo, .int .u32 y] w fun e w' => ∃ q r : Int, e = .returned (.tuple #[.int .u32 q, .int .u32 r]) ∧ 0 ≤ q ∧ q < 4294967296 ∧ 0 ≤ r ∧ r < y ∧ Hid (hi * 4294967296 + lo = q * y + r) ∧ ∃ n, w' = w.drewN n := by
  have hor := or_halves hi lo h0 (by omega) hlo
  have hy0 : (y != 0) = true := by simp; omega
  go_enter Try.func34, Try.ntmps34
  go_wp2
  go_quiet (fail)
  go_wp2
  go_ret2
  have e := Int.mul_ediv_add_emod (hi * 4294967296 + lo) y
  have b1 : 0 ≤ (hi * 4294967296 + lo) / y := Int.ediv_nonneg (by omega) (by omega)
  have b2 : (hi * 4294967296 + lo) / y < 4294967296 := by
    apply Int.ediv_lt_of_lt_mul (by omega)
    have : (hi + 1) * 4294967296 ≤ y * 4294967296 := Int.mul_le_mul_of_nonneg_right (by omega) (by omega)
    omega
  have b3 := Int.emod_nonneg (hi * 4294967296 + lo) (show y ≠ 0 by omega)
  have b4 := Int.emod_lt_of_pos (hi * 4294967296 + lo) (show 0 < y by omega)
  refine ⟨_, _, rfl, by omega, by omega, by omega, ?_, ?_, nq, rfl⟩
  · rw [Int.emod_eq_of_lt b3 (by omega)]; exact b4
  · rw [Int.emod_eq_of_lt b1 b2, Int.emod_eq_of_lt b3 (by omega)]; exact hide (by rw [Int.mul_comm ((hi * 4294967296 + lo) / y) y]; exact e.symm)

theorem keep_cell {W w1 : World} (hb : Below W.heap.size W w1) {a : Addr} {v : Value} (h : W.cell? a = some v) (hf : W.frozen? a = false) : w1.cell? a = some v ∧ w1.frozen? a = false ∧ a.block < w1.heap.size := by
  have hl := World.block_lt_of_cell? W a h
  exact ⟨(hb.cell hl).trans h, (hb.frozen hl).trans hf, by have := hb.size; omega⟩

set_option maxHeartbeats 400000 in
theorem int_any (n : Int) (w : World) (h0 : 0 ≤ n) (h1 : n < 18446744073709551616) :
    Calls Try.prog 19 #[.int .u64 n] w fun e w' => ∃ ao' m, e = .returned (.agg #[.slice ao' m m]) ∧ Own .u32 43 w' w.heap.size ao' m m (chop [n % 4294967296, n / 4294967296]) ∧ Below w.heap.size w w' := by
  go_enter Try.func19, Try.ntmps19
  go_wp2_with (go_at_call 7; refine (of_any _ 2 2 [n % 4294967296, n / 4294967296] _ ?_ (by omega)).mono ?_)
  · refine ⟨rfl, Or.inr ⟨w.heap.size + 1, 0, rfl, fun i hi => ?_⟩⟩
    match i, hi with
    | 0, _ => simp
    | 1, _ => simp
  · rintro e w1 ⟨ao', m, rfl, hO, hb⟩
    obtain ⟨hc1, hf1, hs1⟩ := keep_cell hb (a := ⟨w.heap.size, 0, none⟩) (v := .slice none 0 0) (by simp) (by simp)
    go_wp2
    refine bodyPost_ret (v := .agg #[.slice ao' m m]) (by simp [results, Try.results19, go_sem, hc1]) rfl ⟨ao', m, rfl, ?_, ?_⟩
    · exact (hO.mono (by simp; omega)).kept (grownBy_setCell _ _ _ _) (own_ne hO (by simp; omega))
    · exact (((below_alloc w _).alloc (by simp) _).trans (hb.mono (by simp; omega))).setCell (Nat.le_refl _) _

theorem one_box (w : World) (v : Value) (T : TypeId) : ∃ W, W = w.alloc (.cells #[v] T) ∧ Below w.heap.size w W ∧ W.cell? ⟨w.heap.size, 0, none⟩ = some v ∧ w.heap.size < W.heap.size :=
  ⟨_, rfl, below_alloc _ _, by simp, by simp⟩

theorem two_boxes (w : World) (v1 v2 : Value) (T : TypeId) : ∃ W, W = (w.alloc (.cells #[v1] T)).alloc (.cells #[v2] T) ∧ Below w.heap.size w W ∧ W.cell? ⟨w.heap.size, 0, none⟩ = some v1 ∧ W.cell? ⟨w.heap.size + 1, 0, none⟩ = some v2 ∧ w.heap.size + 1 < W.heap.size :=
  ⟨_, rfl, (below_alloc _ _).alloc (by simp) _, by simp, by simp, by simp⟩

end Go.Proofs.Ytceofnkjdkbebaa
