/- Contract of package token: Add: the errors. -/
import Derived.Test.YtadbffphmmkljaaTkF
namespace Go.Proofs.Ytadbffphmmkljaa
open Go.RowKit Go.Maps
set_option linter.unusedVariables false
set_option linter.unusedSimpArgs false
attribute [local go_sem ↓] Go.wp_at_zero Go.wp_at_succ

def two (i e : Int) : Value := .tuple #[.int .i64 i, .int .i64 e]
theorem low1 (w : World) (o : Obj) : Below w.heap.size w (w.alloc o) := (Below.refl _ _).alloc (Nat.le_refl _) _

theorem add_nil (a b : Int) (w : World) : Calls Try.prog 18 #[.pointer none, .agg #[.int .i64 a, .int .i64 b]] w fun e w' => e = .returned (two 0 1) ∧ Below w.heap.size w w' := by
  go_enter Try.func18, Try.ntmps18
  go_wp2
  (try simp only [Exit.inBlock, Exit.then])
  exact bodyPost_ret (v := two 0 1) (by simp [two, results, Try.results18, go_sem]) rfl ⟨rfl, low1 _ _⟩

section
variable {F : List Nat} {p : Nat} {v0 v1 : Value} {b2 b3 : Nat} {tx : List ByteArray} {mg : List (Int × Int)} {lg : Int} {w : World}

set_option maxRecDepth 20000 in
set_option maxHeartbeats 2000000 in
theorem add_id (h : TAt F p v0 v1 b2 b3 tx mg lg w) (a b : Int) (hid : (a < 0 ∨ (tx.length : Int) ≤ a) ∨ (b < 0 ∨ (tx.length : Int) ≤ b)) :
    Calls Try.prog 18 #[.pointer (some ⟨p, 0, none⟩), .agg #[.int .i64 a, .int .i64 b]] w fun e w' => e = .returned (two 0 4) ∧ Below w.heap.size w w' := by
  have hT := h.keptB (low1 w (.cells #[.int .i64 a, .int .i64 b] 44))
  have HL := hide (tlen_any hT)
  have HT := hide hT
  clear hT
  by_cases ha : a < 0 ∨ (tx.length : Int) ≤ a
  · by_cases hb : b < 0 ∨ (tx.length : Int) ≤ b
    · go_enter Try.func18, Try.ntmps18
      go_wp2_with fail
      refine (tbytes_none a _ tx.length _ HL ha).mono ?_
      rintro e w1 ⟨rfl, hw⟩
      subst hw
      go_wp2_with fail
      refine (tbytes_none b _ tx.length _ HL hb).mono ?_
      rintro e w1 ⟨rfl, hw⟩
      subst hw
      go_wp2
      (try simp only [Exit.inBlock, Exit.then])
      exact bodyPost_ret (v := two 0 4) (by simp [two, results, Try.results18, go_sem]) rfl ⟨rfl, low1 _ _⟩
    · obtain ⟨i, rfl⟩ := Int.eq_ofNat_of_zero_le (show 0 ≤ b by omega)
      go_enter Try.func18, Try.ntmps18
      go_wp2_with fail
      refine (tbytes_none a _ tx.length _ HL ha).mono ?_
      rintro e w1 ⟨rfl, hw⟩
      subst hw
      go_wp2_with fail
      refine (tbytes_any HT.out i (by omega)).mono ?_
      rintro e w1 ⟨rfl, hw⟩
      subst hw
      go_wp2
      (try simp only [Exit.inBlock, Exit.then])
      exact bodyPost_ret (v := two 0 4) (by simp [two, results, Try.results18, go_sem]) rfl ⟨rfl, low1 _ _⟩
  · have hb : b < 0 ∨ (tx.length : Int) ≤ b := by omega
    obtain ⟨i, rfl⟩ := Int.eq_ofNat_of_zero_le (show 0 ≤ a by omega)
    go_enter Try.func18, Try.ntmps18
    go_wp2_with fail
    refine (tbytes_any HT.out i (by omega)).mono ?_
    rintro e w1 ⟨rfl, hw⟩
    subst hw
    go_wp2_with fail
    refine (tbytes_none b _ tx.length _ HL hb).mono ?_
    rintro e w1 ⟨rfl, hw⟩
    subst hw
    go_wp2
    (try simp only [Exit.inBlock, Exit.then])
    exact bodyPost_ret (v := two 0 4) (by simp [two, results, Try.results18, go_sem]) rfl ⟨rfl, low1 _ _⟩

set_option maxRecDepth 20000 in
set_option maxHeartbeats 4000000 in
theorem add_long (h : TAt F p v0 v1 b2 b3 tx mg lg w) (i j : Nat) (hi : i < tx.length) (hj : j < tx.length) (hzi : (gs tx i).size ≤ 64) (hzj : (gs tx j).size ≤ 64) (s : ByteArray) (hs : gs tx i ++ gs tx j = s) (hl : 64 < s.size) :
    Calls Try.prog 18 #[.pointer (some ⟨p, 0, none⟩), .agg #[.int .i64 i, .int .i64 j]] w fun e w' => e = .returned (two 0 3) ∧ Below w.heap.size w w' := by
  have hT := h.keptB (low1 w (.cells #[.int .i64 i, .int .i64 j] 44))
  have HT := hide hT
  obtain ⟨ao0, cap0, hv0⟩ := row_form hT.r0
  have hc0 := hT.cells.1
  rw [hv0] at hc0
  clear hT
  have hl2 : (64 : Int) < (s.size : Int) := by omega
  go_enter Try.func18, Try.ntmps18
  go_wp2_with fail
  refine (tbytes_any HT.out i hi).mono ?_
  rintro e w1 ⟨rfl, hw⟩
  subst hw
  go_wp2_with fail
  refine (tbytes_any HT.out j hj).mono ?_
  rintro e w1 ⟨rfl, hw⟩
  subst hw
  go_wp2
  (try simp only [Exit.inBlock, Exit.then])
  exact bodyPost_ret (v := two 0 3) (by simp [two, results, Try.results18, go_sem]) rfl ⟨rfl, low1 _ _⟩

set_option maxRecDepth 20000 in
set_option maxHeartbeats 4000000 in
theorem add_full (h : TAt F p v0 v1 b2 b3 tx mg lg w) (i j : Nat) (hi : i < tx.length) (hj : j < tx.length) (hzi : (gs tx i).size ≤ 64) (hzj : (gs tx j).size ≤ 64) (s : ByteArray) (hs : gs tx i ++ gs tx j = s) (hl : s.size ≤ 64) (hf : 1000 ≤ tx.length) :
    Calls Try.prog 18 #[.pointer (some ⟨p, 0, none⟩), .agg #[.int .i64 i, .int .i64 j]] w fun e w' => e = .returned (two 0 5) ∧ Below w.heap.size w w' := by
  have hT := h.keptB (low1 w (.cells #[.int .i64 i, .int .i64 j] 44))
  have HT := hide hT
  obtain ⟨ao0, cap0, hv0⟩ := row_form hT.r0
  have hc0 := hT.cells.1
  rw [hv0] at hc0
  clear hT
  have hl2 : ¬ (64 : Int) < (s.size : Int) := by omega
  have hf2 : (1000 : Int) ≤ (tx.length : Int) := by omega
  go_enter Try.func18, Try.ntmps18
  go_wp2_with fail
  refine (tbytes_any HT.out i hi).mono ?_
  rintro e w1 ⟨rfl, hw⟩
  subst hw
  go_wp2_with fail
  refine (tbytes_any HT.out j hj).mono ?_
  rintro e w1 ⟨rfl, hw⟩
  subst hw
  go_wp2
  (try simp only [Exit.inBlock, Exit.then])
  exact bodyPost_ret (v := two 0 5) (by simp [two, results, Try.results18, go_sem]) rfl ⟨rfl, low1 _ _⟩

set_option maxRecDepth 20000 in
set_option maxHeartbeats 4000000 in
theorem add_twice (h : TAt F p v0 v1 b2 b3 tx mg lg w) (i j : Nat) (hi : i < tx.length) (hj : j < tx.length) (hzi : (gs tx i).size ≤ 64) (hzj : (gs tx j).size ≤ 64) (s : ByteArray) (hs : gs tx i ++ gs tx j = s) (hl : s.size ≤ 64) (hf : tx.length < 1000) (k : Nat) (hk : k < tx.length) (he : gs tx k = s) :
    Calls Try.prog 18 #[.pointer (some ⟨p, 0, none⟩), .agg #[.int .i64 i, .int .i64 j]] w fun e w' => e = .returned (two 0 10) ∧ Below w.heap.size w w' := by
  have hT := h.keptB (low1 w (.cells #[.int .i64 i, .int .i64 j] 44))
  have HT := hide hT
  obtain ⟨ao0, cap0, hv0⟩ := row_form hT.r0
  have hc0 := hT.cells.1
  rw [hv0] at hc0
  clear hT
  have hl2 : ¬ (64 : Int) < (s.size : Int) := by omega
  have hf2 : ¬ (1000 : Int) ≤ (tx.length : Int) := by omega
  have HE := hide he
  clear he
  go_enter Try.func18, Try.ntmps18
  go_wp2_with fail
  refine (tbytes_any HT.out i hi).mono ?_
  rintro e w1 ⟨rfl, hw⟩
  subst hw
  go_wp2_with fail
  refine (tbytes_any HT.out j hj).mono ?_
  rintro e w1 ⟨rfl, hw⟩
  subst hw
  go_wp2_with fail
  refine (tfind_any HT.out k hk s (by unfold maxLen; omega) HE.out).mono ?_
  rintro e w1 ⟨rfl, hw⟩
  subst hw
  go_wp2
  (try simp only [Exit.inBlock, Exit.then])
  exact bodyPost_ret (v := two 0 10) (by simp [two, results, Try.results18, go_sem]) rfl ⟨rfl, low1 _ _⟩

end

end Go.Proofs.Ytadbffphmmkljaa
