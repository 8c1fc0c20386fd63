/- Contracts: order.less, parent, children. -/
import Derived.Test.YtlfffalfnnmliaaProg
import Derived.Test.YtlfffalfnnmliaaHqA
namespace Go.Proofs.Ytlfffalfnnmliaa.Hq
open Go.RowKit Go.Proofs.Ytlfffalfnnmliaa
set_option linter.unusedVariables false
set_option linter.unusedSimpArgs false

def It.ord (a : It) : Value := .agg #[.int .i64 a.r, .int .i64 a.p, .int .i64 a.t]

theorem ltB_r {a b : It} (h : ¬ a.r = b.r) : ltB a b = decide (a.r < b.r) := by
  unfold ltB; congr 1; apply propext; omega
theorem ltB_p {a b : It} (h0 : a.r = b.r) (h : ¬ a.p = b.p) : ltB a b = decide (a.p < b.p) := by
  unfold ltB; congr 1; apply propext; omega
theorem ltB_t {a b : It} (h0 : a.r = b.r) (h : a.p = b.p) : ltB a b = decide (a.t < b.t) := by
  unfold ltB; congr 1; apply propext; omega
theorem ret_int {k : IntKind} {a b : Int} (h : a = b) : Ending.returned (.int k a) = .returned (.int k b) := by rw [h]
theorem ret_bool {a b : Bool} (h : a = b) : Ending.returned (.bool a) = .returned (.bool b) := by rw [h]

set_option maxHeartbeats 1000000 in
theorem less_raw (r1 p1 t1 r2 p2 t2 : Int) (w : World) :
    Calls Try.prog 72 #[.agg #[.int .i64 r1, .int .i64 p1, .int .i64 t1], .agg #[.int .i64 r2, .int .i64 p2, .int .i64 t2]] w fun e w' => e = .returned (.bool (ltB ⟨r1, p1, t1, 0, 0, 0, 0⟩ ⟨r2, p2, t2, 0, 0, 0, 0⟩)) ∧ Below w.heap.size w w' := by
  have B2 : ∀ o1 o2, Below w.heap.size w ((w.alloc o1).alloc o2) := fun o1 o2 => ((Below.refl _ _).alloc (Nat.le_refl _) _).alloc (by simp) _
  by_cases h1 : r1 = r2
  · subst h1
    by_cases h2 : p1 = p2
    · subst h2
      go_enter Try.func72, Try.ntmps72
      go_wp2
      go_ret
      exact ⟨ret_bool (ltB_t (a := ⟨r1, p1, t1, 0, 0, 0, 0⟩) (b := ⟨r1, p1, t2, 0, 0, 0, 0⟩) rfl rfl).symm, B2 _ _⟩
    · have hb : (p1 == p2) = false := by simpa using h2
      have hb' : (p1 != p2) = true := by simpa using h2
      go_enter Try.func72, Try.ntmps72
      go_wp2
      go_ret
      exact ⟨ret_bool (ltB_p (a := ⟨r1, p1, t1, 0, 0, 0, 0⟩) (b := ⟨r1, p2, t2, 0, 0, 0, 0⟩) rfl h2).symm, B2 _ _⟩
  · have hb' : (r1 != r2) = true := by simpa using h1
    go_enter Try.func72, Try.ntmps72
    go_wp2
    go_ret
    exact ⟨ret_bool (ltB_r (a := ⟨r1, p1, t1, 0, 0, 0, 0⟩) (b := ⟨r2, p2, t2, 0, 0, 0, 0⟩) h1).symm, B2 _ _⟩

theorem less_any (a b : It) (w : World) :
    Calls Try.prog 72 #[.agg #[.int .i64 a.r, .int .i64 a.p, .int .i64 a.t], .agg #[.int .i64 b.r, .int .i64 b.p, .int .i64 b.t]] w fun e w' => e = .returned (.bool (ltB a b)) ∧ Below w.heap.size w w' := less_raw _ _ _ _ _ _ w

theorem parent_any (k : Nat) (w : World) (h0 : 0 < k) (h : k ≤ 1000000000) :
    Calls Try.prog 71 #[.int .i64 k] w fun e w' => e = .returned (.int .i64 ((k - 1) / 2 : Nat)) ∧ w' = w := by
  go_enter Try.func71, Try.ntmps71
  go_wp2
  go_ret
  exact ⟨ret_int (by omega), rfl⟩

theorem children_any (k : Nat) (w : World) (h : k ≤ 1000000000) :
    Calls Try.prog 75 #[.int .i64 k] w fun e w' => e = .returned (.agg #[.int .i64 (2 * (k : Int) + 1), .int .i64 (2 * (k : Int) + 2)]) ∧ Below w.heap.size w w' := by
  go_enter Try.func75, Try.ntmps75
  go_wp2
  exact bodyPost_ret (v := .agg #[.int .i64 (2 * (k : Int) + 1), .int .i64 (2 * (k : Int) + 2)]) (by simp [results, Try.results75, go_sem]) rfl ⟨rfl, (Below.refl _ _).alloc (Nat.le_refl _) _⟩

theorem idx_zero (c1 c2 : Int) (w : World) : Sem.run Try.prog (Instr.index 138 (.agg #[.int .i64 c1, .int .i64 c2]) (.int .i64 0)) w = .ok (.int .i64 c1) w := by
  simp [Instr.index, run_underlying Try.underlying138, asIntOf, go_sem, part]
theorem idx_one (c1 c2 : Int) (w : World) : Sem.run Try.prog (Instr.index 138 (.agg #[.int .i64 c1, .int .i64 c2]) (.int .i64 1)) w = .ok (.int .i64 c2) w := by
  simp [Instr.index, run_underlying Try.underlying138, asIntOf, go_sem, part]

theorem children_nat (k : Nat) (w : World) (h : k ≤ 1000000000) :
    Calls Try.prog 75 #[.int .i64 k] w fun e w' => (∃ c1 c2 : Nat, e = .returned (.agg #[.int .i64 c1, .int .i64 c2]) ∧ Hid (c1 = 2 * k + 1) ∧ Hid (c2 = 2 * k + 2)) ∧ Below w.heap.size w w' := by
  refine (children_any k w h).mono ?_
  rintro e w' ⟨rfl, hb⟩
  exact ⟨⟨2 * k + 1, 2 * k + 2, by simp, hide rfl, hide rfl⟩, hb⟩

end Go.Proofs.Ytlfffalfnnmliaa.Hq
