/- Contracts of the document's answer for tokens: Pair. -/
import Derived.Test.YtblbbenfaafcoaaTkV
namespace Go.Proofs.Ytblbbenfaafcoaa
open Go.RowKit Go.Maps
set_option linter.unusedVariables false
set_option linter.unusedSimpArgs false
attribute [local go_sem ↓] Go.wp_at_zero Go.wp_at_succ

/-- The token whose parents two are, or -1. -/
def Prd (mg : List (Int × Int)) (a b r : Int) : Prop := (r = -1 ∧ ∀ j, j < mg.length → gm mg j ≠ (a, b)) ∨ ∃ k : Nat, r = 256 + k ∧ k < mg.length ∧ gm mg k = (a, b)

section
variable {vb vm : Value} {tx : List ByteArray} {mg : List (Int × Int)} {w : World}

set_option maxHeartbeats 4000000 in
theorem rpair_any (h : RT vb vm tx mg w) (a b : Int) (hn : mg.length ≤ 100000) :
    Calls Try.prog 20 #[.agg #[vb, vm], .int .i64 a, .int .i64 b] w fun e w' => (∃ r : Int, e = .returned (.int .i64 r) ∧ Prd mg a b r) ∧ Below w.heap.size w w' := by
  obtain ⟨ao, cap, rfl⟩ := row_form h.rb
  obtain ⟨am, capm, rfl⟩ := row_form h.rm
  go_enter Try.func20, Try.ntmps20
  go_wp2
  go_loop [7] (fun i => ∃ k : Nat, i = .int .i64 k ∧ k ≤ mg.length ∧ Hid (∀ j, j < k → gm mg j ≠ (a, b))) (fun i => mg.length - (intOf i).toNat)
  case atStart => exact ⟨0, rfl, by omega, hide (fun j hj => by omega)⟩
  case round =>
    obtain ⟨k, rfl, hk, hno⟩ := hrel
    by_cases hlt : k < mg.length
    · obtain ⟨g, cap', hv, hgl, hc0, hc1⟩ := h.mer hlt
      simp only [Value.slice.injEq] at hv
      obtain ⟨rfl, _, rfl⟩ := hv
      have hk0 : (0 : Int) ≤ (k : Int) := by omega
      have hk1 : (k : Int) < (mg.length : Int) := by omega
      have hne : g ≠ w.heap.size := by omega
      have HG := hide (Prod.eta (gm mg k)).symm
      generalize (gm mg k).1 = x at hc0 HG
      generalize (gm mg k).2 = y at hc1 HG
      by_cases hx : x = a
      · subst hx
        by_cases hy : y = b
        · subst hy
          go_wp2
          go_ret
          exact ⟨⟨256 + k, by go_num, Or.inr ⟨k, rfl, hlt, HG.out⟩⟩, low1 _ _⟩
        · have hyb : (y == b) = false := by simpa using hy
          go_wp2
          go_round
          case rel =>
            refine ⟨k + 1, by go_num, by omega, hide (fun j hj => ?_)⟩
            by_cases e : j = k
            · rw [e, HG.out]; intro e2; exact hy (Prod.mk.inj e2).2
            · exact hno.out j (by omega)
          case measure => simp [intOf]; omega
      · have hxb : (x == a) = false := by simpa using hx
        go_wp2
        go_round
        case rel =>
          refine ⟨k + 1, by go_num, by omega, hide (fun j hj => ?_)⟩
          by_cases e : j = k
          · rw [e, HG.out]; intro e2; exact hx (Prod.mk.inj e2).1
          · exact hno.out j (by omega)
        case measure => simp [intOf]; omega
    · obtain rfl : k = mg.length := by omega
      go_wp2
      go_ret
      exact ⟨⟨-1, rfl, Or.inl ⟨rfl, hno.out⟩⟩, low1 _ _⟩
end

end Go.Proofs.Ytblbbenfaafcoaa
