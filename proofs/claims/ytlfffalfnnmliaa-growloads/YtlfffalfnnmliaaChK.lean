/- Contracts of the law's own helpers: Ints, All, table. -/
import Derived.Test.YtlfffalfnnmliaaChJ
import Derived.Test.YtlfffalfnnmliaaTkMk
import Derived.BigRegion
namespace Go.Proofs.Ytlfffalfnnmliaa
open Go.RowKit Go.Maps
set_option linter.unusedVariables false
set_option linter.unusedSimpArgs false
attribute [local go_sem ↓] Go.wp_at_zero Go.wp_at_succ

section
variable {vb vm : Value} {tx : List ByteArray} {mg : List (Int × Int)}
theorem rall_any (w : World) (hR : RT vb vm tx mg w) (hml : mg.length ≤ 1000) (htl : tx.length ≤ 2000) (s : ByteArray) (hs : s.size ≤ 100000) :
    Calls Try.prog 39 #[.agg #[vb, vm], .string s] w fun e w' => (∃ v, e = .returned v ∧ w'.ownsRow w.heap.size 3 1 v (made mg tx.length s).length (iv (made mg tx.length s))) ∧ Below w.heap.size w w' := by
  obtain ⟨a1, c1, rfl⟩ := row_form hR.rb
  obtain ⟨a2, c2, rfl⟩ := row_form hR.rm
  have hl0 := low1 w (.cells #[.slice a1 tx.length c1, .slice a2 mg.length c2] 31)
  have HE := hide (rencode_any _ (hR.kept hl0) hml s hs tx.length (by omega))
  have HL0 := hide hl0
  clear hR hl0
  go_enter Try.func39, Try.ntmps39
  go_wp2_with fail
  refine (unhide HE).mono ?_
  rintro e w3 ⟨⟨v, rfl, hv3⟩, hb3⟩
  obtain ⟨ao, cap, hvv⟩ := row_form hv3
  subst hvv
  go_wp2
  go_ret
  exact ⟨⟨_, rfl, World.ownsRow.mono hv3 HL0.out.size⟩, HL0.out.trans (hb3.mono HL0.out.size)⟩

theorem RT.ne_box {w : World} {b : Nat} {x y : Value} (hR : RT vb vm tx mg w) (hX : Box2 b x y w) : (∀ k, vb.ownBlock = some k → k ∉ [b]) ∧ (∀ k, vm.ownBlock = some k → k ∉ [b]) := by
  have hx : w.heap[b]? = some (.cells #[x, y] 31 (0, 0)) := hX
  refine ⟨fun k e e2 => ?_, fun k e e2 => ?_⟩
  · simp at e2
    subst e2
    rcases hR.rb.2 with ⟨rfl, _⟩ | ⟨g, cap, cur, rfl, _, hg, _⟩
    · simp [Value.ownBlock] at e
    · simp [Value.ownBlock] at e
      subst e
      rw [hx] at hg
      simp at hg
  · simp at e2
    subst e2
    rcases hR.rm.2 with ⟨rfl, _⟩ | ⟨g, cap, cur, rfl, _, hg, _⟩
    · simp [Value.ownBlock] at e
    · simp [Value.ownBlock] at e
      subst e
      rw [hx] at hg
      simp at hg
end

def eM1 : List (Int × Int) := [(97, 98), (256, 99)]
def eM2 : List (Int × Int) := [(98, 99), (97, 98), (257, 99)]
theorem eM1_0 : addC (stT eM1 0).1 (gm eM1 0) = 0 := by decide +kernel
theorem eM1_1 : addC (stT eM1 1).1 (gm eM1 1) = 0 := by decide +kernel
theorem eM2_0 : addC (stT eM2 0).1 (gm eM2 0) = 0 := by decide +kernel
theorem eM2_1 : addC (stT eM2 1).1 (gm eM2 1) = 0 := by decide +kernel
theorem eM2_2 : addC (stT eM2 2).1 (gm eM2 2) = 0 := by decide +kernel
theorem eM1_m : made (stT eM1 2).2 (stT eM1 2).1.length ⟨#[97, 98, 99, 97, 98]⟩ = [257, 256] := by decide +kernel
theorem eM2_m : made (stT eM2 3).2 (stT eM2 3).1.length ⟨#[97, 98, 99]⟩ = [97, 256] := by decide +kernel

end Go.Proofs.Ytlfffalfnnmliaa
