/- Texts that came in, opened. -/
import Derived.Test.YtlfffalfnnmliaaGxA
import Derived.Deep.Slices
import Derived.ChangeSame
import Derived.Lib.SmallJoins
import Derived.Deep.Strs
import Derived.SliceStrings
namespace Go.Proofs.Ytlfffalfnnmliaa
open Go.ChangeShapes Go.WideShapes Go.ChangeAt Go.RowKit
set_option linter.unusedVariables false

theorem addr_addG (b off k : Nat) : (⟨b, off, none⟩ : Addr).add k = ⟨b, off + k, none⟩ := by unfold Addr.add; split <;> simp_all
theorem spot_noneG {W : World} {a : Addr} {v : Value} (hc : W.cell? (a.add 0) = some v) : ∃ b off, a = ⟨b, off, none⟩ ∧ b < W.heap.size := by
  obtain ⟨b, off, spot⟩ := a
  have hs : spot = none := by
    cases spot with
    | none => rfl
    | some s =>
      exfalso
      simp only [Addr.add, World.cell?, Option.isSome_some, if_true] at hc
      split at hc <;> cases hc
  subst hs
  refine ⟨b, off, rfl, ?_⟩
  rw [addr_addG] at hc
  exact World.block_lt_of_cell? W _ hc
theorem open_textsF {H : Type} {enc : TypeId × Value → H} {W : World} {base : Nat} {spare : Nat → Bool} {held : Bool} {v : Value} {fuel : Nat} {y : DataW H × List MemPlace} (h : DataW.trod enc Try.prog W base spare held fuel 22 [v] = some y) : ∃ ao n cap A, v = .slice ao n cap ∧ RdT W ao n A ∧ n ≤ 9223372036854775807 := by
  rcases open_strings Try.underlying22 Try.underlying9 (by kernel_rfl) h with ⟨hcs, _⟩ | ⟨a, len, cap, zs, hcs, _, hl, hm, hz, _, hcell, _⟩
  · simp only [List.cons.injEq, and_true] at hcs
    exact ⟨none, 0, 0, [], hcs, ⟨rfl, Or.inl rfl⟩, by omega⟩
  · simp only [List.cons.injEq, and_true] at hcs
    have hle : len ≤ zs.length := by rw [hz]; split <;> omega
    refine ⟨some a, len, cap, zs.take len, hcs, ⟨by rw [List.length_take]; omega, ?_⟩, by unfold maxLen at hm; omega⟩
    by_cases h0 : len = 0
    · exact Or.inl h0
    · obtain ⟨b, off, rfl, hbl⟩ := spot_noneG (hcell 0 (by omega))
      refine Or.inr ⟨b, off, rfl, hbl, fun i hi => ?_⟩
      have h3 := hcell i (by omega)
      rw [addr_addG] at h3
      rw [h3]
      congr 2
      unfold gT
      rw [List.getD_eq_getElem?_getD, List.getD_eq_getElem?_getD, List.getElem?_take_of_lt hi]
      rfl
theorem open_texts {H : Type} {enc : TypeId × Value → H} {W : World} {base : Nat} {spare : Nat → Bool} {held : Bool} {a0 : Option Addr} {len0 cap0 : Nat} {d : DataW H} {ps : List MemPlace}
    (h : DataW.Trod enc Try.prog W base spare held 22 (.slice a0 len0 cap0) d ps) : ∃ A, RdT W a0 len0 A ∧ len0 ≤ 9223372036854775807 := by
  obtain ⟨fuel, hf⟩ := h
  obtain ⟨ao, n, cap, A, e, hR, hn⟩ := open_textsF hf
  simp only [Value.slice.injEq] at e
  obtain ⟨rfl, rfl, rfl⟩ := e
  exact ⟨A, hR, hn⟩

end Go.Proofs.Ytlfffalfnnmliaa
