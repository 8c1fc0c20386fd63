/- Lists of limbs that came in, opened. -/
import Derived.Test.YtceofnkjdkbebaaSumB
import Derived.Deep.Slices
import Derived.ChangeSame
import Derived.Lib.SmallJoins
import Derived.Deep.Strs
import Derived.ProofKit
namespace Go.Proofs.Ytceofnkjdkbebaa
open Go.ChangeShapes Go.WideShapes Go.ChangeAt Go.RowKit
set_option linter.unusedVariables false

theorem open_rowsM {H : Type} {enc : TypeId × Value → H} {W : World} {a0 : Option Addr} {len0 cap0 : Nat} {d : DataW H} {ps : List MemPlace}
    (h : DataW.Trod enc Try.prog W 0 (fun _ => true) true 22 (.slice a0 len0 cap0) d ps) : ∃ L, RowsM W a0 L ∧ (L.length = len0 ∧ len0 ≤ 9223372036854775807) := by
  obtain ⟨fuel, hf⟩ := h
  rcases Go.Deep.open_slice1 Try.underlying22 (by kernel_rfl) hf with ⟨hcs, _⟩ | ⟨a, len, cap, m, n, V, D, Pl, hcs, hb, hl, hm, hmm, _, hx⟩
  · simp [Value.cells] at hcs
    obtain ⟨rfl, rfl, rfl⟩ := hcs
    exact ⟨[], ⟨Or.inl rfl, fun x hx => by cases hx⟩, rfl, by omega⟩
  · simp [Value.cells] at hcs
    obtain ⟨rfl, rfl, rfl⟩ := hcs
    have hle : len0 ≤ m := by rw [hmm]; split <;> omega
    have each : ∀ i, i < len0 → ∃ x : Option Addr × Nat × Nat × List Int, W.cell? (a.add i) = some (.slice x.1 x.2.1 x.2.2.1) ∧ Reads .u32 W x.1 x.2.1 x.2.2.2 ∧ Dg 4294967296 x.2.2.2 ∧ x.2.1 ≤ 9223372036854775807 := by
      intro i hi
      obtain ⟨h1, h2⟩ := hx i (by omega)
      rcases open_ints Try.underlying28 Try.underlying43 (by kernel_rfl) h2 with ⟨hcs, _⟩ | ⟨x, l, c, zs, hcs, _, hl', hm', hz, _, hcell, hwz⟩
      · simp at hcs
        exact ⟨(none, 0, 0, []), by rw [h1, hcs], Reads.nil _ _ _, Dg.nil _, by simp⟩
      · simp at hcs
        have hrow : IsRow .u32 W (some x) l c zs := .inr ⟨_, rfl, hl', hm', by simpa using hz, hcell, hwz⟩
        exact ⟨(some x, l, c, zs.take l), by rw [h1, hcs], hrow.reads.1, hrow.dg, hrow.reads.2⟩
    obtain ⟨q, hq⟩ := Go.Deep.choose_lt each
    refine ⟨(List.range len0).map q, ⟨?_, ?_⟩, by simp, by unfold maxLen at hm; omega⟩
    · by_cases h0 : len0 = 0
      · left
        subst h0
        rfl
      · right
        obtain ⟨b, off, spot⟩ := a
        have hs : spot = none := by
          cases spot with
          | none => rfl
          | some s =>
            exfalso
            have hc := (hq 0 (by omega)).1
            simp only [Addr.add, World.cell?, Option.isSome_some, if_true] at hc
            split at hc <;> cases hc
        subst hs
        refine ⟨b, off, rfl, fun i hi => ?_⟩
        have hi' : i < len0 := by simpa using hi
        have h3 := (hq i hi').1
        rw [Addr.add_lit] at h3
        simpa using h3
    · intro x hx
      simp only [List.mem_map, List.mem_range] at hx
      obtain ⟨i, hi, rfl⟩ := hx
      exact (hq i hi).2

theorem sums_walk' (ao : Option Addr) (n cap : Nat) (L : List (Option Addr × Nat × Nat × List Int)) (w : World) (hM : RowsM w ao L) (hl : L.length = n ∧ n ≤ 9223372036854775807) :
    Calls Try.prog 3 #[.slice ao n cap] w fun e w' => e = .returned (.bool true) ∧ Below w.heap.size w w' := sums_walk ao n cap L w hM hl.1 hl.2

end Go.Proofs.Ytceofnkjdkbebaa
