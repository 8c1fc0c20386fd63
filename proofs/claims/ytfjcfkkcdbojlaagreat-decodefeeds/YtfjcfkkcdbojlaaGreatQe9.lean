/- Lists of numbers that came in, opened. -/
import Derived.Test.YtfjcfkkcdbojlaaGreatQe5
import Derived.Test.YtfjcfkkcdbojlaaGreatQe8
import Derived.Test.YtfjcfkkcdbojlaaGreatQa41
namespace Go.Proofs.YtfjcfkkcdbojlaaGreat
open Go.ChangeShapes Go.WideShapes Go.ChangeAt Go.RowKit
set_option linter.unusedVariables false

theorem open_intss {H : Type} {enc : TypeId × Value → H} {W : World} {a0 : Option Addr} {len0 cap0 : Nat} {d : DataW H} {ps : List MemPlace}
    (h : DataW.Trod enc Tryz.prog W 0 (fun _ => true) true 45 (.slice a0 len0 cap0) d ps) : ∃ L, RwI W a0 L ∧ (L.length = len0 ∧ len0 ≤ 9223372036854775807) := by
  obtain ⟨fuel, hf⟩ := h
  rcases Go.Deep.open_slice1 Tryz.underlying45 (by kernel_rfl) hf with ⟨hcs, _⟩ | ⟨a, len, cap, m, n, V, D, Pl, hcs, hb, hl, hm, hmm, _, hx⟩
  · simp [Value.cells] at hcs
    obtain ⟨rfl, rfl, rfl⟩ := hcs
    exact ⟨[], ⟨Or.inl rfl, fun i hi => by simp at hi⟩, rfl, by omega⟩
  · simp [Value.cells] at hcs
    obtain ⟨rfl, rfl, rfl⟩ := hcs
    have hle : len0 ≤ m := by rw [hmm]; split <;> omega
    have each : ∀ i, i < len0 → ∃ x : Option Addr × Nat × Nat × List Int, W.cell? (a.add i) = some (.slice x.1 x.2.1 x.2.2.1) ∧ Mk.RdI W x.1 x.2.1 x.2.2.2 ∧ x.2.1 ≤ 9223372036854775807 ∧ ∀ j, j < x.2.1 → Mk.wfI (Mk.gI x.2.2.2 j) := by
      intro i hi
      obtain ⟨h1, h2⟩ := hx i (by omega)
      obtain ⟨x, l, c, e, _, ht⟩ := slice_form Tryz.underlying28 h2
      rw [e] at h1 ht
      obtain ⟨A, hA, hl2, hw⟩ := Mk.open_intsM ht
      exact ⟨(x, l, c, A), h1, hA, hl2, hw⟩
    obtain ⟨q, hq⟩ := Go.Deep.choose_lt each
    have hg : ∀ i, i < len0 → gR ((List.range len0).map q) i = q i := fun i hi => by simp [gR, hi]
    refine ⟨(List.range len0).map q, ⟨?_, ?_⟩, by simp, by unfold maxLen at hm; omega⟩
    · by_cases h0 : len0 = 0
      · left
        subst h0
        rfl
      · right
        obtain ⟨b, off, spot⟩ := a
        have hs : spot = none := by
          cases spot with
          | none => rfl
          | some s =>
            exfalso
            have hc := (hq 0 (by omega)).1
            simp only [Addr.add, World.cell?, Option.isSome_some, if_true] at hc
            split at hc <;> cases hc
        subst hs
        have hcell : ∀ i, i < len0 → W.cell? ⟨b, off + i, none⟩ = some (.slice (q i).1 (q i).2.1 (q i).2.2.1) := fun i hi => by
          have h3 := (hq i hi).1
          rw [Addr.add_lit] at h3
          simpa using h3
        refine ⟨b, off, rfl, ?_, fun i hi => ?_⟩
        · have h3 := hcell 0 (by omega)
          rcases Nat.lt_or_ge b W.heap.size with h4 | h4
          · exact h4
          · exfalso
            rw [World.cell?] at h3
            simp [Array.getElem?_eq_none h4] at h3
        · have hi' : i < len0 := by simpa using hi
          rw [hg i hi']
          exact hcell i hi'
    · intro i hi
      have hi' : i < len0 := by simpa using hi
      rw [hg i hi']
      exact (hq i hi').2
end Go.Proofs.YtfjcfkkcdbojlaaGreat
