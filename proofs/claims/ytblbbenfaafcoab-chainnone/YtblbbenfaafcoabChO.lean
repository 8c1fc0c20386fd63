/- Numbers that came in, opened. -/
import Derived.Test.YtblbbenfaafcoabChQ
import Derived.Deep.Slices
import Derived.ChangeSame
import Derived.Lib.SmallJoins
import Derived.Deep.Strs
namespace Go.Proofs.Ytblbbenfaafcoab
open Go.ChangeShapes Go.WideShapes Go.ChangeAt Go.RowKit
set_option linter.unusedVariables false

theorem cell_lt {W : World} {b o : Nat} {v : Value} (h : W.cell? ⟨b, o, none⟩ = some v) : b < W.heap.size := by
  rcases Nat.lt_or_ge b W.heap.size with hb | hb
  · exact hb
  · simp [World.cell?, Array.getElem?_eq_none hb] at h

theorem open_intsR {H : Type} {enc : TypeId × Value → H} {W : World} {base : Nat} {spare : Nat → Bool} {held : Bool} {a0 : Option Addr} {len0 cap0 : Nat} {d : DataW H} {ps : List MemPlace}
    (h : DataW.Trod enc Try.prog W base spare held 31 (.slice a0 len0 cap0) d ps) : ∃ A, RdI W a0 len0 A ∧ len0 ≤ 9223372036854775807 := by
  obtain ⟨fuel, hf⟩ := h
  rcases Go.Deep.open_slice Try.underlying31 hf with ⟨hcs, _⟩ | ⟨a, len, cap, m, n, D, Pl, hcs, hb, hl, hm, hmm, _, hx⟩
  · simp [Value.cells] at hcs
    obtain ⟨rfl, rfl, rfl⟩ := hcs
    exact ⟨[], ⟨rfl, Or.inl rfl⟩, by omega⟩
  · simp [Value.cells] at hcs
    obtain ⟨rfl, rfl, rfl⟩ := hcs
    have hle : len0 ≤ m := by rw [hmm]; split <;> omega
    have ce : Try.prog.cellsOf 3 = 1 := by kernel_rfl
    have each : ∀ i, i < len0 → ∃ t : Int, W.cell? (a.add i) = some (.int .i64 t) := by
      intro i hi
      obtain ⟨cs', h1, h2⟩ := hx i (by omega)
      rw [ce] at h1
      obtain ⟨_, hlen, hcell⟩ := World.cells?_some h1
      obtain ⟨z0, e0, hz⟩ := DataW.trod_int Try.underlying3 h2
      subst e0
      have f0 := hcell 0 (by omega)
      rw [Go.Deep.add_add] at f0
      exact ⟨z0, by simpa using f0⟩
    obtain ⟨q, hq⟩ := Go.Deep.choose_lt each
    refine ⟨(List.range len0).map q, ⟨by simp, ?_⟩, by unfold maxLen at hm; omega⟩
    have hgt : ∀ i, i < len0 → gI ((List.range len0).map q) i = q i := by
      intro i hi
      rw [gI, List.getD_eq_getElem?_getD]
      simp [hi]
    by_cases h0 : len0 = 0
    · exact Or.inl h0
    · right
      obtain ⟨b, off, spot⟩ := a
      have hs : spot = none := by
        cases spot with
        | none => rfl
        | some s =>
          exfalso
          have hc := hq 0 (by omega)
          simp only [Addr.add, World.cell?, Option.isSome_some, if_true] at hc
          split at hc <;> cases hc
      subst hs
      have ha : ∀ k, (⟨b, off, none⟩ : Addr).add k = ⟨b, off + k, none⟩ := by
        intro k; unfold Addr.add; split <;> simp_all
      have hc : ∀ i, i < len0 → W.cell? ⟨b, off + i, none⟩ = some (.int .i64 (q i)) := fun i hi => by
        have := hq i hi
        rw [ha] at this
        exact this
      exact ⟨b, off, rfl, cell_lt (hc 0 (by omega)), fun i hi => by rw [hgt i hi]; exact hc i hi⟩

end Go.Proofs.Ytblbbenfaafcoab
