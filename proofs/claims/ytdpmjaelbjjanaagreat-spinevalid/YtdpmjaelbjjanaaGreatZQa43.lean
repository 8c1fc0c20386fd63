/- Numbers of two bytes that came in, opened. -/
import Derived.Test.YtdpmjaelbjjanaaGreatZQa25
import Derived.Deep.Slices
import Derived.ChangeSame
import Derived.Lib.SmallJoins
import Derived.Deep.Strs
namespace Go.Proofs.YtdpmjaelbjjanaaGreat
open Go.ChangeShapes Go.WideShapes Go.ChangeAt Go.RowKit
set_option linter.unusedVariables false

theorem open_halves {H : Type} {enc : TypeId × Value → H} {W : World} {base : Nat} {spare : Nat → Bool} {held : Bool} {a0 : Option Addr} {len0 cap0 : Nat} {d : DataW H} {ps : List MemPlace}
    (h : DataW.Trod enc Tryz.prog W base spare held 22 (.slice a0 len0 cap0) d ps) : ∃ A, ReadsH W a0 len0 A ∧ len0 ≤ 9223372036854775807 := by
  obtain ⟨fuel, hf⟩ := h
  rcases Go.Deep.open_slice Tryz.underlying22 hf with ⟨hcs, _⟩ | ⟨a, len, cap, m, n, D, Pl, hcs, hb, hl, hm, hmm, _, hx⟩
  · simp [Value.cells] at hcs
    obtain ⟨rfl, rfl, rfl⟩ := hcs
    exact ⟨[], ⟨rfl, fun i => by simp [gi], Or.inl rfl⟩, by omega⟩
  · simp [Value.cells] at hcs
    obtain ⟨rfl, rfl, rfl⟩ := hcs
    have hle : len0 ≤ m := by rw [hmm]; split <;> omega
    have ce : Tryz.prog.cellsOf 51 = 1 := by kernel_rfl
    have each : ∀ i, i < len0 → ∃ t : Int, W.cell? (a.add i) = some (.int .u16 t) ∧ 0 ≤ t ∧ t < 65536 := by
      intro i hi
      obtain ⟨cs', h1, h2⟩ := hx i (by omega)
      rw [ce] at h1
      obtain ⟨_, hlen, hcell⟩ := World.cells?_some h1
      obtain ⟨z0, e0, hz⟩ := DataW.trod_int Tryz.underlying51 h2
      subst e0
      have f0 := hcell 0 (by omega)
      rw [Go.Deep.add_add] at f0
      refine ⟨z0, by simpa using f0, ?_⟩
      have hw := hz.2
      simp [Lit.wf] at hw
      have e1 : IntKind.u16.min = 0 := by decide
      have e2 : IntKind.u16.max = 65535 := by decide
      omega
    obtain ⟨q, hq⟩ := Go.Deep.choose_lt each
    refine ⟨(List.range len0).map q, ⟨by simp, ?_, ?_⟩, by unfold maxLen at hm; omega⟩
    · intro i
      by_cases hi : i < len0
      · have hgt : gi ((List.range len0).map q) i = q i := by
          rw [gi, List.getD_eq_getElem?_getD]
          simp [hi]
        rw [hgt]
        exact (hq i hi).2
      · have hgt : gi ((List.range len0).map q) i = 0 := by
          rw [gi, List.getD_eq_getElem?_getD]
          simp [hi]
        rw [hgt]
        omega
    by_cases h0 : len0 = 0
    · exact Or.inl h0
    · right
      obtain ⟨b, off, spot⟩ := a
      have hs : spot = none := by
        cases spot with
        | none => rfl
        | some s =>
          exfalso
          have hc := (hq 0 (by omega)).1
          simp only [Addr.add, World.cell?, Option.isSome_some, if_true] at hc
          split at hc <;> cases hc
      subst hs
      refine ⟨b, off, rfl, fun i hi => ?_⟩
      have hgt : gi ((List.range len0).map q) i = q i := by
        rw [gi, List.getD_eq_getElem?_getD]
        simp [hi]
      have ha : ∀ k, (⟨b, off, none⟩ : Addr).add k = ⟨b, off + k, none⟩ := by
        intro k; unfold Addr.add; split <;> simp_all
      have h3 := (hq i hi).1
      rw [ha] at h3
      rw [hgt]
      exact h3

end Go.Proofs.YtdpmjaelbjjanaaGreat
