/- Numbers and special tokens that came in, opened. -/
import Derived.Test.YtdpmjaelbjjanaaGreatZQa29
import Derived.Deep.Slices
import Derived.ChangeSame
import Derived.Lib.SmallJoins
import Derived.Deep.Strs
import Derived.WalkArith
namespace Go.Proofs.YtdpmjaelbjjanaaGreat.Mk
open Go.ChangeShapes Go.WideShapes Go.ChangeAt Go.RowKit
set_option linter.unusedVariables false

theorem addr_add0 (b off k : Nat) : (⟨b, off, none⟩ : Addr).add k = ⟨b, off + k, none⟩ := by
  unfold Addr.add; split <;> simp_all
theorem spot_none {W : World} {a : Addr} {v : Value} (hc : W.cell? (a.add 0) = some v) : ∃ b off, a = ⟨b, off, none⟩ ∧ b < W.heap.size := by
  obtain ⟨b, off, spot⟩ := a
  have hs : spot = none := by
    cases spot with
    | none => rfl
    | some s =>
      exfalso
      simp only [Addr.add, World.cell?, Option.isSome_some, if_true] at hc
      split at hc <;> cases hc
  subst hs
  refine ⟨b, off, rfl, ?_⟩
  rw [addr_add0] at hc
  exact cell_lt hc

theorem list2 {α : Type} {l : List α} (h : l.length = 2) : ∃ a b, l = [a, b] := by
  match l, h with
  | [a, b], _ => exact ⟨a, b, rfl⟩
theorem open_intsM {H : Type} {enc : TypeId × Value → H} {W : World} {base : Nat} {spare : Nat → Bool} {held : Bool} {a0 : Option Addr} {len0 cap0 : Nat} {d : DataW H} {ps : List MemPlace}
    (h : DataW.Trod enc Tryz.prog W base spare held 41 (.slice a0 len0 cap0) d ps) : ∃ A, RdI W a0 len0 A ∧ len0 ≤ 9223372036854775807 ∧ ∀ i, i < len0 → wfI (gI A i) := by
  obtain ⟨fuel, hf⟩ := h
  rcases Go.Deep.open_slice Tryz.underlying41 hf with ⟨hcs, _⟩ | ⟨a, len, cap, m, n, D, Pl, hcs, hb, hl, hm, hmm, _, hx⟩
  · simp [Value.cells] at hcs
    obtain ⟨rfl, rfl, rfl⟩ := hcs
    exact ⟨[], ⟨rfl, Or.inl rfl⟩, by omega, fun i hi => by omega⟩
  · simp [Value.cells] at hcs
    obtain ⟨rfl, rfl, rfl⟩ := hcs
    have hle : len0 ≤ m := by rw [hmm]; split <;> omega
    have ce : Tryz.prog.cellsOf 3 = 1 := by kernel_rfl
    have each : ∀ i, i < len0 → ∃ t : Int, W.cell? (a.add i) = some (.int .i64 t) ∧ wfI t := by
      intro i hi
      obtain ⟨cs', h1, h2⟩ := hx i (by omega)
      rw [ce] at h1
      obtain ⟨_, hlen, hcell⟩ := World.cells?_some h1
      obtain ⟨z0, e0, _, hz⟩ := DataW.trod_int Tryz.underlying3 h2
      subst e0
      have f0 := hcell 0 (by omega)
      rw [Go.Deep.add_add] at f0
      refine ⟨z0, by simpa using f0, ?_⟩
      have e1 : IntKind.i64.min = -9223372036854775808 := rfl
      have e2 : IntKind.i64.max = 9223372036854775807 := rfl
      simp only [Lit.wf, Bool.and_eq_true, decide_eq_true_eq] at hz
      unfold wfI
      omega
    obtain ⟨q, hq⟩ := Go.Deep.choose_lt each
    have hgt : ∀ i, i < len0 → gI ((List.range len0).map q) i = q i := by
      intro i hi
      rw [gI, List.getD_eq_getElem?_getD]
      simp [hi]
    refine ⟨(List.range len0).map q, ⟨by simp, ?_⟩, by unfold maxLen at hm; omega, fun i hi => by rw [hgt i hi]; exact (hq i hi).2⟩
    by_cases h0 : len0 = 0
    · exact Or.inl h0
    · right
      obtain ⟨b, off, rfl, hbl⟩ := spot_none (hq 0 (by omega)).1
      refine ⟨b, off, rfl, hbl, fun i hi => ?_⟩
      rw [hgt i hi]
      have := (hq i hi).1
      rw [addr_add0] at this
      exact this

theorem open_specials {H : Type} {enc : TypeId × Value → H} {W : World} {base : Nat} {spare : Nat → Bool} {held : Bool} {a0 : Option Addr} {len0 cap0 : Nat} {d : DataW H} {ps : List MemPlace}
    (h : DataW.Trod enc Tryz.prog W base spare held 25 (.slice a0 len0 cap0) d ps) : ∃ A, RdS W a0 len0 A ∧ len0 ≤ 9223372036854775807 := by
  obtain ⟨fuel, hf⟩ := h
  rcases Go.Deep.open_slice Tryz.underlying25 hf with ⟨hcs, _⟩ | ⟨a, len, cap, m, n, D, Pl, hcs, hb, hl, hm, hmm, _, hx⟩
  · simp [Value.cells] at hcs
    obtain ⟨rfl, rfl, rfl⟩ := hcs
    exact ⟨[], ⟨rfl, Or.inl rfl⟩, by omega⟩
  · simp [Value.cells] at hcs
    obtain ⟨rfl, rfl, rfl⟩ := hcs
    have hle : len0 ≤ m := by rw [hmm]; split <;> omega
    have each : ∀ i, i < len0 → ∃ t : Int × ByteArray, W.cell? (a.add (i * 2)) = some (.int .i64 t.1) ∧ W.cell? (a.add (i * 2 + 1)) = some (.string t.2) := by
      intro i hi
      obtain ⟨cs', h1, h2⟩ := hx i (by omega)
      rw [show Tryz.prog.cellsOf 79 = 2 by kernel_rfl] at h1
      obtain ⟨_, hlen, hcell⟩ := World.cells?_some h1
      obtain ⟨y0, y1, k, _, _, g0, g1⟩ := Go.ChangeShapes.trod_struct2 Tryz.underlying79 h2
      obtain ⟨v0, v1, rfl⟩ := list2 hlen
      have g0 : DataW.trod enc Tryz.prog W base spare held k 3 (List.take (Tryz.prog.cellsOf 3) (List.drop 0 [v0, v1])) = some y0 := g0
      have g1 : DataW.trod enc Tryz.prog W base spare held k 9 (List.take (Tryz.prog.cellsOf 9) (List.drop 1 [v0, v1])) = some y1 := g1
      have c0 : Tryz.prog.cellsOf 3 = 1 := by kernel_rfl
      have c9 : Tryz.prog.cellsOf 9 = 1 := by kernel_rfl
      rw [c0] at g0
      rw [c9] at g1
      simp at g0 g1
      obtain ⟨z0, e0, _⟩ := DataW.trod_int Tryz.underlying3 g0
      obtain ⟨z1, e1, _⟩ := DataW.trod_string Tryz.underlying9 g1
      simp only [List.cons.injEq, and_true] at e0 e1
      subst e0 e1
      have f0 := hcell 0 (by omega)
      have f1 := hcell 1 (by omega)
      rw [Go.Deep.add_add] at f0 f1
      exact ⟨(z0, z1), by simpa using f0, by simpa using f1⟩
    obtain ⟨q, hq⟩ := Go.Deep.choose_lt each
    refine ⟨(List.range len0).map q, ⟨by simp, ?_⟩, by unfold maxLen at hm; omega⟩
    by_cases h0 : len0 = 0
    · exact Or.inl h0
    · have hc0 := (hq 0 (by omega)).1
      rw [Nat.zero_mul] at hc0
      obtain ⟨b, off, rfl, hbl⟩ := spot_none hc0
      refine Or.inr ⟨b, off, rfl, hbl, fun i hi => ?_⟩
      have h3 := hq i hi
      rw [addr_add0, addr_add0] at h3
      have hg : gS ((List.range len0).map q) i = q i := by
        rw [gS, List.getD_eq_getElem?_getD]
        simp [hi]
      rw [hg]
      exact ⟨h3.1, by rw [Nat.add_assoc]; exact h3.2⟩
end Go.Proofs.YtdpmjaelbjjanaaGreat.Mk
