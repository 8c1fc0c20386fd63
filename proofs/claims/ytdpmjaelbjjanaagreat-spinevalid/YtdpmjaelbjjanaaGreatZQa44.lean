/- Classes and joins that came in, opened. -/
import Derived.Test.YtdpmjaelbjjanaaGreatZQa11
import Derived.Deep.Slices
import Derived.ChangeSame
import Derived.Lib.SmallJoins
import Derived.Deep.Strs
namespace Go.Proofs.YtdpmjaelbjjanaaGreat.Wf.Bq
open Go.ChangeShapes Go.WideShapes Go.ChangeAt Go.RowKit
set_option linter.unusedVariables false

theorem list2b {α : Type} {l : List α} (h : l.length = 2) : ∃ a b, l = [a, b] := by
  match l, h with
  | [a, b], _ => exact ⟨a, b, rfl⟩
theorem list3b {α : Type} {l : List α} (h : l.length = 3) : ∃ a b c, l = [a, b, c] := by
  match l, h with
  | [a, b, c], _ => exact ⟨a, b, c, rfl⟩

theorem open_joins {H : Type} {enc : TypeId × Value → H} {W : World} {base : Nat} {spare : Nat → Bool} {held : Bool} {a0 : Option Addr} {len0 cap0 : Nat} {d : DataW H} {ps : List MemPlace}
    (h : DataW.Trod enc Tryz.prog W base spare held 24 (.slice a0 len0 cap0) d ps) : ∃ A, RdJ W a0 len0 A ∧ len0 ≤ 9223372036854775807 := by
  obtain ⟨fuel, hf⟩ := h
  rcases Go.Deep.open_slice Tryz.underlying24 hf with ⟨hcs, _⟩ | ⟨a, len, cap, m, n, D, Pl, hcs, hb, hl, hm, hmm, _, hx⟩
  · simp [Value.cells] at hcs
    obtain ⟨rfl, rfl, rfl⟩ := hcs
    exact ⟨[], ⟨rfl, Or.inl rfl⟩, by omega⟩
  · simp [Value.cells] at hcs
    obtain ⟨rfl, rfl, rfl⟩ := hcs
    have hle : len0 ≤ m := by rw [hmm]; split <;> omega
    have ce : Tryz.prog.cellsOf 95 = 2 := by kernel_rfl
    have each : ∀ i, i < len0 → ∃ t : Int × Int, W.cell? (a.add (i * 2)) = some (.int .i64 t.1) ∧ W.cell? (a.add (i * 2 + 1)) = some (.int .i64 t.2) := by
      intro i hi
      obtain ⟨cs', h1, h2⟩ := hx i (by omega)
      rw [ce] at h1
      obtain ⟨_, hlen, hcell⟩ := World.cells?_some h1
      obtain ⟨y0, y1, k, _, _, g0, g1⟩ := Go.ChangeShapes.trod_struct2 Tryz.underlying95 h2
      obtain ⟨v0, v1, rfl⟩ := list2b hlen
      have c0 : Tryz.prog.cellsOf 3 = 1 := by kernel_rfl
      simp [c0] at g0 g1
      obtain ⟨z0, e0, _⟩ := DataW.trod_int Tryz.underlying3 g0
      obtain ⟨z1, e1, _⟩ := DataW.trod_int Tryz.underlying3 g1
      simp only [List.cons.injEq, and_true] at e0 e1
      subst e0 e1
      have f0 := hcell 0 (by omega)
      have f1 := hcell 1 (by omega)
      rw [Go.Deep.add_add] at f0 f1
      exact ⟨(z0, z1), by simpa using f0, by simpa using f1⟩
    obtain ⟨q, hq⟩ := Go.Deep.choose_lt each
    refine ⟨(List.range len0).map (fun i => ((q i).1, (q i).2)), ⟨by simp, ?_⟩, by unfold maxLen at hm; omega⟩
    by_cases h0 : len0 = 0
    · exact Or.inl h0
    · right
      obtain ⟨b, off, spot⟩ := a
      have hs : spot = none := by
        cases spot with
        | none => rfl
        | some s =>
          exfalso
          have hc := (hq 0 (by omega)).1
          simp only [Nat.zero_mul, Addr.add, World.cell?, Option.isSome_some, if_true] at hc
          split at hc <;> cases hc
      subst hs
      refine ⟨b, off, rfl, ?_, fun i hi => ?_⟩
      · have hc := (hq 0 (by omega)).1
        have ha : (⟨b, off, none⟩ : Addr).add (0 * 2) = ⟨b, off + 0 * 2, none⟩ := by unfold Addr.add; split <;> simp_all
        rw [ha] at hc
        exact World.block_lt_of_cell? W _ hc
      have hgt : gJ ((List.range len0).map (fun i => ((q i).1, (q i).2))) i = ((q i).1, (q i).2) := by
        rw [gJ, List.getD_eq_getElem?_getD]
        simp [hi]
      have ha : ∀ k, (⟨b, off, none⟩ : Addr).add k = ⟨b, off + k, none⟩ := by
        intro k; unfold Addr.add; split <;> simp_all
      have h3 := hq i hi
      rw [ha, ha] at h3
      rw [hgt]
      exact ⟨h3.1, by rw [Nat.add_assoc]; exact h3.2⟩

theorem open_classes {H : Type} {enc : TypeId × Value → H} {W : World} {base : Nat} {spare : Nat → Bool} {held : Bool} {a0 : Option Addr} {len0 cap0 : Nat} {d : DataW H} {ps : List MemPlace}
    (h : DataW.Trod enc Tryz.prog W base spare held 23 (.slice a0 len0 cap0) d ps) : ∃ A, RdC W a0 len0 A ∧ len0 ≤ 9223372036854775807 := by
  obtain ⟨fuel, hf⟩ := h
  rcases Go.Deep.open_slice Tryz.underlying23 hf with ⟨hcs, _⟩ | ⟨a, len, cap, m, n, D, Pl, hcs, hb, hl, hm, hmm, _, hx⟩
  · simp [Value.cells] at hcs
    obtain ⟨rfl, rfl, rfl⟩ := hcs
    exact ⟨[], ⟨rfl, Or.inl rfl⟩, by omega⟩
  · simp [Value.cells] at hcs
    obtain ⟨rfl, rfl, rfl⟩ := hcs
    have hle : len0 ≤ m := by rw [hmm]; split <;> omega
    have ce : Tryz.prog.cellsOf 130 = 3 := by kernel_rfl
    have each : ∀ i, i < len0 → ∃ t : Int × Int × Int, W.cell? (a.add (i * 3)) = some (.int .i64 t.1) ∧ W.cell? (a.add (i * 3 + 1)) = some (.int .i64 t.2.1) ∧ W.cell? (a.add (i * 3 + 2)) = some (.int .i64 t.2.2) := by
      intro i hi
      obtain ⟨cs', h1, h2⟩ := hx i (by omega)
      rw [ce] at h1
      obtain ⟨_, hlen, hcell⟩ := World.cells?_some h1
      obtain ⟨y0, y1, y2, k, _, _, g0, g1, g2⟩ := Go.Deep.trod_struct3 Tryz.underlying130 h2
      obtain ⟨v0, v1, v2, rfl⟩ := list3b hlen
      have c0 : Tryz.prog.cellsOf 3 = 1 := by kernel_rfl
      simp [c0] at g0 g1 g2
      obtain ⟨z0, e0, _⟩ := DataW.trod_int Tryz.underlying3 g0
      obtain ⟨z1, e1, _⟩ := DataW.trod_int Tryz.underlying3 g1
      obtain ⟨z2, e2, _⟩ := DataW.trod_int Tryz.underlying3 g2
      simp only [List.cons.injEq, and_true] at e0 e1 e2
      subst e0 e1 e2
      have f0 := hcell 0 (by omega)
      have f1 := hcell 1 (by omega)
      have f2 := hcell 2 (by omega)
      rw [Go.Deep.add_add] at f0 f1 f2
      exact ⟨(z0, z1, z2), by simpa using f0, by simpa using f1, by simpa using f2⟩
    obtain ⟨q, hq⟩ := Go.Deep.choose_lt each
    refine ⟨(List.range len0).map (fun i => ((q i).1, (q i).2.1, (q i).2.2)), ⟨by simp, ?_⟩, by unfold maxLen at hm; omega⟩
    by_cases h0 : len0 = 0
    · exact Or.inl h0
    · right
      obtain ⟨b, off, spot⟩ := a
      have hs : spot = none := by
        cases spot with
        | none => rfl
        | some s =>
          exfalso
          have hc := (hq 0 (by omega)).1
          simp only [Nat.zero_mul, Addr.add, World.cell?, Option.isSome_some, if_true] at hc
          split at hc <;> cases hc
      subst hs
      have ha : ∀ k, (⟨b, off, none⟩ : Addr).add k = ⟨b, off + k, none⟩ := by
        intro k; unfold Addr.add; split <;> simp_all
      refine ⟨b, off, rfl, ?_, fun i hi => ?_⟩
      · have hc := (hq 0 (by omega)).1
        rw [ha] at hc
        exact World.block_lt_of_cell? W _ hc
      have hgt : gC ((List.range len0).map (fun i => ((q i).1, (q i).2.1, (q i).2.2))) i = ((q i).1, (q i).2.1, (q i).2.2) := by
        rw [gC, List.getD_eq_getElem?_getD]
        simp [hi]
      have h3 := hq i hi
      rw [ha, ha, ha] at h3
      rw [hgt]
      exact ⟨h3.1, by rw [Nat.add_assoc]; exact h3.2.1, by rw [Nat.add_assoc]; exact h3.2.2⟩

end Go.Proofs.YtdpmjaelbjjanaaGreat.Wf.Bq
