/- Laws of marks: MarkNews. -/
import Derived.Test.YtnklgfolllfghaaMkT
import Derived.BigQuiet
namespace Go.Proofs.Ytnklgfolllfghaa.Mk
open Go.RowKit Go.Maps
set_option linter.unusedVariables false
set_option linter.unusedSimpArgs false

/-- The mark of a number among the first k: 0: none. -/
def WantR (L : List (Int × ByteArray)) (id : Int) (k : Nat) (t : Int) : Prop := (t = 0 ∧ ∀ j, j < k → (gS L j).1 ≠ id) ∨ ∃ j, j < k ∧ (gS L j).1 = id ∧ t = -1 - j
theorem want_step {L : List (Int × ByteArray)} {id : Int} {k : Nat} {t : Int} (h : WantR L id k t) (hn : (gS L k).1 ≠ id) : WantR L id (k + 1) t := by
  rcases h with ⟨h1, h2⟩ | ⟨j, hj, h1, h2⟩
  · refine Or.inl ⟨h1, fun j hj => ?_⟩
    by_cases e : j = k
    · subst e; exact hn
    · exact h2 j (by omega)
  · exact Or.inr ⟨j, by omega, h1, h2⟩
theorem ids_get {L : List (Int × ByteArray)} {i : Nat} (hi : i < L.length) : (ids L)[i]? = some (ik (gS L i).1) := by
  simp [ids, gS, List.getD_eq_getElem?_getD, List.getElem?_eq_getElem hi]
theorem ids_notin {L : List (Int × ByteArray)} {id : Int} (h : ∀ j, j < L.length → (gS L j).1 ≠ id) : ik id ∉ ids L := by
  intro h2
  obtain ⟨i, hi, e⟩ := List.getElem_of_mem h2
  have hi2 : i < L.length := by simpa [ids] using hi
  have h3 := ids_get hi2
  rw [List.getElem?_eq_getElem hi, e] at h3
  simp only [Option.some.injEq] at h3
  exact h i hi2 (ik_inj h3).symm

section
variable {v : Value} {ao : Option Addr} {cap : Nat} {L : List (Int × ByteArray)} {w : World}
/-- The mark of a number, as the document has it. -/
theorem mark_want (h : StV w v ao cap L) (hl : L.length ≤ 1000) (id : Int) (hw : wfI id) : ∃ t, WantR L id L.length t ∧ (∀ t', WantR L id L.length t' → (∀ i j, i < L.length → j < L.length → (gS L i).1 = (gS L j).1 → i = j) → t' = t) ∧ t ≤ 0 ∧ -1000 ≤ t ∧ Calls Try.prog 13 #[v, .int .i64 id] w fun e w' => e = .returned (.tuple #[.int .i64 t, .bool (decide (t < 0))]) ∧ w' = w := by
  by_cases hx : ∀ j, j < L.length → (gS L j).1 ≠ id
  · refine ⟨0, Or.inl ⟨rfl, hx⟩, fun t' h2 _ => ?_, by omega, by omega, mark_no h id hw (ids_notin hx)⟩
    rcases h2 with ⟨e, _⟩ | ⟨j, hj, e, _⟩
    · exact e
    · exact absurd e (hx j hj)
  · have hx2 : ∃ j, j < L.length ∧ (gS L j).1 = id := Classical.byContradiction (fun h2 => hx (fun j hj e => h2 ⟨j, hj, e⟩))
    obtain ⟨i, hi, e⟩ := hx2
    refine ⟨-1 - i, Or.inr ⟨i, hi, e, rfl⟩, fun t' h2 hu => ?_, by omega, by omega, ?_⟩
    · rcases h2 with ⟨_, h3⟩ | ⟨j, hj, e2, rfl⟩
      · exact absurd e (h3 i hi)
      · rw [hu j i hj hi (e2.trans e.symm)]
    · have := mark_yes h hl id hw i (by rw [ids_get hi, e])
      rw [show decide (-1 - (i : Int) < 0) = true by simp; omega]
      exact this
/-- A mark's number, as the document has it. -/
theorem id_want (h : StV w v ao cap L) (hl : L.length ≤ 1000) (m : Int) (hm : wfI m) : (∃ i : Nat, m = -1 - i ∧ i < L.length ∧ Calls Try.prog 12 #[v, .int .i64 m] w fun e w' => e = .returned (.tuple #[.int .i64 (gS L i).1, .bool true]) ∧ Below w.heap.size w w') ∨ (¬ (m < 0 ∧ -(L.length : Int) ≤ m) ∧ Calls Try.prog 12 #[v, .int .i64 m] w fun e w' => e = .returned (.tuple #[.int .i64 0, .bool false]) ∧ Below w.heap.size w w') := by
  by_cases hx : m < 0 ∧ -(L.length : Int) ≤ m
  · left
    obtain ⟨i, rfl, hi⟩ : ∃ i : Nat, m = -1 - i ∧ i < L.length := ⟨(-1 - m).toNat, by omega, by omega⟩
    exact ⟨i, rfl, hi, id_yes h hl _ i hi rfl⟩
  · right
    exact ⟨hx, id_no h hl m hm (by omega)⟩
end
end Go.Proofs.Ytnklgfolllfghaa.Mk
