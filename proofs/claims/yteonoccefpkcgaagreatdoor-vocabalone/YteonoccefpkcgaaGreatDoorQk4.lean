/- A text cut at each byte of a kind: the plain mathematics. -/
import Derived.Lib.SplitLaws
namespace Go.Proofs.YteonoccefpkcgaaGreatDoor.Wf
open Go.Lib
set_option linter.unusedVariables false
set_option linter.unusedSimpArgs false

/-- The pieces between the bytes c. -/
def cutL (c : UInt8) : List UInt8 → List (List UInt8)
  | [] => [[]]
  | b :: l => if b = c then [] :: cutL c l else match cutL c l with
    | [] => [[b]]
    | x :: r => (b :: x) :: r
theorem cut_mid {c : UInt8} (v : List UInt8) : ∀ u : List UInt8, (∀ x ∈ u, x ≠ c) → cutL c (u ++ c :: v) = u :: cutL c v
  | [], _ => by simp [cutL]
  | b :: u, h => by
    have hb := h b List.mem_cons_self
    have ih := cut_mid v u (fun x hx => h x (List.mem_cons_of_mem _ hx))
    simp only [List.cons_append, cutL]
    rw [if_neg hb, ih]
theorem cut_end {c : UInt8} : ∀ u : List UInt8, (∀ x ∈ u, x ≠ c) → cutL c u = [u]
  | [], _ => rfl
  | b :: u, h => by
    have hb := h b List.mem_cons_self
    have ih := cut_end u (fun x hx => h x (List.mem_cons_of_mem _ hx))
    simp only [cutL]
    rw [if_neg hb, ih]
theorem cut_len {c : UInt8} : ∀ s : List UInt8, (cutL c s).length = s.count c + 1
  | [] => rfl
  | b :: l => by
    have ih := cut_len (c := c) l
    simp only [cutL]
    by_cases h : b = c
    · subst h
      rw [if_pos rfl, List.length_cons, ih]
      simp
    · rw [if_neg h, List.count_cons_of_ne (by simpa using h)]
      cases hx : cutL c l with
      | nil => rw [hx] at ih; simp at ih
      | cons x r => rw [hx] at ih; simpa using ih
/-- Split by one byte is that. -/
theorem split_cut (c : UInt8) : ∀ s : List UInt8, splitK [c] 0 (count s [c]) s = cutL c s
  | [] => by
    rw [count_one]
    rfl
  | b :: l => by
    have ih := split_cut c l
    rw [count_one] at ih ⊢
    by_cases h : b = c
    · subst h
      have hix : index (b :: l) [b] = 0 := by rw [index]; simp [List.isPrefixOf]
      rw [List.count_cons_self, splitK, hix]
      simp only [cutL, if_true]
      rw [if_neg (by decide)]
      simp
      exact ih
    · have hp : ([c] : List UInt8).isPrefixOf (b :: l) = false := by simp [List.isPrefixOf, Ne.symm h]
      have hix : index (b :: l) [c] = if index l [c] == -1 then -1 else index l [c] + 1 := by rw [index, hp]; simp
      rw [List.count_cons_of_ne (by simpa using h)]
      simp only [cutL]
      rw [if_neg h, ← ih]
      cases hk : l.count c with
      | zero => rfl
      | succ k =>
        rw [splitK, splitK, hix]
        by_cases hm : index l [c] = -1
        · rw [if_pos (by rw [hm]; rfl), if_pos (by rw [hm]; rfl)]
        · have hge := index_ge l [c]
          obtain ⟨j, hj⟩ : ∃ j : Nat, index l [c] = j := ⟨(index l [c]).toNat, by omega⟩
          have e1 : ¬ (((j : Int) == -1) = true) := fun e => by have := beq_iff_eq.1 e; omega
          have e2 : ¬ ((((j : Int) + 1) == -1) = true) := fun e => by have := beq_iff_eq.1 e; omega
          rw [hj, if_neg e1, if_neg e2, if_neg e1]
          have e3 : ((j : Int) + 1).toNat = j + 1 := by omega
          have e4 : (j : Int).toNat = j := by omega
          rw [e3, e4]
          simp
end Go.Proofs.YteonoccefpkcgaaGreatDoor.Wf
