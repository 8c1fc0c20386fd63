/- A text cut at each byte of a kind: the plain mathematics. -/
import Derived.Lib.SplitLaws
namespace Go.Proofs.YtdpmjaelbjjanaaGreat.Wf
open Go.Lib
set_option linter.unusedVariables false
set_option linter.unusedSimpArgs false

/-- The pieces between the bytes c. -/
def cutL (c : UInt8) : List UInt8 → List (List UInt8)
  | [] => [[]]
  | b :: l => if b = c then [] :: cutL c l else match cutL c l with
    | [] => [[b]]
    | x :: r => (b :: x) :: r
theorem cut_mid {c : UInt8} (v : List UInt8) : ∀ u : List UInt8, (∀ x ∈ u, x ≠ c) → cutL c (u ++ c :: v) = u :: cutL c v
  | [], _ => by simp [cutL]
  | b :: u, h => by
    have hb := h b List.mem_cons_self
    have ih := cut_mid v u (fun x hx => h x (List.mem_cons_of_mem _ hx))
    simp only [List.cons_append, cutL]
    rw [if_neg hb, ih]
theorem cut_end {c : UInt8} : ∀ u : List UInt8, (∀ x ∈ u, x ≠ c) → cutL c u = [u]
  | [], _ => rfl
  | b :: u, h => by
    have hb := h b List.mem_cons_self
    have ih := cut_end u (fun x hx => h x (List.mem_cons_of_mem _ hx))
    simp only [cutL]
    rw [if_neg hb, ih]
theorem cut_len {c : UInt8} : ∀ s : List UInt8, (cutL c s).length = s.count c + 1
  | [] => rfl
  | b :: l => by
    have ih := cut_len (c := c) l
    simp only [cutL]
    by_cases h : b = c
    · subst h
      rw [if_pos rfl, List.length_cons, ih]
      simp
    · rw [if_neg h, List.count_cons_of_ne (by simpa using h)]
      cases hx : cutL c l with
      | nil => rw [hx] at ih; simp at ih
      | cons x r => rw [hx] at ih; simpa using ih
/-- Split by one byte is that. -/
theorem split_cut (c : UInt8) : ∀ s : List UInt8, splitK [c] 0 (count s [c]) s = cutL c s
  | [] => by
    rw [count_one]
    rfl
  | b :: l => by
    have ih := split_cut c l
    rw [count_one] at ih ⊢
    by_cases h : b = c
    · subst h
      have hix : index (b :: l) [b] = 0 := by rw [index]; simp [List.isPrefixOf]
      rw [List.count_cons_self, splitK, hix]
      simp only [cutL, if_true]
      rw [if_neg (by decide)]
      simp
      exact ih
    · have hp : ([c] : List UInt8).isPrefixOf (b :: l) = false := by simp [List.isPrefixOf, Ne.symm h]
      have hix : index (b :: l) [c] = if index l [c] == -1 then -1 else index l [c] + 1 := by rw [index, hp]; simp
      rw [List.count_cons_of_ne (by simpa using h)]
      simp only [cutL]
      rw [if_neg h, ← ih]
      cases hk : l.count c with
      | zero => rfl
      | succ k =>
        rw [splitK, splitK, hix]
        by_cases hm : index l [c] = -1
        · rw [if_pos (by rw [hm]; rfl), if_pos (by rw [hm]; rfl)]
        · have hge := index_ge l [c]
          obtain ⟨j, hj⟩ : ∃ j : Nat, index l [c] = j := ⟨(index l [c]).toNat, by omega⟩
          have e1 : ¬ (((j : Int) == -1) = true) := fun e => by have := beq_iff_eq.1 e; omega
          have e2 : ¬ ((((j : Int) + 1) == -1) = true) := fun e => by have := beq_iff_eq.1 e; omega
          rw [hj, if_neg e1, if_neg e2, if_neg e1]
          have e3 : ((j : Int) + 1).toNat = j + 1 := by omega
          have e4 : (j : Int).toNat = j := by omega
          rw [e3, e4]
          simp
/-- The state of the loop: done is what is cut off, the rest begins at 'a', no c stands from there up to i. -/
structure CutI (c : UInt8) (s : List UInt8) (a i : Nat) (done : List (List UInt8)) : Prop where
  eq : cutL c s = done ++ cutL c (s.drop a)
  no : ∀ j, a ≤ j → j < i → s[j]? ≠ some c
  le : a ≤ i
theorem CutI.none {c : UInt8} {s : List UInt8} {a i : Nat} {done : List (List UInt8)} (h : CutI c s a i done) (hi : i ≤ s.length) : ∀ x ∈ (s.drop a).take (i - a), x ≠ c := by
  intro x hx e
  subst e
  obtain ⟨j, hj, he⟩ := List.getElem_of_mem hx
  have hj2 := hj
  simp only [List.length_take, List.length_drop] at hj2
  rw [List.getElem_take, List.getElem_drop] at he
  exact h.no (a + j) (by omega) (by omega) (by rw [List.getElem?_eq_getElem (by omega), he])
theorem CutI.miss {c : UInt8} {s : List UInt8} {a i : Nat} {done : List (List UInt8)} (h : CutI c s a i done) (hne : s[i]? ≠ some c) : CutI c s a (i + 1) done :=
  ⟨h.eq, fun j h1 h2 => by by_cases e : j = i; · { rw [e]; exact hne }; · { exact h.no j h1 (by omega) }, by have := h.le; omega⟩
theorem CutI.hit {c : UInt8} {s : List UInt8} {a i : Nat} {done : List (List UInt8)} (h : CutI c s a i done) (hi : i < s.length) (he : s[i]? = some c) : CutI c s (i + 1) (i + 1) (done ++ [(s.drop a).take (i - a)]) := by
  have hle := h.le
  refine ⟨?_, fun j h1 h2 => by omega, Nat.le_refl _⟩
  have hs : s.drop a = (s.drop a).take (i - a) ++ c :: s.drop (i + 1) := by
    have h1 : s[i] = c := by rw [List.getElem?_eq_getElem hi] at he; exact Option.some.inj he
    have h2 : s.drop i = c :: s.drop (i + 1) := by rw [List.drop_eq_getElem_cons hi, h1]
    have h3 : (s.drop a).drop (i - a) = s.drop i := by rw [List.drop_drop, show a + (i - a) = i by omega]
    rw [← h2, ← h3, List.take_append_drop]
  have hm := cut_mid (s.drop (i + 1)) _ (h.none (by omega))
  rw [h.eq, List.append_assoc]
  congr 1
  conv => lhs; rw [hs]
  rw [hm]
  rfl
theorem CutI.last {c : UInt8} {s : List UInt8} {a : Nat} {done : List (List UInt8)} (h : CutI c s a s.length done) : cutL c s = done ++ [s.drop a] := by
  rw [h.eq]
  congr 1
  refine cut_end _ (fun x hx => ?_)
  have h1 := h.none (Nat.le_refl _)
  rw [List.take_of_length_le (by simp)] at h1
  exact h1 x hx

end Go.Proofs.YtdpmjaelbjjanaaGreat.Wf
