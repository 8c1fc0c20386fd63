/- Plain mathematics: acts as things of a heap, sorted; which were seen. -/
import Derived.Test.YtdeenhmcifopfaaHpP
namespace Go.Proofs.Ytdeenhmcifopfaa
open Go.RowKit
set_option linter.unusedVariables false
set_option linter.unusedSimpArgs false

/-- What is pushed for act number i: its rank, its place, its turn, its number. -/
def actIt (A : List Th) (i : Nat) : It := ⟨(gt A i).p, (gt A i).i, i, .int .i64 i⟩
def actIts (A : List Th) (j : Nat) : List It := (List.range j).map (actIt A)

theorem actIts_succ (A : List Th) (j : Nat) : actIts A (j + 1) = actIts A j ++ [actIt A j] := by
  simp [actIts, List.range_succ]
theorem actIts_len (A : List Th) (j : Nat) : (actIts A j).length = j := by simp [actIts]
theorem actIts_mem {A : List Th} {j : Nat} {a : It} (h : a ∈ actIts A j) : ∃ i, i < j ∧ a = actIt A i := by
  obtain ⟨i, hi, e⟩ := List.mem_map.1 h
  exact ⟨i, List.mem_range.1 hi, e.symm⟩
theorem actIts_nodup (A : List Th) (j : Nat) : ((actIts A j).map It.t).Pairwise (· ≠ ·) := by
  have : (actIts A j).map It.t = (List.range j).map (fun (i : Nat) => (i : Int)) := by simp [actIts, actIt]
  rw [this, List.pairwise_map]
  rw [List.pairwise_iff_getElem]
  intro a b ha hb hab
  simp only [List.getElem_range]
  omega

/-- What a drained list is: the acts' things, each once, in order. -/
structure Drained (A : List Th) (n : Nat) (L : List It) : Prop where
  perm : L.Perm (actIts A n)
  sorted : L.Pairwise fun a b => ltB b a = false

theorem Drained.len {A : List Th} {n : Nat} {L : List It} (h : Drained A n L) : L.length = n := by rw [h.perm.length_eq, actIts_len]
theorem Drained.act {A : List Th} {n : Nat} {L : List It} (h : Drained A n L) {i : Nat} (hi : i < n) : ∃ x, x < n ∧ gi L i = actIt A x := actIts_mem (h.perm.mem_iff.1 (gi_mem L (by rw [h.len]; exact hi)))
theorem Drained.nodup {A : List Th} {n : Nat} {L : List It} (h : Drained A n L) : (L.map It.t).Pairwise (· ≠ ·) := by
  have h1 := actIts_nodup A n
  exact (h.perm.map It.t).symm.pairwise h1 (fun e => Ne.symm e)
theorem Drained.ne {A : List Th} {n : Nat} {L : List It} (h : Drained A n L) {i j : Nat} (hi : i < j) (hj : j < n) : (gi L i).t ≠ (gi L j).t := by
  have h1 := h.nodup
  rw [List.pairwise_map, List.pairwise_iff_getElem] at h1
  have hl := h.len
  have := h1 i j (by omega) (by omega) hi
  rw [gi_lt L (by omega), gi_lt L (by omega)]
  exact this
theorem Drained.le {A : List Th} {n : Nat} {L : List It} (h : Drained A n L) {i j : Nat} (hi : i < j) (hj : j < n) : ltB (gi L j) (gi L i) = false := by
  have h1 := h.sorted
  rw [List.pairwise_iff_getElem] at h1
  have hl := h.len
  rw [gi_lt L (by omega), gi_lt L (by omega)]
  exact h1 i j (by omega) (by omega) hi
theorem Drained.lt {A : List Th} {n : Nat} {L : List It} (h : Drained A n L) {i j : Nat} (hi : i < j) (hj : j < n) : ltB (gi L i) (gi L j) = true := by
  cases hb : ltB (gi L i) (gi L j) with
  | true => rfl
  | false => exact absurd (nl_eq hb (h.le hi hj)).2.2 (h.ne hi hj)
/-- The next one is on top. -/
theorem Drained.top {A : List Th} {n : Nat} {L : List It} (h : Drained A n L) {l : List It} (hH : Hp l) {i : Nat} (hi : i < n) (hp : l.Perm (L.drop i)) : 0 < l.length ∧ gi l 0 = gi L i ∧ l.tail.Perm (L.drop (i + 1)) := by
  have hl := h.len
  have e : L.drop i = gi L i :: L.drop (i + 1) := by rw [List.drop_eq_getElem_cons (by omega), gi_lt L (by omega)]
  rw [e] at hp
  refine hH.top_of hp (fun b hb => ?_)
  obtain ⟨k, hk, ek⟩ := List.getElem_of_mem hb
  rw [List.length_drop] at hk
  rw [List.getElem_drop] at ek
  have := h.lt (i := i) (j := i + 1 + k) (by omega) (by omega)
  rw [gi_lt L (show i + 1 + k < L.length by omega), ek] at this
  exact this

/-- Which numbers came among the first. -/
def seenL (n : Nat) (M : List It) : List Value := (List.range n).map fun (x : Nat) => .bool (M.any fun a => a.t == (x : Int))
theorem seenL_len (n : Nat) (M : List It) : (seenL n M).length = n := by simp [seenL]
theorem seenL_get {n : Nat} {M : List It} {x : Nat} (hx : x < n) : (seenL n M)[x]? = some (.bool (M.any fun a => a.t == (x : Int))) := by simp [seenL, hx]
theorem seenL_nil (n : Nat) : seenL n [] = List.replicate n (.bool false) := by
  apply List.ext_getElem?
  intro i
  by_cases hi : i < n
  · rw [seenL_get hi]; simp [hi]
  · simp [seenL, hi]
theorem seenL_set {n : Nat} {M : List It} {a : It} {x : Nat} (hx : x < n) (ha : a.t = x) : (seenL n M).set x (.bool true) = seenL n (M ++ [a]) := by
  apply List.ext_getElem?
  intro i
  by_cases hi : i < n
  · rw [seenL_get hi, List.getElem?_set]
    by_cases e : x = i
    · subst e
      simp [seenL_len, hx, ha]
    · rw [if_neg e, seenL_get hi]
      have : (a.t == (i : Int)) = false := by rw [ha]; simp; omega
      simp [List.any_append, this]
  · simp [seenL, hi]
theorem seen_not {A : List Th} {n : Nat} {L : List It} (h : Drained A n L) {i : Nat} (hi : i < n) : ((L.take i).any fun a => a.t == (gi L i).t) = false := by
  rw [List.any_eq_false]
  intro a ha e
  obtain ⟨k, hk, ek⟩ := List.getElem_of_mem ha
  rw [List.length_take] at hk
  rw [List.getElem_take] at ek
  have := h.ne (i := k) (j := i) (by omega) hi
  have hl := h.len
  rw [gi_lt L (show k < L.length by omega), ek] at this
  exact this (by simpa using e)
theorem take_gi {L : List It} {i : Nat} (h : i < L.length) : L.take (i + 1) = L.take i ++ [gi L i] := by
  rw [List.take_succ_eq_append_getElem h, gi_lt L h]

end Go.Proofs.Ytdeenhmcifopfaa
