/- Plain mathematics: things in the order in which they came, and the same things in a heap. -/
import Derived.Test.YtdeenhmcifopfaaHpM2
namespace Go.Proofs.Ytdeenhmcifopfaa
open Go.RowKit
set_option linter.unusedVariables false
set_option linter.unusedSimpArgs false

/-- A thing as the law keeps it: rank, place, the heap's turn, the law's turn. -/
structure Th where
  r : Int
  p : Int
  t : Int
  i : Int

def Th.it (a : Th) : It := ⟨a.r, a.p, a.t, .int .i64 a.i⟩
def thZ : Th := ⟨0, 0, 0, 0⟩
def gt (N : List Th) (j : Nat) : Th := N.getD j thZ
def ltT (a b : Th) : Prop := a.r < b.r ∨ (a.r = b.r ∧ (a.p < b.p ∨ (a.p = b.p ∧ a.i < b.i)))

theorem gt_lt (N : List Th) {j : Nat} (h : j < N.length) : gt N j = N[j] := by
  rw [gt, List.getD_eq_getElem?_getD, List.getElem?_eq_getElem h, Option.getD_some]
theorem gt_mem (N : List Th) {j : Nat} (h : j < N.length) : gt N j ∈ N := by rw [gt_lt N h]; exact List.getElem_mem h

/-- They came one behind the other, by both turns. -/
def Came (N : List Th) : Prop := N.Pairwise fun a b => a.t < b.t ∧ a.i < b.i

theorem Came.both {N : List Th} (h : Came N) {a b : Th} (ha : a ∈ N) (hb : b ∈ N) : (a.t < b.t ∧ a.i < b.i) ∨ (b.t < a.t ∧ b.i < a.i) ∨ a = b := by
  induction N with
  | nil => cases ha
  | cons x r ih =>
    have h1 := List.pairwise_cons.1 h
    rcases List.mem_cons.1 ha with ea | ha2
    · rcases List.mem_cons.1 hb with eb | hb2
      · exact Or.inr (Or.inr (ea.trans eb.symm))
      · rw [ea]; exact Or.inl (h1.1 b hb2)
    · rcases List.mem_cons.1 hb with eb | hb2
      · rw [eb]; exact Or.inr (Or.inl (h1.1 a ha2))
      · exact ih h1.2 ha2 hb2

theorem Came.snoc {N : List Th} (h : Came N) (a : Th) (hl : ∀ b ∈ N, b.t < a.t ∧ b.i < a.i) : Came (N ++ [a]) := by
  unfold Came
  rw [List.pairwise_append]
  exact ⟨h, List.pairwise_singleton _ _, fun b hb c hc => by rw [List.mem_singleton.1 hc]; exact hl b hb⟩

theorem Came.erase {N : List Th} (h : Came N) (k : Nat) : Came (N.eraseIdx k) := List.Pairwise.eraseIdx k h

theorem perm_erase {α : Type} (N : List α) {k : Nat} (h : k < N.length) : N.Perm (N[k] :: N.eraseIdx k) := by
  have h1 := List.perm_append_comm (l₁ := N.take k) (l₂ := [N[k]])
  have h2 : N = (N.take k ++ [N[k]]) ++ N.drop (k + 1) := by
    rw [← List.take_succ_eq_append_getElem h, List.take_append_drop]
  have h3 := h1.append_right (N.drop (k + 1))
  rw [← h2] at h3
  rw [List.eraseIdx_eq_take_drop_succ]
  simpa using h3

/-- The least by the law's turn is what is on top of the heap. -/
theorem Came.top {N : List Th} {l : List It} (h : Came N) (hH : Hp l) (hP : l.Perm (N.map Th.it)) {k : Nat} (hk : k < N.length) (hm : ∀ j, j < N.length → ¬ ltT (gt N j) (gt N k)) :
    0 < l.length ∧ gi l 0 = (gt N k).it ∧ l.tail.Perm ((N.eraseIdx k).map Th.it) := by
  have hp : l.Perm ((gt N k).it :: (N.eraseIdx k).map Th.it) := by
    refine hP.trans ?_
    have := (perm_erase N hk).map Th.it
    rw [gt_lt N hk]
    simpa using this
  have hlen : 0 < l.length := by rw [hp.length_eq]; simp
  have hmem := hP.mem_iff.1 (gi_mem l hlen)
  obtain ⟨b, hb, eb⟩ := List.mem_map.1 hmem
  have h1 := hH.least (gt N k).it (hp.mem_iff.2 (List.mem_cons_self ..))
  rw [← eb] at h1
  obtain ⟨j, hj, ej⟩ := List.getElem_of_mem hb
  have h2 := hm j hj
  rw [gt_lt N hj, ej] at h2
  have h3 := h.both hb (gt_mem N hk)
  have e : b = gt N k := by
    rw [ltB_not] at h1
    simp only [Th.it] at h1
    unfold ltT at h2
    rcases h3 with h3 | h3 | h3
    · exfalso; omega
    · exfalso; omega
    · exact h3
  have hg : gi l 0 = (gt N k).it := by rw [← eb, e]
  refine ⟨hlen, hg, ?_⟩
  cases l with
  | nil => simp at hlen
  | cons x r =>
    rw [gi_cons] at hg
    subst hg
    exact hp.cons_inv

def Th.cells (a : Th) : List Value := [.int .i64 a.r, .int .i64 a.p, .int .i64 a.i]
def fl3 : List Th → List Value
  | [] => []
  | a :: r => a.cells ++ fl3 r

theorem fl3_len (l : List Th) : (fl3 l).length = l.length * 3 := by
  induction l with
  | nil => rfl
  | cons a r ih => simp [fl3, Th.cells, ih]; omega
theorem fl3_append (l m : List Th) : fl3 (l ++ m) = fl3 l ++ fl3 m := by
  induction l with
  | nil => rfl
  | cons a r ih => simp [fl3, ih]
theorem fl3_one (l : List Th) : ∀ u ∈ fl3 l, u.oneCell' = true := by
  induction l with
  | nil => intro u hu; cases hu
  | cons a r ih =>
    intro u hu
    rcases List.mem_append.1 hu with hu | hu
    · simp only [Th.cells, List.mem_cons, List.not_mem_nil, or_false] at hu
      rcases hu with rfl | rfl | rfl <;> rfl
    · exact ih u hu
theorem fl3_get (l : List Th) (i : Nat) (hi : i < l.length) :
    (fl3 l)[i * 3]? = some (.int .i64 (gt l i).r) ∧ (fl3 l)[i * 3 + 1]? = some (.int .i64 (gt l i).p) ∧ (fl3 l)[i * 3 + 2]? = some (.int .i64 (gt l i).i) := by
  induction l generalizing i with
  | nil => simp at hi
  | cons a r ih =>
    cases i with
    | zero => simp [fl3, Th.cells, gt]
    | succ i =>
      have h := ih i (by simpa using hi)
      have e : ∀ k, (fl3 (a :: r))[(i + 1) * 3 + k]? = (fl3 r)[i * 3 + k]? := by
        intro k
        rw [show (i + 1) * 3 + k = (i * 3 + k) + 1 + 1 + 1 by omega]
        simp [fl3, Th.cells]
      have g : gt (a :: r) (i + 1) = gt r i := by simp [gt]
      rw [g]
      refine ⟨?_, ?_, ?_⟩
      · have := e 0; simp only [Nat.add_zero] at this; rw [this]; exact h.1
      · rw [e 1]; exact h.2.1
      · rw [e 2]; exact h.2.2
theorem fl3_take (l : List Th) (n : Nat) : fl3 (l.take n) = (fl3 l).take (n * 3) := by
  induction l generalizing n with
  | nil => simp [fl3]
  | cons a r ih =>
    cases n with
    | zero => simp [fl3]
    | succ n =>
      simp only [List.take_succ_cons, fl3, Th.cells, ih]
      rw [show (n + 1) * 3 = n * 3 + 1 + 1 + 1 by omega]
      simp
theorem fl3_drop (l : List Th) (n : Nat) : fl3 (l.drop n) = (fl3 l).drop (n * 3) := by
  induction l generalizing n with
  | nil => simp [fl3]
  | cons a r ih =>
    cases n with
    | zero => simp [fl3]
    | succ n =>
      simp only [List.drop_succ_cons, fl3, Th.cells, ih]
      rw [show (n + 1) * 3 = n * 3 + 1 + 1 + 1 by omega]
      simp

end Go.Proofs.Ytdeenhmcifopfaa
