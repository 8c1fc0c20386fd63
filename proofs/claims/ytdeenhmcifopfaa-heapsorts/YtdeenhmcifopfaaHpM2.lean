/- Plain mathematics: what comes off the top of a heap. -/
import Derived.Test.YtdeenhmcifopfaaHpMath
namespace Go.Proofs.Ytdeenhmcifopfaa
open Go.RowKit
set_option linter.unusedVariables false
set_option linter.unusedSimpArgs false

theorem gi_cons (a : It) (m : List It) : gi (a :: m) 0 = a := by simp [gi]

/-- What is less than all others is on top; the others are behind it. -/
theorem Hp.top_of {l m : List It} {a : It} (h : Hp l) (hp : l.Perm (a :: m)) (hm : ∀ b ∈ m, ltB a b = true) : 0 < l.length ∧ gi l 0 = a ∧ l.tail.Perm m := by
  have hl : 0 < l.length := by rw [hp.length_eq]; simp
  have hg : gi l 0 = a := by
    have h1 : gi l 0 ∈ a :: m := hp.mem_iff.1 (gi_mem l hl)
    have h2 := h.least a (hp.mem_iff.2 (List.mem_cons_self ..))
    rcases List.mem_cons.1 h1 with h3 | h3
    · exact h3
    · rw [hm _ h3] at h2; cases h2
  refine ⟨hl, hg, ?_⟩
  cases l with
  | nil => simp at hl
  | cons b r =>
    rw [gi_cons] at hg
    subst hg
    exact hp.cons_inv
end Go.Proofs.Ytdeenhmcifopfaa
