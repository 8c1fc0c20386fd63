/- Is there a token? The program's question and the document's are one. -/
import Derived.Test.YtdpmjaelbjjanaaGreatZQa33
namespace Go.Proofs.YtdpmjaelbjjanaaGreat
set_option linter.unusedVariables false
set_option linter.unusedSimpArgs false

theorem mkF_mem {L : List (Int × ByteArray)} {id : Int} : mkF L id < 0 ↔ ∃ y ∈ L, y.1 = id := by
  constructor
  · intro h
    rcases mkF_cases L id with ⟨k, hk, _, h2, _⟩ | ⟨_, e⟩
    · exact ⟨L[k], List.getElem_mem hk, by rw [← h2]; simp [Mk.gS, hk]⟩
    · omega
  · rintro ⟨y, hy, rfl⟩
    rcases mkF_cases L y.1 with ⟨k, hk, _, _, e⟩ | ⟨h, _⟩
    · omega
    · obtain ⟨j, hj, rfl⟩ := List.mem_iff_getElem.1 hy
      exact absurd (by simp [Mk.gS, hj]) (h j hj)
theorem hasV_eq (s : Wf.Sp) (x : Int) : hasV s x = hasD s.specials (txT s).length x := by
  have h1 : spcV s x = decide (mkF s.specials x < 0) := by
    rw [Bool.eq_iff_iff, decide_eq_true_iff, mkF_mem]
    unfold spcV
    simp
  rw [hasV, h1, hasD, Bool.or_comm]
end Go.Proofs.YtdpmjaelbjjanaaGreat
