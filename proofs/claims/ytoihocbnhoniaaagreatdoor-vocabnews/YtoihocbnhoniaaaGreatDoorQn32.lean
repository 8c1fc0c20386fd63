/- Contracts of the document's answer for tokens: Grow. TokenMakes: each token's bytes are its parents', and each two have a token where they are parents. Lists of merges that are held against others. -/
import Derived.Test.YtoihocbnhoniaaaGreatDoorQn30
import Derived.BigQuiet
import Derived.Test.YtoihocbnhoniaaaGreatDoorQn28
namespace Go.Proofs.YtoihocbnhoniaaaGreatDoor
open Go.RowKit Go.Maps
set_option linter.unusedVariables false
set_option linter.unusedSimpArgs false
attribute [local go_sem ↓] Go.wp_at_zero Go.wp_at_succ

/-- Merges that can be added one by one, and the table that they make. -/
structure Rch (tx : List ByteArray) (mg : List (Int × Int)) : Prop where
  st : stT mg mg.length = (tx, mg)
  ok : ∀ j, j < mg.length → addC (stT mg j).1 (gm mg j) = 0

theorem stT_left (mg : List (Int × Int)) (m : Int × Int) : ∀ j, j ≤ mg.length → stT (mg ++ [m]) j = stT mg j := by
  intro j
  induction j with
  | zero => intro _; rfl
  | succ j ih =>
    intro h
    have h1 := ih (by omega)
    show (nextT (stT (mg ++ [m]) j).1 (gm (mg ++ [m]) j), nextM (stT (mg ++ [m]) j).1 (stT (mg ++ [m]) j).2 (gm (mg ++ [m]) j)) = (nextT (stT mg j).1 (gm mg j), nextM (stT mg j).1 (stT mg j).2 (gm mg j))
    rw [h1, gm_left mg m (by omega)]

theorem Rch.begin : Rch (tb 256) [] := ⟨rfl, fun j hj => by simp at hj⟩
theorem Rch.add {tx : List ByteArray} {mg : List (Int × Int)} (h : Rch tx mg) {m : Int × Int} (hc : addC tx m = 0) : Rch (tx ++ [addS tx m]) (mg ++ [m]) := by
  refine ⟨?_, fun j hj => ?_⟩
  · have h1 := stT_left mg m mg.length (Nat.le_refl _)
    rw [h.st] at h1
    rw [List.length_append, List.length_singleton]
    show (nextT (stT (mg ++ [m]) mg.length).1 (gm (mg ++ [m]) mg.length), nextM (stT (mg ++ [m]) mg.length).1 (stT (mg ++ [m]) mg.length).2 (gm (mg ++ [m]) mg.length)) = _
    rw [h1, gm_last]
    unfold nextT nextM
    rw [if_pos hc, if_pos hc]
  · simp at hj
    by_cases e : j < mg.length
    · rw [stT_left mg m j (by omega), gm_left mg m e]; exact h.ok j e
    · obtain rfl : j = mg.length := by omega
      rw [stT_left mg m _ (by omega), gm_last, h.st]; exact hc
theorem Rch.next {tx : List ByteArray} {mg : List (Int × Int)} (h : Rch tx mg) (m : Int × Int) : Rch (nextT tx m) (nextM tx mg m) := by
  unfold nextT nextM
  by_cases hc : addC tx m = 0
  · rw [if_pos hc, if_pos hc]; exact h.add hc
  · rw [if_neg hc, if_neg hc]; exact h
theorem Rch.tok {tx : List ByteArray} {mg : List (Int × Int)} (h : Rch tx mg) : Tok tx mg := by
  have := stT_tok mg mg.length
  rw [h.st] at this
  exact this

def gi (l : List Int) (i : Nat) : Int := l.getD i 0
end Go.Proofs.YtoihocbnhoniaaaGreatDoor

namespace Go.Proofs.YtoihocbnhoniaaaGreatDoor
open Go.RowKit Go.Maps
set_option linter.unusedVariables false
set_option linter.unusedSimpArgs false
attribute [local go_sem ↓] Go.wp_at_zero Go.wp_at_succ

theorem RT.reads {vb vm : Value} {tx : List ByteArray} {mg : List (Int × Int)} {w : World} (h : RT vb vm tx mg w) {ao : Option Addr} {n cap : Nat} (hv : vm = .slice ao n cap) : ReadsM w ao mg.length mg := by
  refine ⟨rfl, ?_⟩
  by_cases h0 : mg.length = 0
  · exact Or.inl h0
  · right
    obtain ⟨g, c, hv2, hg, _⟩ := h.mer (i := 0) (by omega)
    rw [hv] at hv2
    simp only [Value.slice.injEq] at hv2
    obtain ⟨rfl, rfl, rfl⟩ := hv2
    refine ⟨g, 0, rfl, fun i hi => ?_⟩
    obtain ⟨g2, c2, hv3, hg2, e0, e1⟩ := h.mer hi
    rw [hv] at hv3
    simp only [Value.slice.injEq, Option.some.injEq, Addr.mk.injEq] at hv3
    obtain ⟨⟨rfl, _, _⟩, _, _⟩ := hv3
    rw [Nat.zero_add]
    exact ⟨e0, e1⟩

end Go.Proofs.YtoihocbnhoniaaaGreatDoor

namespace Go.Proofs.YtoihocbnhoniaaaGreatDoor
open Go.RowKit Go.Maps
set_option linter.unusedVariables false
set_option linter.unusedSimpArgs false

end Go.Proofs.YtoihocbnhoniaaaGreatDoor
