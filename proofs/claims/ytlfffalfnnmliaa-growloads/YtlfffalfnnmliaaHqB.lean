/- Contracts of a heap of pairs: swap. -/
import Derived.Test.YtlfffalfnnmliaaHqL
import Derived.BigRegion
namespace Go.Proofs.Ytlfffalfnnmliaa.Hq
open Go.RowKit Go.Proofs.Ytlfffalfnnmliaa
set_option linter.unusedVariables false
set_option linter.unusedSimpArgs false
attribute [local go_sem ↓] Go.wp_at_zero Go.wp_at_succ

set_option maxHeartbeats 2000000 in
theorem swap_any (base p : Nat) (v : Value) (tn : Int) (l : List It) (w : World) (h : HAt 126 133 base p v tn l w) (i j : Nat) (hi : i < l.length) (hj : j < l.length) (hne : i ≠ j) (hn : l.length ≤ 1000000) :
    Calls Try.prog 73 #[.pointer (some ⟨p, 0, none⟩), .int .i64 i, .int .i64 j] w fun e w' => e = .returned (.tuple #[]) ∧ HAt 126 133 base p v tn (swp l i j) w' ∧ Fr p v w w' := by
  obtain ⟨g, cap, rfl, hg, hbg, hgp, hc1, hc2⟩ := h.pos (by omega)
  obtain ⟨i0, i1, i2, i3, i4, i5, i6⟩ := h.at hi
  obtain ⟨j0, j1, j2, j3, j4, j5, j6⟩ := h.at hj
  have hp0 := h.cell0
  obtain ⟨n, hln⟩ : ∃ n, l.length = n := ⟨_, rfl⟩
  obtain ⟨a, ha⟩ : ∃ a, gi l i = a := ⟨_, rfl⟩
  obtain ⟨b, hb⟩ : ∃ b, gi l j = b := ⟨_, rfl⟩
  rw [ha] at i0 i1 i2 i3 i4 i5 i6
  rw [hb] at j0 j1 j2 j3 j4 j5 j6
  rw [hln] at hp0 hi hj
  have hfz : ∀ o, w.frozen? ⟨g, o, none⟩ = false := fun o => h.row.frozenAt o
  have hi0 : (0 : Int) ≤ (i : Int) := by omega
  have hj0 : (0 : Int) ≤ (j : Int) := by omega
  have hin : (i : Int) < (n : Int) := by omega
  have hjn : (j : Int) < (n : Int) := by omega
  have H := hide h
  have HL := hide hln
  have HA := hide ha
  have HB := hide hb
  clear h hln ha hb
  go_enter Try.func73, Try.ntmps73
  go_wp2
  go_region
  have h := unhide H
  have hln := unhide HL
  have ha := unhide HA
  have hb := unhide HB
  have h1 := h.put (show i < l.length by omega) b
  have h2 := h1.put (show j < (l.set i b).length by simp; omega) a
  have F : Fr p (.slice (some ⟨g, 0, none⟩) l.length cap) w w := Fr.refl _ _ _
  go_end0
  refine ⟨rfl, ?_, ?_⟩
  · have e : swp l i j = (l.set i b).set j a := by unfold swp; rw [ha, hb]
    rw [e]
    exact h2.drew
  · exact ((F.put rfl b).put rfl a).drew

end Go.Proofs.Ytlfffalfnnmliaa.Hq
