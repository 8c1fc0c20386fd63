/- Contract: spec.Print. -/
import Derived.Test.YteiinkhdgppgbaaGreatDoorSpZ
namespace Go.Proofs.YteiinkhdgppgbaaGreatDoor
open Go.RowKit
set_option linter.unusedVariables false
set_option linter.unusedSimpArgs false

def printP (s : Sp) : ByteArray × Int := if rightB s = true then (if 60000 < s.text.length then (⟨#[]⟩, 3) else (⟨s.text.toArray⟩, 0)) else (⟨#[]⟩, 1)
theorem text_ne (s : Sp) : s.text ≠ [] := by
  unfold Sp.text Sp.lines
  intro h
  have h1 := congrArg List.length h
  simp [txt] at h1
theorem SpI.cells {w : World} {q : Nat} {x : Sv} {s : Sp} {W : World} (h : SpI w q x s W) (o : Obj) : BxS q x (W.alloc o) := h.box.kept h.lt (low_alloc W o)

set_option maxHeartbeats 4000000 in
set_option maxRecDepth 20000 in
theorem print_any (x : Sv) (s : Sp) (w : World) (hE : Env w) (hS : SpAt w x s) :
    Calls Tryz.prog 8 #[.agg x.cs] w fun e w' => e = .returned (.tuple #[.string (printP s).1, .int .i64 (printP s).2]) ∧ Below w.heap.size w w' := by
  have HI := hide (SpI.new hS 28)
  have K := right_any x s _ HI.out.sp
  have HE := hide hE
  have HS := hide hS
  obtain ⟨y0, y1, y2, y3, y4, y5⟩ := HI.out.box
  clear hE hS
  cases hr : rightB s with
  | false =>
    rw [hr] at K
    have HP := hide (show printP s = (⟨#[]⟩, 1) by unfold printP; rw [hr]; rfl)
    clear hr
    rw [HP.out]
    go_enter Tryz.func8, Tryz.ntmps8
    go_wp2_with fail
    refine K.mono ?_
    rintro e w1 ⟨rfl, hb1⟩
    have HI1 := hide (HI.out.next hb1)
    clear hb1 K
    go_wp2
    go_ret2
    exact ⟨rfl, HI1.out.bel⟩
  | true =>
    rw [hr] at K
    have hR := (rightB_iff s).1 hr
    have HR := hide hR
    have HP := hide (show printP s = if 60000 < s.text.length then (⟨#[]⟩, 3) else (⟨s.text.toArray⟩, 0) by unfold printP; rw [hr]; rfl)
    clear hr hR
    go_enter Tryz.func8, Tryz.ntmps8
    go_wp2_with fail
    refine K.mono ?_
    clear y0 y1 y2 y3 y4 y5
    rintro e w1 ⟨rfl, hb1⟩
    have HI1 := hide (HI.out.next hb1)
    clear hb1 K
    have hs1 : w.heap.size ≤ w1.heap.size := HI1.out.bel.size
    obtain ⟨z0, z1, z2, z3, z4, z5⟩ := HI1.out.cells (.cells #[.pointer none, .slice none 0 0] TW)
    have hlo := low_alloc w1 (.cells #[.pointer none, .slice none 0 0] TW)
    have K2 := wspec_any w HE.out w1.heap.size x s HS.out HR.out (w1.alloc (.cells #[.pointer none, .slice none 0 0] TW)) (HI1.out.bel.trans (hlo.mono hs1)) (by simp) (Or.inl ⟨hs1, .slice none 0 0, heap_alloc_new w1 _, World.ownsRow_nil _ _ _ _, by simp [Value.ownBlock]⟩)
    clear hlo
    go_wp2_with fail
    refine K2.mono ?_
    rintro e w2 ⟨rfl, q, hW⟩
    clear K2 z0 z1 z2 z3 z4 z5
    have HW := hide hW
    clear hW
    obtain ⟨p, hB⟩ : ∃ p, Lib.BuilderAt TW 5 w.heap.size w1.heap.size p (Lib.byteCells s.text) w2 := by
      rcases HW.out.bld with h | h
      · exact ⟨_, h⟩
      · exact ⟨_, h⟩
    have HB := hide hB
    have KL := wb_len _ _ _ _ _ hB
    rw [byteCells_length] at KL
    have HTE := hide (text_ne s)
    clear hB
    by_cases hbig : 60000 < s.text.length
    · rw [if_pos hbig] at HP
      generalize s.text = T at HB KL HTE hbig
      have hb2 : (60000 : Int) < (T.length : Int) := by omega
      go_wp2_with fail
      refine KL.mono ?_
      rintro e w3 ⟨rfl, rfl⟩
      go_wp2
      go_ret2
      rw [HP.out]
      exact ⟨rfl, HW.out.bel⟩
    · rw [if_neg hbig] at HP
      generalize s.text = T at HB KL HTE hbig HP
      have hb2 : ¬ (60000 : Int) < (T.length : Int) := by omega
      go_wp2_with fail
      refine KL.mono ?_
      rintro e w3 ⟨rfl, rfl⟩
      have KT := wb_text _ _ _ _ _ HB.out HTE.out
      go_wp2_with fail
      refine KT.mono ?_
      rintro e w4 ⟨rfl, hb4⟩
      go_wp2
      go_ret2
      rw [HP.out]
      exact ⟨rfl, HW.out.bel.trans hb4⟩
end Go.Proofs.YteiinkhdgppgbaaGreatDoor
