/- Contracts of package token: Merges of a table. -/
import Derived.Test.YtdpmjaelbjjanaaGreatQa23
import Derived.Lib.SmallJoins
namespace Go.Proofs.YtdpmjaelbjjanaaGreat
open Go.RowKit Go.Maps
set_option linter.unusedVariables false
set_option linter.unusedSimpArgs false
attribute [local go_sem ↓] Go.wp_at_zero Go.wp_at_succ

section
variable {mg : List (Int × Int)} {w : World} {vm : Value}

set_option maxHeartbeats 4000000 in
theorem clone_any (h : w.ownsRow 0 77 2 vm mg.length (fl2 mg)) (hl : mg.length ≤ 1000) :
    Calls Tryz.prog 128 #[vm] w fun e w' => (∃ rv, e = .returned rv ∧ w'.ownsRow 0 77 2 rv mg.length (fl2 mg)) ∧ Below w.heap.size w w' := by
  obtain ⟨i0, hi, hz0, hz1, hz2⟩ := info_parts info_merge
  have q22 : ∀ (w : World) (a : Option Addr) (n c n' c' : Nat), (binOp .eql 32 (.slice a n c) (.slice none n' c')).run Tryz.prog w = .ok (.bool a.isNone) w := fun w a n c n' c' => Lib.run_eql_slice_nil w _ _ a n c n' c' Tryz.underlying32
  rcases Go.Joins.ownsRow_forms h with ⟨rfl, h0⟩ | ⟨g, cap, rfl⟩
  · go_enter Tryz.func128, Tryz.ntmps128
    go_wp2
    go_ret
    exact ⟨⟨_, rfl, h⟩, Below.refl _ _⟩
  · have hc := hide (fun o => World.ownsRow.cells (h.alloc o) rfl)
    go_enter Tryz.func128, Tryz.ntmps128
    go_wp2_with (at_builtin; refine wpList_append_own _ rfl _ _ 32 rfl w.heap.size 77 i0 _ 2 16 Tryz.underlying32 hi hz0 hz1 hz2 rfl (by decide) _ _ _ rfl (World.ownsRow_made w #[] 0 (Nat.le_refl _) (Nat.zero_le _) rfl) ⟨g, 0, none⟩ mg.length cap (fl2 mg) rfl (fl2_len mg) (hc.out _) (fl2_one _) (by unfold maxLen; omega) (by omega) (by simp) ?_)
    intro v' w1 hown hgrow hnil
    go_wp2
    go_ret
    exact ⟨⟨v', rfl, World.ownsRow.mono (by simpa using hown) (Nat.zero_le _)⟩, ((Below.refl _ w).alloc (Nat.le_refl _) _).grown hgrow (by simp) (by intro k hk; simp [Value.ownBlock] at hk; omega)⟩
end

section
variable {F : List Nat} {p b2 b3 : Nat} {v0 v1 : Value} {tx : List ByteArray} {mg : List (Int × Int)} {lg : Int} {w : World}

set_option maxHeartbeats 4000000 in
theorem tmerges_any (h : TAt F p v0 v1 b2 b3 tx mg lg w) (hl : mg.length ≤ 1000) :
    Calls Tryz.prog 96 #[.pointer (some ⟨p, 0, none⟩)] w fun e w' => (∃ rv, e = .returned rv ∧ w'.ownsRow 0 77 2 rv mg.length (fl2 mg)) ∧ Below w.heap.size w w' := by
  have tc1 := h.cells.2.1
  have HC := hide (clone_any h.r1 hl)
  go_enter Tryz.func96, Tryz.ntmps96
  go_wp2_with fail
  refine (unhide HC).mono ?_
  rintro e w' ⟨⟨rv, rfl, hr⟩, hb⟩
  go_wp2
  go_ret
  exact ⟨⟨rv, rfl, hr⟩, hb⟩
end

end Go.Proofs.YtdpmjaelbjjanaaGreat
