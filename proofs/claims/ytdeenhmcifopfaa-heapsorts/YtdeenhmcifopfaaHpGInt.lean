/- Contracts of a heap of int: Clear. -/
import Derived.Test.YtdeenhmcifopfaaHpFInt
namespace Go.Proofs.Ytdeenhmcifopfaa.Hint
open Go.RowKit Go.Proofs.Ytdeenhmcifopfaa
set_option linter.unusedVariables false
set_option linter.unusedSimpArgs false

set_option maxRecDepth 20000 in
set_option maxHeartbeats 4000000 in
theorem clear_any (base p : Nat) (v : Value) (tn : Int) (l : List It) (w : World) (h : HAt 82 86 base p v tn l w) :
    Calls Try.prog 15 #[.pointer (some ⟨p, 0, none⟩)] w fun e w' => e = .returned (.tuple #[]) ∧ ∃ v', HAt 82 86 base p v' tn [] w' ∧ Fr p v w w' ∧ v'.ownBlock = v.ownBlock := by
  obtain ⟨ao, cap, rfl, hv1, hv2, hv3, hv4⟩ := h.form
  have hp0 := h.cell0
  have hfp := h.fr
  cases ao with
  | none =>
    obtain ⟨rfl, rfl⟩ := hv1 rfl
    have hcl : ∀ ty, (Builtin.clear_ #[80] ty #[.slice none 0 0]).run Try.prog w = .ok (.tuple #[]) w := by
      intro ty
      simp [Builtin.clear_, run_underlying Try.underlying80]
    have hst := h.st
    simp only [List.length_nil] at hp0 hst h
    have H := hide h
    clear h hst
    go_enter Try.func15, Try.ntmps15
    go_wp2
    go_end0
    have hs : (w.setCell ⟨p, 0, none⟩ (.slice none 0 0)).heap[p]? = some (.cells #[.slice none 0 0, .int .i64 tn] 82 (0, 0)) := by
      rw [heap_setCell_same w p 0 _ _ _ H.out.st]; rfl
    exact ⟨rfl, .slice none 0 0, ⟨hs, World.ownsRow_nil _ _ _ _, by simp [Value.ownBlock], H.out.bp, fun a ha => by cases ha⟩, (Fr.refl _ _ _).setP _, rfl⟩
  | some a =>
    obtain ⟨g, rfl, hg, hbg, hgp⟩ := hv2 a rfl
    obtain ⟨n, hln⟩ : ∃ n, l.length = n := ⟨_, rfl⟩
    rw [hln] at hp0 h hv3 ⊢
    obtain ⟨vs, hvl, hcl⟩ : ∃ vs : List Value, vs.length ≤ cap * 4 ∧ ∀ ty, (Builtin.clear_ #[80] ty #[.slice (some ⟨g, 0, none⟩) n cap]).run Try.prog w = .ok (.tuple #[]) (w.setCells g 0 vs) := by
      by_cases h0 : n = 0
      · subst h0
        exact ⟨[], by simp, fun ty => by simp [Builtin.clear_, run_underlying Try.underlying80, World.setCells]⟩
      · obtain ⟨vs, hvl, hcl⟩ := run_clear_all (P := Try.prog) w 80 86 _ 4 Try.underlying80 zero_item rfl (by simp [Value.cells, Value.oneCell']) (by omega) g 0 n (by omega) (fun j hj => (h.room (by omega)).1) (fun j hj => (h.room (by omega)).2)
        exact ⟨vs, by omega, fun ty => hcl ty cap⟩
    obtain ⟨hH2, hgr⟩ := h.cut 0 0 vs (by omega) (by omega) (by omega)
    have hp2 : (w.setCells g 0 vs).cell? ⟨p, 0, none⟩ = some (.slice (some ⟨g, 0, none⟩) n cap) := (hgr.cell_far ⟨p, 0, none⟩ h.lt (by simp; omega)).trans hp0
    have hf2 : (w.setCells g 0 vs).frozen? ⟨p, 0, none⟩ = false := (hgr.frozen_far ⟨p, 0, none⟩ h.lt (by simp; omega)).trans (h.fr 0)
    have hF2 : Fr p (.slice (some ⟨g, 0, none⟩) n cap) w (w.setCells g 0 vs) := Fr.ofGrown hgr (Or.inr (Or.inr rfl))
    generalize hW2 : w.setCells g 0 vs = W2 at hcl hH2 hp2 hf2 hF2
    clear hW2 hgr h hln hv1 hv2
    have H2 := hide hH2
    clear hH2
    go_enter Try.func15, Try.ntmps15
    go_wp2
    go_end0
    exact ⟨rfl, _, H2.out, hF2.setP _, rfl⟩

theorem drain_nil (w : World) :
    Calls Try.prog 17 #[.pointer none] w fun e w' => e = .returned (.slice none 0 0) ∧ w' = w := by
  go_enter Try.func17, Try.ntmps17
  go_wp2
  go_loopw [3] (fun c wr => c = .slice none 0 0 ∧ wr = w) (fun _ _ => 0)
  case atStart => exact ⟨rfl, rfl⟩
  case round =>
    obtain ⟨rfl, rfl⟩ := hrel
    go_wp2_with fail
    refine (len_nil _).mono ?_
    rintro e w' ⟨rfl, hw⟩
    subst hw
    go_wp2
    go_ret
    exact ⟨rfl, rfl⟩

end Go.Proofs.Ytdeenhmcifopfaa.Hint
