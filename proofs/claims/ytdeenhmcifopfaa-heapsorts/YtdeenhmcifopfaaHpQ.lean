/- Contract: the law's own least. -/
import Derived.Test.YtdeenhmcifopfaaHpL
import Derived.Test.YtdeenhmcifopfaaHpP
import Derived.BigRegion
namespace Go.Proofs.Ytdeenhmcifopfaa
open Go.RowKit
set_option linter.unusedVariables false
set_option linter.unusedSimpArgs false
attribute [local go_sem ↓] Go.wp_at_zero Go.wp_at_succ

theorem row3_at {w : World} {B g cap : Nat} {E : TypeId} {N : List Th} (h : w.ownsRow B E 3 (.slice (some ⟨g, 0, none⟩) N.length cap) N.length (fl3 N)) {i : Nat} (hi : i < N.length) :
    w.cell? ⟨g, i * 3, none⟩ = some (.int .i64 (gt N i).r) ∧ w.cell? ⟨g, i * 3 + 1, none⟩ = some (.int .i64 (gt N i).p) ∧ w.cell? ⟨g, i * 3 + 2, none⟩ = some (.int .i64 (gt N i).i) := by
  have hf := fl3_get N i hi
  refine ⟨?_, ?_, ?_⟩
  · rw [h.cellAt _ (by omega)]; exact hf.1
  · rw [h.cellAt _ (by omega)]; exact hf.2.1
  · rw [h.cellAt _ (by omega)]; exact hf.2.2

theorem row_kept {w w' : World} {B : Nat} {E : TypeId} {size : Nat} {v : Value} {n : Nat} {xs : List Value} (h : w.ownsRow B E size v n xs) (hb : Below w.heap.size w w') : w'.ownsRow B E size v n xs :=
  h.kept (row := none) ⟨hb.os, hb.tape, hb.output, hb.size, fun k hk _ => hb.block k hk⟩ (by cases v.ownBlock <;> simp)

/-- What six ways there are for two to be ordered, as the walk asks it. -/
theorem six (a b : Th) :
    (ltT a b ∧ decide (a.r < b.r) = true) ∨
    (ltT a b ∧ decide (a.r < b.r) = false ∧ (a.r == b.r) = true ∧ decide (a.p < b.p) = true) ∨
    (ltT a b ∧ decide (a.r < b.r) = false ∧ (a.r == b.r) = true ∧ decide (a.p < b.p) = false ∧ (a.p == b.p) = true ∧ decide (a.i < b.i) = true) ∨
    (¬ ltT a b ∧ decide (a.r < b.r) = false ∧ (a.r == b.r) = true ∧ decide (a.p < b.p) = false ∧ (a.p == b.p) = true ∧ decide (a.i < b.i) = false) ∨
    (¬ ltT a b ∧ decide (a.r < b.r) = false ∧ (a.r == b.r) = true ∧ decide (a.p < b.p) = false ∧ (a.p == b.p) = false) ∨
    (¬ ltT a b ∧ decide (a.r < b.r) = false ∧ (a.r == b.r) = false) := by
  simp only [ltT, decide_eq_true_eq, decide_eq_false_iff_not, beq_iff_eq, beq_eq_false_iff_ne, ne_eq]
  omega

theorem leastT_move {N : List Th} {j k : Nat} {a b : Th} (h : ∀ m, m < j → ¬ ltT (gt N m) (gt N k)) (ha : gt N j = a) (hb : gt N k = b) (hs : ltT a b) : ∀ m, m < j + 1 → ¬ ltT (gt N m) (gt N j) := by
  intro m hm
  by_cases e : m = j
  · rw [e]; unfold ltT; omega
  · have := h m (by omega)
    rw [← ha, ← hb] at hs
    unfold ltT at *
    omega
theorem leastT_stay {N : List Th} {j k : Nat} {a b : Th} (h : ∀ m, m < j → ¬ ltT (gt N m) (gt N k)) (ha : gt N j = a) (hb : gt N k = b) (hs : ¬ ltT a b) : ∀ m, m < j + 1 → ¬ ltT (gt N m) (gt N k) := by
  intro m hm
  by_cases e : m = j
  · rw [e, ha, hb]; exact hs
  · exact h m (by omega)

set_option maxRecDepth 20000 in
set_option maxHeartbeats 8000000 in
theorem least_any (B g cap : Nat) (N : List Th) (w : World) (h : w.ownsRow B 31 3 (.slice (some ⟨g, 0, none⟩) N.length cap) N.length (fl3 N)) (h0 : 0 < N.length) (hn : N.length ≤ 1000) :
    Calls Try.prog 14 #[.slice (some ⟨g, 0, none⟩) N.length cap] w fun e w' => (∃ k : Nat, e = .returned (.int .i64 k) ∧ k < N.length ∧ ∀ j, j < N.length → ¬ ltT (gt N j) (gt N k)) ∧ Below w.heap.size w w' := by
  obtain ⟨n, hln⟩ : ∃ n, N.length = n := ⟨_, rfl⟩
  have hg : g < w.heap.size := (h.lt g rfl).2
  have H := hide h
  clear h
  rw [hln] at h0 hn
  have HL := hide hln
  rw [hln]
  clear hln
  go_enter Try.func14, Try.ntmps14
  go_wp2
  go_loopw [3, 4] (fun c i wr => ∃ (k j : Nat), c = .int .i64 k ∧ i = .int .i64 j ∧ k < n ∧ j ≤ n ∧ Hid (∀ m, m < j → ¬ ltT (gt N m) (gt N k)) ∧ Below w.heap.size w wr) (fun _ i _ => n - (intOf i).toNat)
  case atStart => exact ⟨0, 0, rfl, rfl, by omega, by omega, hide (fun m hm => by omega), Below.refl _ _⟩
  case round =>
    obtain ⟨k, j, rfl, rfl, hk, hj, hL, hB⟩ := hrel
    by_cases hlt : j < n
    · have hR := row_kept H.out hB
      obtain ⟨i0, i1, i2⟩ := row3_at hR (show j < N.length by rw [HL.out]; exact hlt)
      obtain ⟨j0, j1, j2⟩ := row3_at hR (show k < N.length by rw [HL.out]; exact hk)
      have hgw : g < wr.heap.size := by have := hB.size; omega
      clear hR
      obtain ⟨a, ha⟩ : ∃ a, gt N j = a := ⟨_, rfl⟩
      obtain ⟨b, hb⟩ : ∃ b, gt N k = b := ⟨_, rfl⟩
      rw [ha] at i0 i1 i2
      rw [hb] at j0 j1 j2
      have HA := hide ha
      have HBb := hide hb
      clear ha hb
      have hj0 : (0 : Int) ≤ (j : Int) := by omega
      have hj1 : (j : Int) < (n : Int) := by omega
      have hk0 : (0 : Int) ≤ (k : Int) := by omega
      have hk1 : (k : Int) < (n : Int) := by omega
      have hne : g ≠ wr.heap.size := by omega
      have hne2 : g ≠ wr.heap.size + 1 := by omega
      go_wp2
      go_region
      all_goals
        rcases six a b with ⟨hs, h1⟩ | ⟨hs, h1, h2, h3⟩ | ⟨hs, h1, h2, h3, h4, h5⟩ | ⟨hs, h1, h2, h3, h4, h5⟩ | ⟨hs, h1, h2, h3, h4⟩ | ⟨hs, h1, h2⟩
      all_goals
        have HS := hide hs
        clear hs
        go_wp2
        go_roundw
        case rel =>
          first
          | exact ⟨j, j + 1, rfl, by go_num, hlt, by omega, hide (leastT_move hL.out HA.out HBb.out HS.out), hB.trans ((((Below.refl _ _).alloc (Nat.le_refl _) _).alloc (by simp) _).drew.mono hB.size)⟩
          | exact ⟨k, j + 1, rfl, by go_num, hk, by omega, hide (leastT_stay hL.out HA.out HBb.out HS.out), hB.trans ((((Below.refl _ _).alloc (Nat.le_refl _) _).alloc (by simp) _).drew.mono hB.size)⟩
        case measure => simp [intOf]; omega
    · obtain rfl : j = n := by omega
      go_wp2
      go_ret
      exact ⟨⟨k, rfl, hk, by have := hL.out; exact this⟩, hB⟩

end Go.Proofs.Ytdeenhmcifopfaa
