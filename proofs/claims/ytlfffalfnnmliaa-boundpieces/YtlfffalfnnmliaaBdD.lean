/- Contracts of package bound: mark. -/
import Derived.Test.YtlfffalfnnmliaaBdA
namespace Go.Proofs.Ytlfffalfnnmliaa
open Go.RowKit
set_option linter.unusedVariables false
set_option linter.unusedSimpArgs false

theorem BAt.congr {p : Nat} {cl cl' : Nat → Int} {jn jn' : Nat → Nat → Bool} {w : World} (h : BAt p cl jn w) (h1 : ∀ b, b < 256 → cl b = cl' b) (h2 : ∀ a b, a < 16 → b < 16 → jn a b = jn' a b) : BAt p cl' jn' w :=
  ⟨h.lt, fun b hb => by rw [← h1 b hb]; exact h.c b hb, fun a b ha hb => by rw [← h2 a b ha hb]; exact h.j a b ha hb, h.f⟩
theorem BAt.drew {p : Nat} {cl : Nat → Int} {jn : Nat → Nat → Bool} {w : World} (h : BAt p cl jn w) : BAt p cl jn w.drew := h.kept ⟨rfl, rfl, rfl, Nat.le_refl _, fun _ _ => rfl⟩
theorem fz_set (w : World) (p k o : Nat) (v : Value) : (w.setCell ⟨p, k, none⟩ v).frozen? ⟨p, o, none⟩ = w.frozen? ⟨p, o, none⟩ := by simp
theorem BAt.setC {p : Nat} {cl : Nat → Int} {jn : Nat → Nat → Bool} {w : World} (h : BAt p cl jn w) (k : Nat) (hk : k < 256) (x : Int) : BAt p (fun b => if b = k then x else cl b) jn (w.setCell ⟨p, k, none⟩ (.int .i64 x)) := by
  refine ⟨by have := h.lt; simpa using this, fun b hb => ?_, fun a b ha hb => ?_, fun o ho => (fz_set _ _ _ _ _).trans (h.f o ho)⟩
  · by_cases e : b = k
    · subst e
      rw [if_pos rfl]
      exact World.cell?_setCell_same _ _ _ (h.c b hb)
    · rw [if_neg e]
      exact (World.cell?_setCell_other _ _ _ _ (fun e2 => e (by injection e2 with _ e3; exact e3.symm))).trans (h.c b hb)
  · exact (World.cell?_setCell_other _ _ _ _ (fun e2 => by injection e2 with _ e3; omega)).trans (h.j a b ha hb)
theorem BAt.setJ {p : Nat} {cl : Nat → Int} {jn : Nat → Nat → Bool} {w : World} (h : BAt p cl jn w) (x y : Nat) (hx : x < 16) (hy : y < 16) : BAt p cl (fun a b => decide (a = x ∧ b = y) || jn a b) (w.setCell ⟨p, 256 + x * 16 + y, none⟩ (.bool true)) := by
  refine ⟨by have := h.lt; simpa using this, fun b hb => ?_, fun a b ha hb => ?_, fun o ho => (fz_set _ _ _ _ _).trans (h.f o ho)⟩
  · exact (World.cell?_setCell_other _ _ _ _ (fun e2 => by injection e2 with _ e3; omega)).trans (h.c b hb)
  · by_cases e : a = x ∧ b = y
    · obtain ⟨rfl, rfl⟩ := e
      simp only [and_self, decide_true, Bool.true_or]
      exact World.cell?_setCell_same _ _ _ (h.j a b ha hb)
    · rw [decide_eq_false e, Bool.false_or]
      exact (World.cell?_setCell_other _ _ _ _ (fun e2 => e (by injection e2 with _ e3; omega))).trans (h.j a b ha hb)

set_option maxRecDepth 20000 in
set_option maxHeartbeats 4000000 in
theorem mark_any {p : Nat} {cl : Nat → Int} {jn : Nat → Nat → Bool} {w : World} (h : BAt p cl jn w) (lo hi : Nat) (x : Int) (h1 : lo ≤ hi) (h2 : hi ≤ 255) :
    Calls Try.prog 49 #[.pointer (some ⟨p, 0, none⟩), .agg #[.int .i64 lo, .int .i64 hi, .int .i64 x]] w fun e w' => e = .returned (.tuple #[]) ∧ BAt p (fun b => if lo ≤ b ∧ b ≤ hi then x else cl b) jn w' ∧ Below p w w' := by
  have hlo : Below w.heap.size w (w.alloc (.cells #[.int .i64 lo, .int .i64 hi, .int .i64 x] 93)) := (Below.refl _ _).alloc (Nat.le_refl _) _
  have HA := hide (h.kept hlo)
  have HLT := hide h.lt
  have HB := hide (hlo.mono (Nat.le_of_lt h.lt))
  have q0 : (w.alloc (.cells #[.int .i64 lo, .int .i64 hi, .int .i64 x] 93)).cell? ⟨w.heap.size, 0, none⟩ = some (.int .i64 lo) := by simp
  have q1 : (w.alloc (.cells #[.int .i64 lo, .int .i64 hi, .int .i64 x] 93)).cell? ⟨w.heap.size, 1, none⟩ = some (.int .i64 hi) := by simp
  have q2 : (w.alloc (.cells #[.int .i64 lo, .int .i64 hi, .int .i64 x] 93)).cell? ⟨w.heap.size, 2, none⟩ = some (.int .i64 x) := by simp
  have hpq : p ≠ w.heap.size := by have := h.lt; omega
  clear h hlo
  go_enter Try.func49, Try.ntmps49
  go_wp2
  generalize w.alloc (.cells #[.int .i64 lo, .int .i64 hi, .int .i64 x] 93) = w0 at *
  generalize w.heap.size = qb at *
  go_loopw [4] (fun i wr => ∃ (k : Nat), i = .int .i64 k ∧ lo ≤ k ∧ k ≤ hi + 1 ∧ Hid (BAt p (fun b => if lo ≤ b ∧ b < k then x else cl b) jn wr) ∧ Hid (wr.cell? ⟨qb, 0, none⟩ = some (.int .i64 lo) ∧ wr.cell? ⟨qb, 1, none⟩ = some (.int .i64 hi) ∧ wr.cell? ⟨qb, 2, none⟩ = some (.int .i64 x)) ∧ Hid (Below p w wr)) (fun i _ => hi + 1 - (intOf i).toNat)
  case atStart => exact ⟨lo, rfl, Nat.le_refl _, by omega, hide (HA.out.congr (fun b hb => by rw [if_neg (by omega)]) (fun _ _ _ _ => rfl)), hide ⟨q0, q1, q2⟩, HB⟩
  case round =>
    obtain ⟨k, rfl, hk1, hk2, HI, HQ, HBl⟩ := hrel
    clear q0 q1 q2 HA HB
    obtain ⟨q0, q1, q2⟩ := HQ.out
    by_cases hlt : k ≤ hi
    · have hk0 : (0 : Int) ≤ (k : Int) := by omega
      have hki : (k : Int) ≤ (hi : Int) := by omega
      have hkb : (k : Int) < 256 := by omega
      have ck := HI.out.c k (by omega)
      have cf := HI.out.f k (by omega)
      generalize (if lo ≤ k ∧ k < k then x else cl k) = y at ck
      have HS := hide ((HI.out.setC k (by omega) x).drew)
      have HB2 : Hid (Below p w (wr.setCell ⟨p, k, none⟩ (.int .i64 x)).drew) := hide ((HBl.out.setCell (Nat.le_refl p) _).drew)
      have HQ2 : Hid ((wr.setCell ⟨p, k, none⟩ (.int .i64 x)).drew.cell? ⟨qb, 0, none⟩ = some (.int .i64 lo) ∧ (wr.setCell ⟨p, k, none⟩ (.int .i64 x)).drew.cell? ⟨qb, 1, none⟩ = some (.int .i64 hi) ∧ (wr.setCell ⟨p, k, none⟩ (.int .i64 x)).drew.cell? ⟨qb, 2, none⟩ = some (.int .i64 x)) := hide ⟨(World.cell?_setCell_other _ _ _ _ (fun e => hpq (by injection e))).trans q0, (World.cell?_setCell_other _ _ _ _ (fun e => hpq (by injection e))).trans q1, (World.cell?_setCell_other _ _ _ _ (fun e => hpq (by injection e))).trans q2⟩
      go_wp2
      go_region
      generalize (wr.setCell ⟨p, k, none⟩ (.int .i64 x)).drew = wd at *
      go_wp2
      go_roundw
      case rel => exact ⟨k + 1, by go_num, by omega, by omega, hide (HS.out.congr (fun b hb => by by_cases e : b = k; · { rw [if_pos e, if_pos (by omega)] }; · { rw [if_neg e]; by_cases e2 : lo ≤ b ∧ b < k; · { rw [if_pos e2, if_pos (by omega)] }; · { rw [if_neg e2, if_neg (by omega)] } }) (fun _ _ _ _ => rfl)), HQ2, HB2⟩
      case measure => simp [intOf]; omega
    · have hki : ¬ (k : Int) ≤ (hi : Int) := by omega
      go_wp2
      go_end0
      exact ⟨rfl, HI.out.congr (fun b hb => by by_cases e2 : lo ≤ b ∧ b < k; · { rw [if_pos e2, if_pos (by omega)] }; · { rw [if_neg e2, if_neg (by omega)] }) (fun _ _ _ _ => rfl), HBl.out⟩

end Go.Proofs.Ytlfffalfnnmliaa
