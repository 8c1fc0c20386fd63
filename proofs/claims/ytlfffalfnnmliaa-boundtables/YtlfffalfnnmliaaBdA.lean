/- A table of classes and joins in memory; contracts of package bound: Class, Cuts. -/
import Derived.Test.YtlfffalfnnmliaaBdM
import Derived.Test.YtlfffalfnnmliaaBase
import Derived.Test.YtlfffalfnnmliaaProg
import Derived.Below
import Derived.WalkKit
import Derived.WalkSpells
import Derived.WalkLawsBesides
import Derived.WalkSmall
import Derived.Laws.OwnMore
import Derived.BigRegion
namespace Go.Proofs.Ytlfffalfnnmliaa
open Go.RowKit
set_option linter.unusedVariables false
set_option linter.unusedSimpArgs false

/-- A table as it lies in memory. -/
structure BAt (p : Nat) (cl : Nat → Int) (jn : Nat → Nat → Bool) (w : World) : Prop where
  lt : p < w.heap.size
  c : ∀ b, b < 256 → w.cell? ⟨p, b, none⟩ = some (.int .i64 (cl b))
  j : ∀ a b, a < 16 → b < 16 → w.cell? ⟨p, 256 + a * 16 + b, none⟩ = some (.bool (jn a b))
  f : ∀ k, k < 512 → w.frozen? ⟨p, k, none⟩ = false
theorem BAt.kept {p : Nat} {cl : Nat → Int} {jn : Nat → Nat → Bool} {w w' : World} (h : BAt p cl jn w) (hb : Below w.heap.size w w') : BAt p cl jn w' := by
  refine ⟨Nat.lt_of_lt_of_le h.lt hb.size, fun b hb' => (hb.cell h.lt).trans (h.c b hb'), fun a b h1 h2 => (hb.cell h.lt).trans (h.j a b h1 h2), fun k hk => (hb.frozen h.lt).trans (h.f k hk)⟩

theorem class_nil (b : Int) (w : World) : Calls Try.prog 28 #[.pointer none, .int .u8 b] w fun e w' => e = .returned (.int .i64 0) ∧ w' = w := by
  go_enter Try.func28, Try.ntmps28
  go_wp2
  go_ret
  exact ⟨rfl, rfl⟩

theorem class_any {p : Nat} {cl : Nat → Int} {jn : Nat → Nat → Bool} {w : World} (h : BAt p cl jn w) (b : Nat) (hb : b < 256) : Calls Try.prog 28 #[.pointer (some ⟨p, 0, none⟩), .int .u8 b] w fun e w' => e = .returned (.int .i64 (cl b)) ∧ w' = w := by
  have c0 := h.c b hb
  have hb0 : (0 : Int) ≤ (b : Int) := by omega
  have hb1 : (b : Int) < 256 := by omega
  clear h
  generalize cl b = x at *
  go_enter Try.func28, Try.ntmps28
  go_wp2
  go_ret
  exact ⟨rfl, rfl⟩

theorem isClass_any (n : Int) (w : World) : Calls Try.prog 48 #[.int .i64 n] w fun e w' => e = .returned (.bool (decide (0 ≤ n ∧ n ≤ 15))) ∧ w' = w := by
  go_enter Try.func48, Try.ntmps48
  by_cases h0 : 0 ≤ n
  · by_cases h1 : n ≤ 15
    · go_wp2
      go_ret
      exact ⟨by simp [h0, h1], rfl⟩
    · go_wp2
      go_ret
      exact ⟨by simp [h0, h1], rfl⟩
  · go_wp2
    go_ret
    exact ⟨by simp; omega, rfl⟩

theorem cuts_nil (a b : Int) (w : World) : Calls Try.prog 30 #[.pointer none, .int .u8 a, .int .u8 b] w fun e w' => e = .returned (.bool false) ∧ w' = w := by
  go_enter Try.func30, Try.ntmps30
  go_wp2_with fail
  refine (class_nil a w).mono ?_
  rintro e w1 ⟨rfl, hw⟩
  obtain rfl := hw.symm
  clear hw
  go_wp2_with fail
  refine (class_nil b w).mono ?_
  rintro e w2 ⟨rfl, hw⟩
  obtain rfl := hw.symm
  clear hw
  go_wp2
  go_ret
  exact ⟨rfl, rfl⟩

theorem cuts_any {p : Nat} {cl : Nat → Int} {jn : Nat → Nat → Bool} {w : World} (h : BAt p cl jn w) (hr : ∀ b, b < 256 → 0 ≤ cl b ∧ cl b ≤ 15) (a b : Nat) (ha : a < 256) (hb : b < 256) :
    Calls Try.prog 30 #[.pointer (some ⟨p, 0, none⟩), .int .u8 a, .int .u8 b] w fun e w' => e = .returned (.bool (decide (cl a ≠ cl b) && !jn (cl a).toNat (cl b).toNat)) ∧ w' = w := by
  have HA := hide (class_any h a ha)
  have HB := hide (class_any h b hb)
  have r1 := hr a ha
  have r2 := hr b hb
  have j0 := h.j (cl a).toNat (cl b).toNat (by omega) (by omega)
  clear h hr
  generalize cl a = x at *
  generalize cl b = y at *
  obtain ⟨x, rfl⟩ := Int.eq_ofNat_of_zero_le r1.1
  obtain ⟨y, rfl⟩ := Int.eq_ofNat_of_zero_le r2.1
  simp only [Int.toNat_natCast] at j0 ⊢
  generalize jn x y = z at *
  have hx0 : (0 : Int) ≤ (x : Int) := by omega
  have hx1 : (x : Int) < 16 := by omega
  have hy0 : (0 : Int) ≤ (y : Int) := by omega
  have hy1 : (y : Int) < 16 := by omega
  go_enter Try.func30, Try.ntmps30
  go_wp2_with fail
  refine (unhide HA).mono ?_
  rintro e w1 ⟨rfl, hw⟩
  obtain rfl := hw.symm
  clear hw HA
  go_wp2_with fail
  refine (unhide HB).mono ?_
  rintro e w2 ⟨rfl, hw⟩
  obtain rfl := hw.symm
  clear hw HB
  by_cases e : x = y
  · subst e
    go_wp2
    go_ret
    exact ⟨by simp, rfl⟩
  · have hne : ((x : Int) == (y : Int)) = false := by simp; omega
    go_wp2
    go_ret
    exact ⟨by simp [show ¬ ((x : Int) = (y : Int)) by omega], rfl⟩

/-- A table, or none: where it cuts. -/
def Tb (pv : Value) (q : Int → Int → Bool) (w : World) : Prop :=
  (pv = .pointer none ∧ ∀ a b, q a b = false) ∨ ∃ p cl jn, pv = .pointer (some ⟨p, 0, none⟩) ∧ BAt p cl jn w ∧ (∀ b, b < 256 → 0 ≤ cl b ∧ cl b ≤ 15) ∧ ∀ a b : Nat, a < 256 → b < 256 → q a b = (decide (cl a ≠ cl b) && !jn (cl a).toNat (cl b).toNat)
theorem Tb.kept {pv : Value} {q : Int → Int → Bool} {w w' : World} (h : Tb pv q w) (hb : Below w.heap.size w w') : Tb pv q w' := by
  rcases h with h | ⟨p, cl, jn, h1, h2, h3⟩
  · exact Or.inl h
  · exact Or.inr ⟨p, cl, jn, h1, h2.kept hb, h3⟩
theorem Tb.drewN {pv : Value} {q : Int → Int → Bool} {w : World} (h : Tb pv q w) (n : Nat) : Tb pv q (w.drewN n) := h.kept ⟨rfl, rfl, rfl, Nat.le_refl _, fun _ _ => rfl⟩
theorem cutsT {pv : Value} {q : Int → Int → Bool} {w : World} (h : Tb pv q w) (x y : UInt8) :
    Calls Try.prog 30 #[pv, .int .u8 (x.toNat : Int), .int .u8 (y.toNat : Int)] w fun e w' => e = .returned (.bool (q (x.toNat : Int) (y.toNat : Int))) ∧ w' = w := by
  rcases h with ⟨rfl, h⟩ | ⟨p, cl, jn, rfl, h2, h3, h4⟩
  · rw [h]
    exact cuts_nil _ _ _
  · rw [h4 _ _ x.toNat_lt y.toNat_lt]
    exact cuts_any h2 h3 x.toNat y.toNat x.toNat_lt y.toNat_lt

end Go.Proofs.Ytlfffalfnnmliaa
