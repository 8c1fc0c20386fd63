/- Plain mathematics: limbs to the base 2^32 and decimal digits, the lowest first; nothing of the program is named. -/
import Derived.Below
namespace Go.Proofs.YtdpmjaelbjjanaaGreat.Wf
open Go.RowKit
set_option linter.unusedVariables false
set_option linter.unusedSimpArgs false

theorem hide {p : Prop} (h : p) : Hid p := h
theorem unhide {p : Prop} (h : Hid p) : p := h

/-- The number of digits to the base B, the lowest first. -/
def pv (B : Int) : List Int → Int
  | [] => 0
  | a :: r => a + B * pv B r

/-- Each digit lies below the base. -/
def Dg (B : Int) (zs : List Int) : Prop := ∀ a ∈ zs, 0 ≤ a ∧ a < B

/-- No nought at the end. -/
def Nz (zs : List Int) : Prop := zs = [] ∨ zs.getD (zs.length - 1) 0 ≠ 0

theorem Dg.nil (B : Int) : Dg B [] := by intro a h; cases h
theorem Dg.cons {B a : Int} {r : List Int} (h0 : 0 ≤ a) (h1 : a < B) (hr : Dg B r) : Dg B (a :: r) := by
  intro x hx
  rcases List.mem_cons.1 hx with rfl | h
  · exact ⟨h0, h1⟩
  · exact hr x h
theorem Dg.tail {B a : Int} {r : List Int} (h : Dg B (a :: r)) : Dg B r := fun x hx => h x (List.mem_cons_of_mem _ hx)
theorem Dg.head {B a : Int} {r : List Int} (h : Dg B (a :: r)) : 0 ≤ a ∧ a < B := h a (List.mem_cons_self ..)
theorem Dg.append {B : Int} {a b : List Int} (ha : Dg B a) (hb : Dg B b) : Dg B (a ++ b) := by
  intro x hx
  rcases List.mem_append.1 hx with h | h
  · exact ha x h
  · exact hb x h
theorem Dg.take {B : Int} {a : List Int} (ha : Dg B a) (n : Nat) : Dg B (a.take n) := fun x hx => ha x (List.mem_of_mem_take hx)
theorem Dg.drop {B : Int} {a : List Int} (ha : Dg B a) (n : Nat) : Dg B (a.drop n) := fun x hx => ha x (List.mem_of_mem_drop hx)
theorem Dg.getD {B : Int} {a : List Int} (ha : Dg B a) (hB : 0 < B) (n : Nat) : 0 ≤ a.getD n 0 ∧ a.getD n 0 < B := by
  rw [List.getD_eq_getElem?_getD]
  by_cases h : n < a.length
  · rw [List.getElem?_eq_getElem h]; exact ha _ (List.getElem_mem h)
  · rw [List.getElem?_eq_none (by omega)]; exact ⟨Int.le_refl _, hB⟩

theorem pv_append (B : Int) (a b : List Int) : pv B (a ++ b) = pv B a + B ^ a.length * pv B b := by
  induction a with
  | nil => simp [pv]
  | cons x r ih =>
    simp only [List.cons_append, pv, ih, List.length_cons, Int.pow_succ, Int.mul_add, ← Int.mul_assoc, Int.add_assoc]
    rw [Int.mul_comm (B ^ r.length) B]

theorem pv_one (B a : Int) : pv B [a] = a := by simp [pv]

theorem pv_snoc (B : Int) (a : List Int) (x : Int) : pv B (a ++ [x]) = pv B a + B ^ a.length * x := by
  rw [pv_append, pv_one]

theorem pow_pos' {B : Int} (hB : 0 < B) (n : Nat) : 0 < B ^ n := Int.pow_pos hB

theorem pow_mono {B : Int} (hB : 1 < B) {m n : Nat} (h : m ≤ n) : B ^ m ≤ B ^ n := by
  obtain ⟨k, rfl⟩ := Nat.le.dest h
  induction k with
  | zero => exact Int.le_refl _
  | succ k ih =>
    have h1 := ih (by omega)
    have hp := pow_pos' (show (0 : Int) < B by omega) (m + k)
    rw [← Nat.add_assoc, Int.pow_succ]
    have : B ^ (m + k) * 1 ≤ B ^ (m + k) * B := Int.mul_le_mul_of_nonneg_left (by omega) (by omega)
    omega

theorem pv_bound {B : Int} (hB : 1 < B) {a : List Int} (h : Dg B a) : 0 ≤ pv B a ∧ pv B a < B ^ a.length := by
  induction a with
  | nil => simp [pv]
  | cons x r ih =>
    have h1 := ih h.tail
    have h2 := h.head
    simp only [pv, List.length_cons, Int.pow_succ]
    have h3 : 0 ≤ B * pv B r := Int.mul_nonneg (by omega) h1.1
    have h4 : B * (pv B r + 1) ≤ B * B ^ r.length := Int.mul_le_mul_of_nonneg_left (by omega) (by omega)
    rw [Int.mul_add, Int.mul_one] at h4
    rw [Int.mul_comm (B ^ r.length) B]
    omega

theorem pv_nonneg {B : Int} (hB : 1 < B) {a : List Int} (h : Dg B a) : 0 ≤ pv B a := (pv_bound hB h).1

theorem Nz.tail {a : Int} {r : List Int} (h : Nz (a :: r)) : Nz r := by
  cases r with
  | nil => exact Or.inl rfl
  | cons b s =>
    right
    rcases h with h | h
    · cases h
    · simpa using h

theorem pv_zero {B : Int} (hB : 1 < B) {a : List Int} (h : Dg B a) (hn : Nz a) (h0 : pv B a = 0) : a = [] := by
  induction a with
  | nil => rfl
  | cons x r ih =>
    exfalso
    have h1 := pv_bound hB h.tail
    have h2 := h.head
    simp only [pv] at h0
    have h3 : 0 ≤ B * pv B r := Int.mul_nonneg (by omega) h1.1
    have hx : x = 0 := by omega
    have h4 : B * pv B r = 0 := by omega
    have h5 : pv B r = 0 := by
      rcases Int.mul_eq_zero.1 h4 with h | h
      · omega
      · exact h
    have h6 := ih h.tail hn.tail h5
    subst h6
    rcases hn with h | h
    · cases h
    · simp [hx] at h

/-- One number has one list of digits without noughts at the end. -/
theorem pv_inj {B : Int} (hB : 1 < B) : ∀ {a b : List Int}, Dg B a → Dg B b → Nz a → Nz b → pv B a = pv B b → a = b
  | [], b, _, hb, _, nb, h => (pv_zero hB hb nb (by rw [← h]; rfl)).symm
  | x :: r, [], ha, _, na, _, h => absurd (pv_zero hB ha na (by rw [h]; rfl)) (by simp)
  | x :: r, y :: s, ha, hb, na, nb, h => by
    have h1 := ha.head
    have h2 := hb.head
    simp only [pv] at h
    have e1 : (x + B * pv B r) % B = x := by rw [Int.add_mul_emod_self_left]; exact Int.emod_eq_of_lt h1.1 h1.2
    have e2 : (y + B * pv B s) % B = y := by rw [Int.add_mul_emod_self_left]; exact Int.emod_eq_of_lt h2.1 h2.2
    have hxy : x = y := by rw [← e1, ← e2, h]
    subst hxy
    have h3 : B * pv B r = B * pv B s := by omega
    have h4 : pv B r = pv B s := Int.eq_of_mul_eq_mul_left (by omega) h3
    rw [pv_inj hB ha.tail hb.tail na.tail nb.tail h4]

/-- A longer list without noughts at the end has the greater number. -/
theorem pv_lower {B : Int} (hB : 1 < B) {a : List Int} (h : Dg B a) (hn : Nz a) (ha : a ≠ []) : B ^ (a.length - 1) ≤ pv B a := by
  have hl : 0 < a.length := List.length_pos_iff.2 ha
  have e : a = a.take (a.length - 1) ++ [a.getD (a.length - 1) 0] := by
    rw [List.getD_eq_getElem?_getD, List.getElem?_eq_getElem (by omega), Option.getD_some]
    rw [← List.take_succ_eq_append_getElem (by omega), show a.length - 1 + 1 = a.length by omega, List.take_length]
  have hg := h.getD (by omega) (a.length - 1)
  have hnz : a.getD (a.length - 1) 0 ≠ 0 := by
    rcases hn with h | h
    · exact absurd h ha
    · exact h
  have hb := pv_bound hB (h.take (a.length - 1))
  have e2 : pv B a = pv B (a.take (a.length - 1)) + B ^ (a.length - 1) * a.getD (a.length - 1) 0 := by
    conv => lhs; rw [e]
    rw [pv_snoc]
    simp
  have hp := pow_pos' (show (0 : Int) < B by omega) (a.length - 1)
  have : B ^ (a.length - 1) * 1 ≤ B ^ (a.length - 1) * a.getD (a.length - 1) 0 := Int.mul_le_mul_of_nonneg_left (by omega) (by omega)
  omega

theorem pv_len_lt {B : Int} (hB : 1 < B) {a b : List Int} (ha : Dg B a) (hb : Dg B b) (hn : Nz b) (h : a.length < b.length) : pv B a < pv B b := by
  have h1 := pv_bound hB ha
  have h2 := pv_lower hB hb hn (by intro e; subst e; simp at h)
  have h3 : B ^ a.length ≤ B ^ (b.length - 1) := pow_mono hB (by omega)
  omega

/-- Digits behind a common end decide by the highest that differs. -/
theorem pv_cmp {B : Int} (hB : 1 < B) {a b c : List Int} {x y : Int} (hl : a.length = b.length) (ha : Dg B a) (hb : Dg B b) (h : x < y) :
    pv B (a ++ x :: c) < pv B (b ++ y :: c) := by
  rw [pv_append, pv_append, hl]
  have h1 := pv_bound hB ha
  have h2 := pv_bound hB hb
  simp only [pv]
  rw [hl] at h1
  have hp := pow_pos' (show (0 : Int) < B by omega) b.length
  have : B ^ b.length * (x + 1 + B * pv B c) ≤ B ^ b.length * (y + B * pv B c) := Int.mul_le_mul_of_nonneg_left (by omega) (by omega)
  have e : B ^ b.length * (x + 1 + B * pv B c) = B ^ b.length * (x + B * pv B c) + B ^ b.length := by
    rw [show x + 1 + B * pv B c = (x + B * pv B c) + 1 by omega, Int.mul_add, Int.mul_one]
  omega

/-- Without the noughts at the end. -/
def chop : List Int → List Int
  | [] => []
  | a :: r => if a = 0 ∧ chop r = [] then [] else a :: chop r

theorem chop_pv (B : Int) (a : List Int) : pv B (chop a) = pv B a := by
  induction a with
  | nil => rfl
  | cons x r ih =>
    unfold chop
    split
    · rename_i h
      rw [h.2] at ih
      simp only [pv] at ih ⊢
      rw [← ih, h.1]; simp
    · simp only [pv, ih]

theorem chop_Nz (a : List Int) : Nz (chop a) := by
  induction a with
  | nil => exact Or.inl rfl
  | cons x r ih =>
    unfold chop
    split
    · exact Or.inl rfl
    · rename_i h
      right
      cases hc : chop r with
      | nil => simp [hc] at h ⊢; exact h
      | cons y s =>
        rw [hc] at ih
        rcases ih with ih | ih
        · cases ih
        · simpa using ih

theorem chop_sub (a : List Int) : ∀ x ∈ chop a, x ∈ a := by
  induction a with
  | nil => intro x hx; exact hx
  | cons y r ih =>
    intro x hx
    unfold chop at hx
    split at hx
    · cases hx
    · rcases List.mem_cons.1 hx with rfl | h
      · exact List.mem_cons_self ..
      · exact List.mem_cons_of_mem _ (ih x h)

theorem chop_Dg {B : Int} {a : List Int} (h : Dg B a) : Dg B (chop a) := fun x hx => h x (chop_sub a x hx)

theorem chop_take (a : List Int) : chop a = a.take (chop a).length := by
  induction a with
  | nil => rfl
  | cons y r ih =>
    unfold chop
    split
    · rfl
    · simp only [List.length_cons, List.take_succ_cons]
      rw [← ih]

theorem chop_len (a : List Int) : (chop a).length ≤ a.length := by
  rw [chop_take a, List.length_take]; omega

theorem chop_of_Nz {a : List Int} (h : Nz a) : chop a = a := by
  induction a with
  | nil => rfl
  | cons y r ih =>
    have h1 := ih h.tail
    unfold chop
    rw [h1]
    split
    · rename_i h2
      rw [h2.2] at h
      rcases h with h | h
      · cases h
      · simp [h2.1] at h
    · rfl

/-- A nought at the end more counts for nothing. -/
theorem chop_snoc_zero (a : List Int) : chop (a ++ [0]) = chop a := by
  induction a with
  | nil => simp [chop]
  | cons y r ih => simp only [List.cons_append, chop, ih]

theorem chop_take_succ (zs : List Int) (n : Nat) (h : zs.getD n 0 = 0) : chop (zs.take (n + 1)) = chop (zs.take n) := by
  by_cases hn : n < zs.length
  · rw [List.take_succ_eq_append_getElem hn]
    rw [List.getD_eq_getElem?_getD, List.getElem?_eq_getElem hn, Option.getD_some] at h
    rw [h, chop_snoc_zero]
  · rw [List.take_of_length_le (by omega), List.take_of_length_le (by omega)]

theorem Nz_take (zs : List Int) (n : Nat) (hn : n < zs.length) (h : zs.getD n 0 ≠ 0) : Nz (zs.take (n + 1)) := by
  right
  have : (zs.take (n + 1)).length = n + 1 := by rw [List.length_take]; omega
  rw [this, Nat.add_sub_cancel, List.getD_eq_getElem?_getD, List.getElem?_take_of_lt (by omega), ← List.getD_eq_getElem?_getD]
  exact h

theorem take_getD (zs : List Int) (k : Nat) (h : k < zs.length) : zs.take (k + 1) = zs.take k ++ [zs.getD k 0] := by
  rw [List.take_succ_eq_append_getElem h, List.getD_eq_getElem?_getD, List.getElem?_eq_getElem h, Option.getD_some]

theorem pv_take_succ (B : Int) (zs : List Int) (k : Nat) (h : k < zs.length) : pv B (zs.take (k + 1)) = pv B (zs.take k) + B ^ k * zs.getD k 0 := by
  rw [take_getD zs k h, pv_snoc, List.length_take, Nat.min_eq_left (by omega)]

theorem drop_getD (zs : List Int) (k : Nat) (h : k < zs.length) : zs.drop k = zs.getD k 0 :: zs.drop (k + 1) := by
  rw [List.drop_eq_getElem_cons h, List.getD_eq_getElem?_getD, List.getElem?_eq_getElem h, Option.getD_some]

end Go.Proofs.YtdpmjaelbjjanaaGreat.Wf
