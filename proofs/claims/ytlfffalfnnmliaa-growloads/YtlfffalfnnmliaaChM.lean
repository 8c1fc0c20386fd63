/- How bytes become tokens: the plain mathematics. -/
import Derived.Test.YtlfffalfnnmliaaTkI
namespace Go.Proofs.Ytlfffalfnnmliaa
open Go.RowKit
set_option linter.unusedVariables false
set_option linter.unusedSimpArgs false

theorem Tok.uniq {tx : List ByteArray} {mg : List (Int × Int)} (hk : Tok tx mg) {i j : Nat} (hi : i < mg.length) (hj : j < mg.length) (h : gm mg i = gm mg j) : i = j := by
  have h1 := hk.made i hi
  have h2 := hk.made j hj
  rw [h] at h1
  rw [← h1] at h2
  have hl := hk.len
  rcases Nat.lt_trichotomy i j with h3 | h3 | h3
  · exact absurd h2.symm (hk.nd _ _ (by omega) (by omega))
  · exact h3
  · exact absurd h2 (hk.nd _ _ (by omega) (by omega))

/-- From the beginning on: a just ahead of b becomes c. -/
def scan (a b c : Int) : List Int → List Int
  | x :: y :: r => if x = a ∧ y = b then c :: scan a b c r else x :: scan a b c (y :: r)
  | [x] => [x]
  | [] => []
/-- By the first n tokens that have parents. -/
def enc (mg : List (Int × Int)) : Nat → List Int → List Int
  | 0, l => l
  | n + 1, l => scan (gm mg n).1 (gm mg n).2 (256 + n) (enc mg n l)
/-- Nowhere a just ahead of b. -/
def NoP (a b : Int) (l : List Int) : Prop := ∀ u v, l ≠ u ++ a :: b :: v

theorem NoP.tail {a b x : Int} {l : List Int} (h : NoP a b (x :: l)) : NoP a b l := fun u v e => h (x :: u) v (by rw [e]; rfl)
theorem NoP.left {a b : Int} {l m : List Int} (h : NoP a b (l ++ m)) : NoP a b l := fun u v e => h u (v ++ m) (by rw [e]; simp)
theorem NoP.right {a b : Int} {l m : List Int} (h : NoP a b (l ++ m)) : NoP a b m := fun u v e => h (l ++ u) v (by rw [e]; simp)

theorem scan_id {a b c : Int} : ∀ l, NoP a b l → scan a b c l = l
  | [], _ => rfl
  | [x], _ => rfl
  | x :: y :: r, h => by
    have hne : ¬ (x = a ∧ y = b) := fun e => h [] r (by rw [e.1, e.2]; rfl)
    rw [scan, if_neg hne, scan_id (y :: r) h.tail]

theorem scan_at {a b c : Int} (v : List Int) : ∀ u, NoP a b (u ++ [a]) → scan a b c (u ++ a :: b :: v) = u ++ c :: scan a b c v
  | [], _ => by simp [scan]
  | [x], h => by
    have hne : ¬ (x = a ∧ a = b) := fun e => h [] [] (by rw [e.1, ← e.2]; rfl)
    show scan a b c (x :: a :: b :: v) = _
    rw [scan, if_neg hne, show scan a b c (a :: b :: v) = c :: scan a b c v from by rw [scan, if_pos ⟨rfl, rfl⟩]]
    rfl
  | x :: y :: u, h => by
    have hne : ¬ (x = a ∧ y = b) := fun e => h [] (u ++ [a]) (by rw [e.1, e.2]; rfl)
    show scan a b c (x :: y :: (u ++ a :: b :: v)) = _
    rw [scan, if_neg hne]
    have := scan_at (c := c) v (y :: u) (by have := h.tail; exact this)
    rw [show y :: (u ++ a :: b :: v) = (y :: u) ++ a :: b :: v from rfl, this]
    rfl

theorem scan_new {a b c : Int} (ha : c ≠ a) (hb : c ≠ b) (v : List Int) : ∀ u, NoP a b u → scan a b c (u ++ c :: v) = u ++ c :: scan a b c v
  | [], _ => by
    cases v with
    | nil => rfl
    | cons y r =>
      show scan a b c (c :: y :: r) = c :: scan a b c (y :: r)
      rw [scan, if_neg (fun e => ha e.1)]
  | [x], h => by
    show scan a b c (x :: c :: v) = x :: c :: scan a b c v
    rw [scan, if_neg (fun e => hb e.2)]
    have := scan_new ha hb v [] (fun u v e => by cases u <;> cases e)
    simp only [List.nil_append] at this
    rw [this]
  | x :: y :: u, h => by
    have hne : ¬ (x = a ∧ y = b) := fun e => h [] u (by rw [e.1, e.2]; rfl)
    show scan a b c (x :: y :: (u ++ c :: v)) = _
    rw [scan, if_neg hne]
    have := scan_new ha hb v (y :: u) h.tail
    rw [show y :: (u ++ c :: v) = (y :: u) ++ c :: v from rfl, this]
    rfl

theorem enc_id {mg : List (Int × Int)} {l : List Int} : ∀ n, (∀ k, k < n → NoP (gm mg k).1 (gm mg k).2 l) → enc mg n l = l
  | 0, _ => rfl
  | n + 1, h => by
    rw [enc, enc_id n (fun k hk => h k (by omega))]
    exact scan_id l (h n (by omega))

/-- A list with c in it: where two stand side by side. -/
theorem NoP.mid {a b c : Int} {u v : List Int} (hu : NoP a b u) (hv : NoP a b v) (ha : c ≠ a) (hb : c ≠ b) : NoP a b (u ++ c :: v) := by
  intro x y e
  rw [List.append_eq_append_iff] at e
  rcases e with ⟨z, h1, h2⟩ | ⟨z, h1, h2⟩
  · -- x = u ++ z, c :: v = z ++ a :: b :: y
    cases z with
    | nil => simp at h2; exact ha h2.1
    | cons q z =>
      simp at h2
      exact hv z y h2.2
  · -- u = x ++ z, a :: b :: y = z ++ c :: v
    cases z with
    | nil => simp at h2; exact ha h2.1.symm
    | cons q z =>
      simp at h2
      obtain ⟨rfl, h2⟩ := h2
      cases z with
      | nil => simp at h2; exact hb h2.1.symm
      | cons q z =>
        simp at h2
        obtain ⟨rfl, h2⟩ := h2
        exact hu x z h1

/-- The least two become one: what is made at last stays as it is. -/
theorem enc_step {tx : List ByteArray} {mg : List (Int × Int)} (hk : Tok tx mg) {K : Nat} (hK : K < mg.length) {u v : List Int} (h1 : ∀ k, k < K → NoP (gm mg k).1 (gm mg k).2 (u ++ (gm mg K).1 :: (gm mg K).2 :: v)) (h2 : NoP (gm mg K).1 (gm mg K).2 (u ++ [(gm mg K).1])) :
    ∀ n, K < n → enc mg n (u ++ (gm mg K).1 :: (gm mg K).2 :: v) = enc mg n (u ++ (256 + (K : Int)) :: v) := by
  have hp := hk.par K hK
  have e1 := enc_id K h1
  have e2 : enc mg K (u ++ (256 + (K : Int)) :: v) = u ++ (256 + (K : Int)) :: v := by
    refine enc_id K (fun k hk' => ?_)
    have hpk := hk.par k (by omega)
    have h3 := h1 k hk'
    refine NoP.mid h3.left ?_ (by omega) (by omega)
    have h4 : NoP (gm mg k).1 (gm mg k).2 ((u ++ [(gm mg K).1, (gm mg K).2]) ++ v) := by simpa using h3
    exact h4.right
  intro n
  induction n with
  | zero => intro h; omega
  | succ n ih =>
    intro h
    by_cases e : n = K
    · subst e
      rw [enc, enc, e1, e2, scan_at v u h2, scan_new (by omega) (by omega) v u h2.left]
    · rw [enc, enc, ih (by omega)]

end Go.Proofs.Ytlfffalfnnmliaa
