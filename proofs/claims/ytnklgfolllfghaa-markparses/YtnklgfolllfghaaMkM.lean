/- Special tokens in texts: the plain mathematics. -/
import Derived.Test.YtnklgfolllfghaaProg
namespace Go.Proofs.Ytnklgfolllfghaa.Mk
set_option linter.unusedVariables false
set_option linter.unusedSimpArgs false

/-- The text of the i-th mark. -/
def mT (L : List (List UInt8)) (i : Nat) : List UInt8 := L.getD i []
/-- Does a text begin with another one? -/
def bgn (s t : List UInt8) : Bool := decide (t.length ≤ s.length ∧ s.take t.length = t)
/-- The longest one of the first k that begins a text: one more than its place; 0: none does. -/
def bst (L : List (List UInt8)) (s : List UInt8) : Nat → Nat
  | 0 => 0
  | k + 1 => if bgn s (mT L k) = true ∧ (bst L s k = 0 ∨ (mT L (bst L s k - 1)).length < (mT L k).length) then k + 1 else bst L s k
def atM (L : List (List UInt8)) (s : List UInt8) : Nat := bst L s L.length
theorem bst_le (L : List (List UInt8)) (s : List UInt8) : ∀ k, bst L s k ≤ k
  | 0 => Nat.le_refl _
  | k + 1 => by rw [bst]; have := bst_le L s k; split <;> omega
theorem bst_spec (L : List (List UInt8)) (s : List UInt8) : ∀ k, (bst L s k = 0 → ∀ i, i < k → bgn s (mT L i) = false) ∧ (0 < bst L s k → bgn s (mT L (bst L s k - 1)) = true ∧ ∀ i, i < k → bgn s (mT L i) = true → (mT L i).length ≤ (mT L (bst L s k - 1)).length)
  | 0 => ⟨fun _ i hi => by omega, fun h => by simp [bst] at h⟩
  | k + 1 => by
    obtain ⟨h0, h1⟩ := bst_spec L s k
    rw [bst]
    split
    · rename_i h
      refine ⟨fun e => by omega, fun _ => ⟨by simpa using h.1, fun i hi hb => ?_⟩⟩
      simp only [Nat.add_sub_cancel]
      by_cases e : i = k
      · subst e; exact Nat.le_refl _
      · rcases h.2 with hz | hz
        · rw [h0 hz i (by omega)] at hb; cases hb
        · have h2 := (h1 (by rcases Nat.eq_zero_or_pos (bst L s k) with h3 | h3; · { rw [h0 h3 i (by omega)] at hb; cases hb }; · { exact h3 })).2 i (by omega) hb
          omega
    · rename_i h
      refine ⟨fun e i hi => ?_, fun e => ⟨(h1 e).1, fun i hi hb => ?_⟩⟩
      · by_cases e2 : i = k
        · subst e2
          have : ¬ bgn s (mT L i) = true := fun hb => h ⟨hb, Or.inl e⟩
          simpa using this
        · exact h0 e i (by omega)
      · by_cases e2 : i = k
        · subst e2
          rcases Nat.lt_or_ge (mT L (bst L s i - 1)).length (mT L i).length with h3 | h3
          · exact absurd ⟨hb, Or.inr h3⟩ h
          · exact h3
        · exact (h1 e).2 i (by omega) hb
/-- Texts that are unlike, none of them empty. -/
structure MkOk (L : List (List UInt8)) : Prop where
  ne : ∀ i, i < L.length → 0 < (mT L i).length
  nd : ∀ i j, i < L.length → j < L.length → mT L i = mT L j → i = j
theorem at_none {L : List (List UInt8)} {s : List UInt8} : atM L s = 0 ↔ ∀ i, i < L.length → bgn s (mT L i) = false := by
  obtain ⟨h0, h1⟩ := bst_spec L s L.length
  constructor
  · exact h0
  · intro h
    rcases Nat.eq_zero_or_pos (atM L s) with h2 | h2
    · exact h2
    · have h3 := (h1 h2).1
      have h4 := bst_le L s L.length
      unfold atM at h2
      rw [h _ (by omega)] at h3
      cases h3
/-- The longest one is told, however it is found. -/
theorem at_uniq {L : List (List UInt8)} (hk : MkOk L) {s : List UInt8} {i : Nat} (hi : i < L.length) (hb : bgn s (mT L i) = true) (hm : ∀ j, j < L.length → bgn s (mT L j) = true → (mT L j).length ≤ (mT L i).length) : atM L s = i + 1 := by
  obtain ⟨h0, h1⟩ := bst_spec L s L.length
  have h4 := bst_le L s L.length
  have hp : 0 < atM L s := by
    rcases Nat.eq_zero_or_pos (atM L s) with h2 | h2
    · rw [h0 h2 i hi] at hb; cases hb
    · exact h2
  unfold atM at hp ⊢
  obtain ⟨h2, h3⟩ := h1 hp
  have l1 := h3 i hi hb
  have l2 := hm _ (by omega) h2
  have e : mT L (bst L s L.length - 1) = mT L i := by
    unfold bgn at hb h2
    simp only [decide_eq_true_eq] at hb h2
    rw [← hb.2, ← h2.2, show (mT L (bst L s L.length - 1)).length = (mT L i).length by omega]
  have := hk.nd _ _ (by omega) hi e
  omega
theorem at_bgn {L : List (List UInt8)} {s : List UInt8} (h : 0 < atM L s) : atM L s - 1 < L.length ∧ bgn s (mT L (atM L s - 1)) = true := by
  have h4 := bst_le L s L.length
  exact ⟨by unfold atM at *; omega, ((bst_spec L s L.length).2 h).1⟩
/-- Of fewer bytes behind a mark. -/
theorem bgn_drop {s t : List UInt8} (h : bgn s t = true) : t ++ s.drop t.length = s := by
  unfold bgn at h
  simp only [decide_eq_true_eq] at h
  have := List.take_append_drop t.length s
  rw [h.2] at this
  exact this

/-- A text's items, within so many steps. -/
def prs (L : List (List UInt8)) : Nat → List UInt8 → List Int
  | 0, _ => []
  | _ + 1, [] => []
  | n + 1, b :: r => if atM L (b :: r) = 0 then (b.toNat : Int) :: prs L n r else -(atM L (b :: r) : Int) :: prs L n ((b :: r).drop (mT L (atM L (b :: r) - 1)).length)
def parsM (L : List (List UInt8)) (s : List UInt8) : List Int := prs L s.length s
/-- Steps to spare change nothing. -/
theorem prs_more {L : List (List UInt8)} (hk : MkOk L) : ∀ n m s, s.length ≤ n → s.length ≤ m → prs L n s = prs L m s
  | 0, 0, s, h1, h2 => rfl
  | 0, m + 1, s, h1, h2 => by
    have : s = [] := List.length_eq_zero_iff.1 (by omega)
    subst this
    rfl
  | n + 1, 0, s, h1, h2 => by
    have : s = [] := List.length_eq_zero_iff.1 (by omega)
    subst this
    rfl
  | n + 1, m + 1, [], _, _ => rfl
  | n + 1, m + 1, b :: r, h1, h2 => by
    simp only [List.length_cons] at h1 h2
    rw [prs, prs]
    split
    · rw [prs_more hk n m r (by omega) (by omega)]
    · rename_i h
      obtain ⟨hi, _⟩ := at_bgn (L := L) (s := b :: r) (by omega)
      have hp := hk.ne _ hi
      rw [prs_more hk n m _ (by simp only [List.length_drop, List.length_cons]; omega) (by simp only [List.length_drop, List.length_cons]; omega)]
theorem pars_nil (L : List (List UInt8)) : parsM L [] = [] := rfl
theorem pars_byte {L : List (List UInt8)} (hk : MkOk L) {b : UInt8} {r : List UInt8} (h : atM L (b :: r) = 0) : parsM L (b :: r) = (b.toNat : Int) :: parsM L r := by
  unfold parsM
  rw [List.length_cons, prs, if_pos h]
theorem pars_mark {L : List (List UInt8)} (hk : MkOk L) {s : List UInt8} (h : 0 < atM L s) : parsM L s = -(atM L s : Int) :: parsM L (s.drop (mT L (atM L s - 1)).length) := by
  obtain ⟨hi, hb⟩ := at_bgn h
  have hp := hk.ne _ hi
  cases s with
  | nil =>
    unfold bgn at hb
    simp only [decide_eq_true_eq, List.length_nil] at hb
    omega
  | cons b r =>
    unfold parsM
    rw [List.length_cons, prs, if_neg (by omega)]
    congr 1
    exact prs_more hk _ _ _ (by simp only [List.length_drop, List.length_cons]; omega) (Nat.le_refl _)
/-- The bytes of items. -/
def itm (L : List (List UInt8)) (x : Int) : Option (List UInt8) := if 0 ≤ x ∧ x ≤ 255 then some [UInt8.ofNat x.toNat] else if x < 0 ∧ -(L.length : Int) ≤ x then some (mT L (-1 - x).toNat) else none
def rnd (L : List (List UInt8)) : List Int → Option (List UInt8)
  | [] => some []
  | x :: r => match itm L x, rnd L r with
    | some a, some b => some (a ++ b)
    | _, _ => none
/-- What is parsed is rendered as it was. -/
theorem rnd_prs {L : List (List UInt8)} (hk : MkOk L) : ∀ n s, s.length ≤ n → rnd L (prs L n s) = some s
  | 0, s, h => by
    have : s = [] := List.length_eq_zero_iff.1 (by omega)
    subst this
    rfl
  | n + 1, [], _ => rfl
  | n + 1, b :: r, h => by
    simp only [List.length_cons] at h
    rw [prs]
    split
    · have ih := rnd_prs hk n r (by omega)
      have hb := b.toNat_lt
      have hi : itm L (b.toNat : Int) = some [b] := by
        unfold itm
        rw [if_pos (by omega)]
        simp
      rw [rnd, hi, ih]
      rfl
    · rename_i h0
      obtain ⟨hi, hb⟩ := at_bgn (L := L) (s := b :: r) (by omega)
      have hp := hk.ne _ hi
      have ih := rnd_prs hk n ((b :: r).drop (mT L (atM L (b :: r) - 1)).length) (by simp only [List.length_drop, List.length_cons]; omega)
      have hm : itm L (-(atM L (b :: r) : Int)) = some (mT L (atM L (b :: r) - 1)) := by
        unfold itm
        rw [if_neg (by omega), if_pos (by omega)]
        congr 2
        omega
      rw [rnd, hm, ih]
      simp only
      rw [bgn_drop hb]
theorem rnd_pars {L : List (List UInt8)} (hk : MkOk L) (s : List UInt8) : rnd L (parsM L s) = some s := rnd_prs hk _ s (Nat.le_refl _)
theorem prs_len (L : List (List UInt8)) : ∀ n s, (prs L n s).length ≤ n
  | 0, _ => Nat.le_refl _
  | n + 1, [] => by simp [prs]
  | n + 1, b :: r => by
    rw [prs]
    split
    · have := prs_len L n r; simp; omega
    · have := prs_len L n ((b :: r).drop (mT L (atM L (b :: r) - 1)).length); simp at this ⊢; omega
theorem rnd_append (L : List (List UInt8)) : ∀ (u v : List Int), rnd L (u ++ v) = match rnd L u, rnd L v with | some a, some b => some (a ++ b) | _, _ => none
  | [], v => by
    simp only [List.nil_append, rnd]
    cases rnd L v <;> simp
  | x :: u, v => by
    simp only [List.cons_append, rnd]
    rw [rnd_append L u v]
    cases itm L x <;> cases rnd L u <;> cases rnd L v <;> simp

end Go.Proofs.Ytnklgfolllfghaa.Mk
