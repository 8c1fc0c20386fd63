/- Where bytes are cut: the plain mathematics. Special tokens in texts: the plain mathematics. -/
import Derived.Test.YtdpmjaelbjjanaaGreatProg
namespace Go.Proofs.YtdpmjaelbjjanaaGreat.Wf.Bq
set_option linter.unusedVariables false
set_option linter.unusedSimpArgs false

/-- A class is right; a join is. -/
def kC (c : Int × Int × Int) : Prop := 0 ≤ c.1 ∧ c.1 ≤ c.2.1 ∧ c.2.1 ≤ 255 ∧ 0 ≤ c.2.2 ∧ c.2.2 ≤ 15
def kJ (j : Int × Int) : Prop := 0 ≤ j.1 ∧ j.1 ≤ 15 ∧ 0 ≤ j.2 ∧ j.2 ≤ 15
def spn (c : Int × Int × Int) (b : Int) : Prop := c.1 ≤ b ∧ b ≤ c.2.1
open Classical in
/-- A byte's class: the last one's in whose span it is. -/
def cls (C : List (Int × Int × Int)) (b : Int) : Int := C.foldl (fun a c => if c.1 ≤ b ∧ b ≤ c.2.1 then c.2.2 else a) 0
theorem cls_snoc (C : List (Int × Int × Int)) (c : Int × Int × Int) (b : Int) : cls (C ++ [c]) b = if c.1 ≤ b ∧ b ≤ c.2.1 then c.2.2 else cls C b := by
  unfold cls
  rw [List.foldl_append]
  rfl
def gC (C : List (Int × Int × Int)) (k : Nat) : Int × Int × Int := C.getD k (0, 0, 0)
def gJ (C : List (Int × Int)) (k : Nat) : Int × Int := C.getD k (0, 0)
theorem gC_take (C : List (Int × Int × Int)) {k : Nat} (h : k < C.length) : C.take (k + 1) = C.take k ++ [gC C k] := by
  rw [List.take_succ_eq_append_getElem h]
  unfold gC
  rw [List.getD_eq_getElem?_getD, List.getElem?_eq_getElem h]
  rfl
theorem gJ_take (C : List (Int × Int)) {k : Nat} (h : k < C.length) : C.take (k + 1) = C.take k ++ [gJ C k] := by
  rw [List.take_succ_eq_append_getElem h]
  unfold gJ
  rw [List.getD_eq_getElem?_getD, List.getElem?_eq_getElem h]
  rfl
theorem gC_mem (C : List (Int × Int × Int)) {k : Nat} (h : k < C.length) : gC C k ∈ C := by
  unfold gC
  rw [List.getD_eq_getElem?_getD, List.getElem?_eq_getElem h]
  exact List.getElem_mem h
theorem gJ_mem (C : List (Int × Int)) {k : Nat} (h : k < C.length) : gJ C k ∈ C := by
  unfold gJ
  rw [List.getD_eq_getElem?_getD, List.getElem?_eq_getElem h]
  exact List.getElem_mem h
theorem mem_gC {C : List (Int × Int × Int)} {c : Int × Int × Int} (h : c ∈ C) : ∃ k, k < C.length ∧ gC C k = c := by
  obtain ⟨k, hk, e⟩ := List.getElem_of_mem h
  exact ⟨k, hk, by unfold gC; rw [List.getD_eq_getElem?_getD, List.getElem?_eq_getElem hk]; exact e⟩
theorem mem_gJ {C : List (Int × Int)} {c : Int × Int} (h : c ∈ C) : ∃ k, k < C.length ∧ gJ C k = c := by
  obtain ⟨k, hk, e⟩ := List.getElem_of_mem h
  exact ⟨k, hk, by unfold gJ; rw [List.getD_eq_getElem?_getD, List.getElem?_eq_getElem hk]; exact e⟩
/-- Looked for from behind. -/
theorem cls_none (C : List (Int × Int × Int)) (b : Int) : ∀ k, k ≤ C.length → (∀ i, i < k → ¬ spn (gC C i) b) → cls (C.take k) b = 0
  | 0, _, _ => by simp [cls]
  | k + 1, h, hn => by
    rw [gC_take C (by omega), cls_snoc, if_neg (by have := hn k (by omega); unfold spn at this; exact this)]
    exact cls_none C b k (by omega) (fun i hi => hn i (by omega))
theorem cls_at (C : List (Int × Int × Int)) (b : Int) (k : Nat) (hs : spn (gC C k) b) : ∀ n, n ≤ C.length → k < n → (∀ i, k < i → i < n → ¬ spn (gC C i) b) → cls (C.take n) b = (gC C k).2.2
  | 0, _, h, _ => by omega
  | n + 1, hl, h, hn => by
    rw [gC_take C (by omega), cls_snoc]
    by_cases e : k = n
    · subst e
      unfold spn at hs
      rw [if_pos hs]
    · rw [if_neg (by have := hn n (by omega) (by omega); unfold spn at this; exact this)]
      exact cls_at C b k hs n (by omega) (by omega) (fun i h1 h2 => hn i h1 (by omega))
theorem cls_range {C : List (Int × Int × Int)} (h : ∀ c ∈ C, kC c) (b : Int) : ∀ k, k ≤ C.length → 0 ≤ cls (C.take k) b ∧ cls (C.take k) b ≤ 15
  | 0, _ => by simp [cls]
  | k + 1, hl => by
    rw [gC_take C (by omega), cls_snoc]
    have h1 := h _ (gC_mem C (show k < C.length by omega))
    have h2 := cls_range h b k (by omega)
    unfold kC at h1
    split <;> omega
theorem cls_range' {C : List (Int × Int × Int)} (h : ∀ c ∈ C, kC c) (b : Int) : 0 ≤ cls C b ∧ cls C b ≤ 15 := by
  have := cls_range h b C.length (Nat.le_refl _)
  rwa [List.take_length] at this

/-- Is it cut between two bytes? -/
def cutP (C : List (Int × Int × Int)) (J : List (Int × Int)) (a b : Int) : Bool := decide (cls C a ≠ cls C b ∧ (cls C a, cls C b) ∉ J)

section
variable (q : Int → Int → Bool)
/-- Is it cut ahead of the place i of a text? -/
def qa (s : List UInt8) (i : Nat) : Bool := q ((s.getD (i - 1) 0).toNat : Int) ((s.getD i 0).toNat : Int)
/-- Pieces of the first i bytes. -/
def pc (s : List UInt8) : Nat → List (List UInt8)
  | 0 => []
  | i + 1 => if i = 0 ∨ qa q s i = true then pc s i ++ [[s.getD i 0]] else (pc s i).dropLast ++ [(pc s i).getLastD [] ++ [s.getD i 0]]
def pcs (s : List UInt8) : List (List UInt8) := pc q s s.length
variable {q}
theorem pc_ne (s : List UInt8) : ∀ i, 0 < i → pc q s i ≠ []
  | 0, h => by omega
  | i + 1, _ => by rw [pc]; split <;> simp
theorem pc_flat (s : List UInt8) : ∀ i, i ≤ s.length → (pc q s i).flatten = s.take i
  | 0, _ => by simp [pc]
  | i + 1, h => by
    have hi : i < s.length := by omega
    have hg : s.getD i 0 = s[i] := by rw [List.getD_eq_getElem?_getD, List.getElem?_eq_getElem hi]; rfl
    rw [List.take_succ_eq_append_getElem hi, ← pc_flat s i (by omega), pc, hg]
    split
    · simp
    · rename_i hne
      have h0 := pc_ne (q := q) s i (by omega)
      obtain ⟨u, x, e⟩ : ∃ u x, pc q s i = u ++ [x] := ⟨_, _, (List.dropLast_concat_getLast h0).symm⟩
      rw [e]
      simp
/-- How many there are. -/
def cnt (q : Int → Int → Bool) (s : List UInt8) : Nat → Nat
  | 0 => 0
  | i + 1 => cnt q s i + if i = 0 ∨ qa q s i = true then 1 else 0
theorem pc_len (s : List UInt8) : ∀ i, (pc q s i).length = cnt q s i
  | 0 => rfl
  | i + 1 => by
    rw [pc, cnt]
    split
    · simp [pc_len s i]
    · rename_i hne
      have h0 := pc_ne (q := q) s i (by omega)
      have h1 := pc_len s i
      have h2 := List.length_pos_iff.2 h0
      simp
      omega
theorem cnt_le (s : List UInt8) : ∀ i, cnt q s i ≤ i
  | 0 => Nat.le_refl _
  | i + 1 => by rw [cnt]; have := cnt_le s i; split <;> omega
theorem cnt_pos (s : List UInt8) : ∀ i, 0 < i → 1 ≤ cnt q s i
  | 0, h => by omega
  | i + 1, _ => by
    rw [cnt]
    by_cases h : i = 0
    · rw [if_pos (Or.inl h)]; omega
    · have := cnt_pos s i (by omega); omega
/-- At most one: no cut. -/
theorem cnt_one (s : List UInt8) : ∀ i, 0 < i → (cnt q s i < 2 ↔ ∀ j, 0 < j → j < i → qa q s j = false)
  | 0, h => by omega
  | i + 1, _ => by
    rw [cnt]
    by_cases h : i = 0
    · subst h
      rw [if_pos (Or.inl rfl)]
      simp only [cnt]
      exact ⟨fun _ j h1 h2 => by omega, fun _ => by omega⟩
    · have ih := cnt_one s i (by omega)
      have hp := cnt_pos (q := q) s i (by omega)
      by_cases hq : qa q s i = true
      · rw [if_pos (Or.inr hq)]
        constructor
        · intro h; omega
        · intro h1; have := h1 i (by omega) (by omega); rw [hq] at this; cases this
      · rw [if_neg (by simp [h, hq]), Nat.add_zero, ih]
        constructor
        · intro h1 j h2 h3
          by_cases e : j = i
          · subst e; simpa using hq
          · exact h1 j h2 (by omega)
        · intro h1 j h2 h3; exact h1 j h2 (by omega)

theorem pcs_len (s : List UInt8) : (pcs q s).length = cnt q s s.length := pc_len s _
end

end Go.Proofs.YtdpmjaelbjjanaaGreat.Wf.Bq

namespace Go.Proofs.YtdpmjaelbjjanaaGreat.Mk
set_option linter.unusedVariables false
set_option linter.unusedSimpArgs false

/-- The text of the i-th mark. -/
def mT (L : List (List UInt8)) (i : Nat) : List UInt8 := L.getD i []
/-- Does a text begin with another one? -/
def bgn (s t : List UInt8) : Bool := decide (t.length ≤ s.length ∧ s.take t.length = t)
/-- The longest one of the first k that begins a text: one more than its place; 0: none does. -/
def bst (L : List (List UInt8)) (s : List UInt8) : Nat → Nat
  | 0 => 0
  | k + 1 => if bgn s (mT L k) = true ∧ (bst L s k = 0 ∨ (mT L (bst L s k - 1)).length < (mT L k).length) then k + 1 else bst L s k
/-- The bytes of items. -/
def itm (L : List (List UInt8)) (x : Int) : Option (List UInt8) := if 0 ≤ x ∧ x ≤ 255 then some [UInt8.ofNat x.toNat] else if x < 0 ∧ -(L.length : Int) ≤ x then some (mT L (-1 - x).toNat) else none
end Go.Proofs.YtdpmjaelbjjanaaGreat.Mk
