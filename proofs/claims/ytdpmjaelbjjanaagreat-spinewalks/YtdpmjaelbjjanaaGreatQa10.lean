/- Where bytes are cut: the plain mathematics. Special tokens in texts: the plain mathematics. -/
import Derived.Test.YtdpmjaelbjjanaaGreatProg
namespace Go.Proofs.YtdpmjaelbjjanaaGreat.Wf.Bq
set_option linter.unusedVariables false
set_option linter.unusedSimpArgs false

/-- A class is right; a join is. -/
def kC (c : Int × Int × Int) : Prop := 0 ≤ c.1 ∧ c.1 ≤ c.2.1 ∧ c.2.1 ≤ 255 ∧ 0 ≤ c.2.2 ∧ c.2.2 ≤ 15
def kJ (j : Int × Int) : Prop := 0 ≤ j.1 ∧ j.1 ≤ 15 ∧ 0 ≤ j.2 ∧ j.2 ≤ 15
def spn (c : Int × Int × Int) (b : Int) : Prop := c.1 ≤ b ∧ b ≤ c.2.1
open Classical in
/-- A byte's class: the last one's in whose span it is. -/
def cls (C : List (Int × Int × Int)) (b : Int) : Int := C.foldl (fun a c => if c.1 ≤ b ∧ b ≤ c.2.1 then c.2.2 else a) 0
theorem cls_snoc (C : List (Int × Int × Int)) (c : Int × Int × Int) (b : Int) : cls (C ++ [c]) b = if c.1 ≤ b ∧ b ≤ c.2.1 then c.2.2 else cls C b := by
  unfold cls
  rw [List.foldl_append]
  rfl
def gC (C : List (Int × Int × Int)) (k : Nat) : Int × Int × Int := C.getD k (0, 0, 0)
def gJ (C : List (Int × Int)) (k : Nat) : Int × Int := C.getD k (0, 0)
theorem gC_take (C : List (Int × Int × Int)) {k : Nat} (h : k < C.length) : C.take (k + 1) = C.take k ++ [gC C k] := by
  rw [List.take_succ_eq_append_getElem h]
  unfold gC
  rw [List.getD_eq_getElem?_getD, List.getElem?_eq_getElem h]
  rfl
theorem gJ_take (C : List (Int × Int)) {k : Nat} (h : k < C.length) : C.take (k + 1) = C.take k ++ [gJ C k] := by
  rw [List.take_succ_eq_append_getElem h]
  unfold gJ
  rw [List.getD_eq_getElem?_getD, List.getElem?_eq_getElem h]
  rfl
theorem gC_mem (C : List (Int × Int × Int)) {k : Nat} (h : k < C.length) : gC C k ∈ C := by
  unfold gC
  rw [List.getD_eq_getElem?_getD, List.getElem?_eq_getElem h]
  exact List.getElem_mem h
theorem gJ_mem (C : List (Int × Int)) {k : Nat} (h : k < C.length) : gJ C k ∈ C := by
  unfold gJ
  rw [List.getD_eq_getElem?_getD, List.getElem?_eq_getElem h]
  exact List.getElem_mem h
theorem mem_gC {C : List (Int × Int × Int)} {c : Int × Int × Int} (h : c ∈ C) : ∃ k, k < C.length ∧ gC C k = c := by
  obtain ⟨k, hk, e⟩ := List.getElem_of_mem h
  exact ⟨k, hk, by unfold gC; rw [List.getD_eq_getElem?_getD, List.getElem?_eq_getElem hk]; exact e⟩
theorem mem_gJ {C : List (Int × Int)} {c : Int × Int} (h : c ∈ C) : ∃ k, k < C.length ∧ gJ C k = c := by
  obtain ⟨k, hk, e⟩ := List.getElem_of_mem h
  exact ⟨k, hk, by unfold gJ; rw [List.getD_eq_getElem?_getD, List.getElem?_eq_getElem hk]; exact e⟩
/-- Looked for from behind. -/
theorem cls_none (C : List (Int × Int × Int)) (b : Int) : ∀ k, k ≤ C.length → (∀ i, i < k → ¬ spn (gC C i) b) → cls (C.take k) b = 0
  | 0, _, _ => by simp [cls]
  | k + 1, h, hn => by
    rw [gC_take C (by omega), cls_snoc, if_neg (by have := hn k (by omega); unfold spn at this; exact this)]
    exact cls_none C b k (by omega) (fun i hi => hn i (by omega))
theorem cls_at (C : List (Int × Int × Int)) (b : Int) (k : Nat) (hs : spn (gC C k) b) : ∀ n, n ≤ C.length → k < n → (∀ i, k < i → i < n → ¬ spn (gC C i) b) → cls (C.take n) b = (gC C k).2.2
  | 0, _, h, _ => by omega
  | n + 1, hl, h, hn => by
    rw [gC_take C (by omega), cls_snoc]
    by_cases e : k = n
    · subst e
      unfold spn at hs
      rw [if_pos hs]
    · rw [if_neg (by have := hn n (by omega) (by omega); unfold spn at this; exact this)]
      exact cls_at C b k hs n (by omega) (by omega) (fun i h1 h2 => hn i h1 (by omega))
theorem cls_range {C : List (Int × Int × Int)} (h : ∀ c ∈ C, kC c) (b : Int) : ∀ k, k ≤ C.length → 0 ≤ cls (C.take k) b ∧ cls (C.take k) b ≤ 15
  | 0, _ => by simp [cls]
  | k + 1, hl => by
    rw [gC_take C (by omega), cls_snoc]
    have h1 := h _ (gC_mem C (show k < C.length by omega))
    have h2 := cls_range h b k (by omega)
    unfold kC at h1
    split <;> omega
theorem cls_range' {C : List (Int × Int × Int)} (h : ∀ c ∈ C, kC c) (b : Int) : 0 ≤ cls C b ∧ cls C b ≤ 15 := by
  have := cls_range h b C.length (Nat.le_refl _)
  rwa [List.take_length] at this

/-- Is it cut between two bytes? -/
def cutP (C : List (Int × Int × Int)) (J : List (Int × Int)) (a b : Int) : Bool := decide (cls C a ≠ cls C b ∧ (cls C a, cls C b) ∉ J)

section
variable (q : Int → Int → Bool)
/-- Is it cut ahead of the place i of a text? -/
def qa (s : List UInt8) (i : Nat) : Bool := q ((s.getD (i - 1) 0).toNat : Int) ((s.getD i 0).toNat : Int)
/-- Pieces of the first i bytes. -/
def pc (s : List UInt8) : Nat → List (List UInt8)
  | 0 => []
  | i + 1 => if i = 0 ∨ qa q s i = true then pc s i ++ [[s.getD i 0]] else (pc s i).dropLast ++ [(pc s i).getLastD [] ++ [s.getD i 0]]
def pcs (s : List UInt8) : List (List UInt8) := pc q s s.length
variable {q}
theorem pc_step {s : List UInt8} {a : Nat} (ha : a = 0 ∨ qa q s a = true) : ∀ i, a < i → i ≤ s.length → (∀ j, a < j → j < i → qa q s j = false) → pc q s i = pc q s a ++ [(s.drop a).take (i - a)]
  | 0, h, _, _ => by omega
  | i + 1, h, hl, hn => by
    have hi : i < s.length := by omega
    rw [pc]
    by_cases e : a = i
    · subst e
      rw [if_pos ha]
      congr 2
      rw [List.getD_eq_getElem?_getD, List.getElem?_eq_getElem hi]
      have e1 : a + 1 - a = 1 := by omega
      rw [e1, List.drop_eq_getElem_cons hi]
      rfl
    · have hq := hn i (by omega) (by omega)
      rw [if_neg (by rw [hq]; simp; omega), pc_step ha i (by omega) (by omega) (fun j h1 h2 => hn j h1 (by omega))]
      simp only [List.dropLast_concat, List.getLastD_concat]
      congr 2
      rw [show i + 1 - a = (i - a) + 1 by omega, List.take_succ_eq_append_getElem (by simp; omega)]
      congr 2
      rw [List.getD_eq_getElem?_getD, List.getElem?_eq_getElem hi]
      simp
      congr 1
      omega
theorem pc_ne (s : List UInt8) : ∀ i, 0 < i → pc q s i ≠ []
  | 0, h => by omega
  | i + 1, _ => by rw [pc]; split <;> simp
theorem pc_flat (s : List UInt8) : ∀ i, i ≤ s.length → (pc q s i).flatten = s.take i
  | 0, _ => by simp [pc]
  | i + 1, h => by
    have hi : i < s.length := by omega
    have hg : s.getD i 0 = s[i] := by rw [List.getD_eq_getElem?_getD, List.getElem?_eq_getElem hi]; rfl
    rw [List.take_succ_eq_append_getElem hi, ← pc_flat s i (by omega), pc, hg]
    split
    · simp
    · rename_i hne
      have h0 := pc_ne (q := q) s i (by omega)
      obtain ⟨u, x, e⟩ : ∃ u x, pc q s i = u ++ [x] := ⟨_, _, (List.dropLast_concat_getLast h0).symm⟩
      rw [e]
      simp
/-- How many there are. -/
def cnt (q : Int → Int → Bool) (s : List UInt8) : Nat → Nat
  | 0 => 0
  | i + 1 => cnt q s i + if i = 0 ∨ qa q s i = true then 1 else 0
theorem pc_len (s : List UInt8) : ∀ i, (pc q s i).length = cnt q s i
  | 0 => rfl
  | i + 1 => by
    rw [pc, cnt]
    split
    · simp [pc_len s i]
    · rename_i hne
      have h0 := pc_ne (q := q) s i (by omega)
      have h1 := pc_len s i
      have h2 := List.length_pos_iff.2 h0
      simp
      omega
theorem cnt_le (s : List UInt8) : ∀ i, cnt q s i ≤ i
  | 0 => Nat.le_refl _
  | i + 1 => by rw [cnt]; have := cnt_le s i; split <;> omega
theorem cnt_pos (s : List UInt8) : ∀ i, 0 < i → 1 ≤ cnt q s i
  | 0, h => by omega
  | i + 1, _ => by
    rw [cnt]
    by_cases h : i = 0
    · rw [if_pos (Or.inl h)]; omega
    · have := cnt_pos s i (by omega); omega
/-- At most one: no cut. -/
theorem cnt_one (s : List UInt8) : ∀ i, 0 < i → (cnt q s i < 2 ↔ ∀ j, 0 < j → j < i → qa q s j = false)
  | 0, h => by omega
  | i + 1, _ => by
    rw [cnt]
    by_cases h : i = 0
    · subst h
      rw [if_pos (Or.inl rfl)]
      simp only [cnt]
      exact ⟨fun _ j h1 h2 => by omega, fun _ => by omega⟩
    · have ih := cnt_one s i (by omega)
      have hp := cnt_pos (q := q) s i (by omega)
      by_cases hq : qa q s i = true
      · rw [if_pos (Or.inr hq)]
        constructor
        · intro h; omega
        · intro h1; have := h1 i (by omega) (by omega); rw [hq] at this; cases this
      · rw [if_neg (by simp [h, hq]), Nat.add_zero, ih]
        constructor
        · intro h1 j h2 h3
          by_cases e : j = i
          · subst e; simpa using hq
          · exact h1 j h2 (by omega)
        · intro h1 j h2 h3; exact h1 j h2 (by omega)

theorem getD_left (a b : List UInt8) (i : Nat) (h : i < a.length) : (a ++ b).getD i 0 = a.getD i 0 := by
  rw [List.getD_eq_getElem?_getD, List.getD_eq_getElem?_getD, List.getElem?_append_left h]
theorem getD_right (a b : List UInt8) (i : Nat) (h : a.length ≤ i) : (a ++ b).getD i 0 = b.getD (i - a.length) 0 := by
  rw [List.getD_eq_getElem?_getD, List.getD_eq_getElem?_getD, List.getElem?_append_right h]
theorem qa_left (a b : List UInt8) (i : Nat) (h : i < a.length) : qa q (a ++ b) i = qa q a i := by
  unfold qa
  rw [getD_left _ _ _ h, getD_left _ _ _ (by omega)]
theorem cnt_left (a b : List UInt8) : ∀ i, i ≤ a.length → cnt q (a ++ b) i = cnt q a i
  | 0, _ => rfl
  | i + 1, h => by rw [cnt, cnt, cnt_left a b i (by omega), qa_left a b i (by omega)]
theorem qa_right (a b : List UInt8) (i : Nat) (h : 0 < i) : qa q (a ++ b) (a.length + i) = qa q b i := by
  unfold qa
  rw [getD_right _ _ _ (by omega), getD_right _ _ _ (by omega)]
  rw [show a.length + i - 1 - a.length = i - 1 by omega, show a.length + i - a.length = i by omega]
theorem cnt_both (a b : List UInt8) (ha : 0 < a.length) : ∀ i, 0 < i → i ≤ b.length → cnt q (a ++ b) (a.length + i) + (if qa q (a ++ b) a.length = true then 0 else 1) = cnt q a a.length + cnt q b i
  | 0, h, _ => by omega
  | i + 1, _, h => by
    rw [show a.length + (i + 1) = (a.length + i) + 1 by omega, cnt, cnt]
    by_cases e : i = 0
    · subst e
      rw [if_pos (Or.inl rfl : 0 = 0 ∨ qa q b 0 = true)]
      simp only [Nat.add_zero, cnt]
      rw [cnt_left a b _ (Nat.le_refl _)]
      by_cases hq : qa q (a ++ b) a.length = true
      · rw [if_pos (Or.inr hq), if_pos hq]
        try omega
      · rw [if_neg (by intro h; rcases h with h | h; · { omega }; · { exact hq h }), if_neg hq]
        try omega
    · have ih := cnt_both a b ha i (by omega) (by omega)
      rw [qa_right a b i (by omega)]
      have e1 : (a.length + i = 0 ∨ qa q b i = true) ↔ (i = 0 ∨ qa q b i = true) := by constructor <;> (rintro (h | h); · { omega }; · { exact Or.inr h })
      simp only [e1]
      omega
/-- Each piece is one, and it is cut ahead of each but the first. -/
structure Pcs (q : Int → Int → Bool) (l : List (List UInt8)) : Prop where
  ne : ∀ x ∈ l, x ≠ []
  wh : ∀ x ∈ l, ∀ j, 0 < j → j < x.length → qa q x j = false
  bw : ∀ u x y v, l = u ++ x :: y :: v → q ((x.getLastD 0).toNat : Int) ((y.headD 0).toNat : Int) = true
theorem pc_ok (s : List UInt8) : ∀ i, i ≤ s.length → Pcs q (pc q s i) ∧ (0 < i → ((pc q s i).getLastD []).getLastD 0 = s.getD (i - 1) 0)
  | 0, _ => ⟨⟨fun x h => by simp [pc] at h, fun x h => by simp [pc] at h, fun u x y v h => by simp [pc] at h⟩, fun h => by omega⟩
  | i + 1, h => by
    obtain ⟨ih, il⟩ := pc_ok s i (by omega)
    rw [pc]
    split
    · rename_i hq
      refine ⟨⟨?_, ?_, ?_⟩, ?_⟩
      · intro x hx
        rcases List.mem_append.1 hx with hx | hx
        · exact ih.ne x hx
        · simp at hx; rw [hx]; simp
      · intro x hx
        rcases List.mem_append.1 hx with hx | hx
        · exact ih.wh x hx
        · simp at hx; rw [hx]; intro j h1 h2; simp at h2; omega
      · intro u x y v e
        rcases List.eq_nil_or_concat v with rfl | ⟨v', z, rfl⟩
        · have e2 : pc q s i ++ [[s.getD i 0]] = (u ++ [x]) ++ [y] := by rw [e]; simp
          obtain ⟨e3, e4⟩ := List.append_inj' e2 rfl
          simp only [List.cons.injEq, and_true] at e4
          have hi : 0 < i := by
            rcases Nat.eq_zero_or_pos i with h0 | h0
            · subst h0; simp [pc] at e3
            · exact h0
          have hl := il hi
          rw [e3, List.getLastD_concat] at hl
          rcases hq with h0 | hq
          · omega
          · unfold qa at hq
            rw [hl, ← e4]
            exact hq
        · have e2 : pc q s i ++ [[s.getD i 0]] = (u ++ x :: y :: v') ++ [z] := by rw [e]; simp
          obtain ⟨e3, e4⟩ := List.append_inj' e2 rfl
          exact ih.bw u x y v' e3
      · intro _
        simp
    · rename_i hq
      have hi : 0 < i := by
        rcases Nat.eq_zero_or_pos i with h0 | h0
        · exact absurd (Or.inl h0) hq
        · exact h0
      have h0 := pc_ne (q := q) s i hi
      have hl := il hi
      obtain ⟨w, z, ez⟩ : ∃ w z, pc q s i = w ++ [z] := ⟨_, _, (List.dropLast_concat_getLast h0).symm⟩
      rw [ez] at ih hl ⊢
      simp only [List.dropLast_concat, List.getLastD_concat] at hl ⊢
      have hzne := ih.ne z (by simp)
      have hzp : 0 < z.length := List.length_pos_iff.2 hzne
      refine ⟨⟨?_, ?_, ?_⟩, ?_⟩
      · intro x hx
        rcases List.mem_append.1 hx with hx | hx
        · exact ih.ne x (List.mem_append_left _ hx)
        · simp at hx; rw [hx]; simp
      · intro x hx
        rcases List.mem_append.1 hx with hx | hx
        · exact ih.wh x (List.mem_append_left _ hx)
        · simp only [List.mem_singleton] at hx
          rw [hx]
          intro j h1 h2
          rw [List.length_append, List.length_singleton] at h2
          by_cases e : j < z.length
          · rw [qa_left z _ j e]; exact ih.wh z (by simp) j h1 e
          · obtain rfl : j = z.length := by omega
            have e1 : (z ++ [s.getD i 0]).getD (z.length - 1) 0 = s.getD (i - 1) 0 := by
              rw [getD_left _ _ _ (by omega), ← hl]
              rw [List.getLastD_eq_getLast?, List.getLast?_eq_getElem?, List.getD_eq_getElem?_getD]
            have e2 : (z ++ [s.getD i 0]).getD z.length 0 = s.getD i 0 := by
              rw [getD_right _ _ _ (Nat.le_refl _)]
              simp
            unfold qa
            rw [e1, e2]
            have := fun h => hq (Or.inr h)
            unfold qa at this
            simpa using this
      · intro u x y v e
        rcases List.eq_nil_or_concat v with rfl | ⟨v', z', rfl⟩
        · have e2 : w ++ [z ++ [s.getD i 0]] = (u ++ [x]) ++ [y] := by rw [e]; simp
          obtain ⟨e3, e4⟩ := List.append_inj' e2 rfl
          simp only [List.cons.injEq, and_true] at e4
          have := ih.bw u x z [] (by rw [e3]; simp)
          rw [← e4]
          cases z with
          | nil => exact absurd rfl hzne
          | cons c r => simpa using this
        · have e2 : w ++ [z ++ [s.getD i 0]] = (u ++ x :: y :: v') ++ [z'] := by rw [e]; simp
          obtain ⟨e3, e4⟩ := List.append_inj' e2 rfl
          exact ih.bw u x y (v' ++ [z]) (by rw [e3]; simp)
      · intro _
        simp
theorem pcs_ok (s : List UInt8) : Pcs q (pcs q s) := (pc_ok s _ (Nat.le_refl _)).1
theorem pcs_flat (s : List UInt8) : (pcs q s).flatten = s := by
  unfold pcs
  rw [pc_flat s _ (Nat.le_refl _), List.take_length]
theorem pcs_len (s : List UInt8) : (pcs q s).length = cnt q s s.length := pc_len s _
end

end Go.Proofs.YtdpmjaelbjjanaaGreat.Wf.Bq

namespace Go.Proofs.YtdpmjaelbjjanaaGreat.Mk
set_option linter.unusedVariables false
set_option linter.unusedSimpArgs false

/-- The text of the i-th mark. -/
def mT (L : List (List UInt8)) (i : Nat) : List UInt8 := L.getD i []
/-- Does a text begin with another one? -/
def bgn (s t : List UInt8) : Bool := decide (t.length ≤ s.length ∧ s.take t.length = t)
/-- The longest one of the first k that begins a text: one more than its place; 0: none does. -/
def bst (L : List (List UInt8)) (s : List UInt8) : Nat → Nat
  | 0 => 0
  | k + 1 => if bgn s (mT L k) = true ∧ (bst L s k = 0 ∨ (mT L (bst L s k - 1)).length < (mT L k).length) then k + 1 else bst L s k
def atM (L : List (List UInt8)) (s : List UInt8) : Nat := bst L s L.length
theorem bst_le (L : List (List UInt8)) (s : List UInt8) : ∀ k, bst L s k ≤ k
  | 0 => Nat.le_refl _
  | k + 1 => by rw [bst]; have := bst_le L s k; split <;> omega
theorem bst_spec (L : List (List UInt8)) (s : List UInt8) : ∀ k, (bst L s k = 0 → ∀ i, i < k → bgn s (mT L i) = false) ∧ (0 < bst L s k → bgn s (mT L (bst L s k - 1)) = true ∧ ∀ i, i < k → bgn s (mT L i) = true → (mT L i).length ≤ (mT L (bst L s k - 1)).length)
  | 0 => ⟨fun _ i hi => by omega, fun h => by simp [bst] at h⟩
  | k + 1 => by
    obtain ⟨h0, h1⟩ := bst_spec L s k
    rw [bst]
    split
    · rename_i h
      refine ⟨fun e => by omega, fun _ => ⟨by simpa using h.1, fun i hi hb => ?_⟩⟩
      simp only [Nat.add_sub_cancel]
      by_cases e : i = k
      · subst e; exact Nat.le_refl _
      · rcases h.2 with hz | hz
        · rw [h0 hz i (by omega)] at hb; cases hb
        · have h2 := (h1 (by rcases Nat.eq_zero_or_pos (bst L s k) with h3 | h3; · { rw [h0 h3 i (by omega)] at hb; cases hb }; · { exact h3 })).2 i (by omega) hb
          omega
    · rename_i h
      refine ⟨fun e i hi => ?_, fun e => ⟨(h1 e).1, fun i hi hb => ?_⟩⟩
      · by_cases e2 : i = k
        · subst e2
          have : ¬ bgn s (mT L i) = true := fun hb => h ⟨hb, Or.inl e⟩
          simpa using this
        · exact h0 e i (by omega)
      · by_cases e2 : i = k
        · subst e2
          rcases Nat.lt_or_ge (mT L (bst L s i - 1)).length (mT L i).length with h3 | h3
          · exact absurd ⟨hb, Or.inr h3⟩ h
          · exact h3
        · exact (h1 e).2 i (by omega) hb
/-- Texts that are unlike, none of them empty. -/
structure MkOk (L : List (List UInt8)) : Prop where
  ne : ∀ i, i < L.length → 0 < (mT L i).length
  nd : ∀ i j, i < L.length → j < L.length → mT L i = mT L j → i = j
theorem at_none {L : List (List UInt8)} {s : List UInt8} : atM L s = 0 ↔ ∀ i, i < L.length → bgn s (mT L i) = false := by
  obtain ⟨h0, h1⟩ := bst_spec L s L.length
  constructor
  · exact h0
  · intro h
    rcases Nat.eq_zero_or_pos (atM L s) with h2 | h2
    · exact h2
    · have h3 := (h1 h2).1
      have h4 := bst_le L s L.length
      unfold atM at h2
      rw [h _ (by omega)] at h3
      cases h3
/-- The longest one is told, however it is found. -/
theorem at_uniq {L : List (List UInt8)} (hk : MkOk L) {s : List UInt8} {i : Nat} (hi : i < L.length) (hb : bgn s (mT L i) = true) (hm : ∀ j, j < L.length → bgn s (mT L j) = true → (mT L j).length ≤ (mT L i).length) : atM L s = i + 1 := by
  obtain ⟨h0, h1⟩ := bst_spec L s L.length
  have h4 := bst_le L s L.length
  have hp : 0 < atM L s := by
    rcases Nat.eq_zero_or_pos (atM L s) with h2 | h2
    · rw [h0 h2 i hi] at hb; cases hb
    · exact h2
  unfold atM at hp ⊢
  obtain ⟨h2, h3⟩ := h1 hp
  have l1 := h3 i hi hb
  have l2 := hm _ (by omega) h2
  have e : mT L (bst L s L.length - 1) = mT L i := by
    unfold bgn at hb h2
    simp only [decide_eq_true_eq] at hb h2
    rw [← hb.2, ← h2.2, show (mT L (bst L s L.length - 1)).length = (mT L i).length by omega]
  have := hk.nd _ _ (by omega) hi e
  omega
theorem at_bgn {L : List (List UInt8)} {s : List UInt8} (h : 0 < atM L s) : atM L s - 1 < L.length ∧ bgn s (mT L (atM L s - 1)) = true := by
  have h4 := bst_le L s L.length
  exact ⟨by unfold atM at *; omega, ((bst_spec L s L.length).2 h).1⟩
/-- Of fewer bytes behind a mark. -/
theorem bgn_drop {s t : List UInt8} (h : bgn s t = true) : t ++ s.drop t.length = s := by
  unfold bgn at h
  simp only [decide_eq_true_eq] at h
  have := List.take_append_drop t.length s
  rw [h.2] at this
  exact this

/-- A text's items, within so many steps. -/
def prs (L : List (List UInt8)) : Nat → List UInt8 → List Int
  | 0, _ => []
  | _ + 1, [] => []
  | n + 1, b :: r => if atM L (b :: r) = 0 then (b.toNat : Int) :: prs L n r else -(atM L (b :: r) : Int) :: prs L n ((b :: r).drop (mT L (atM L (b :: r) - 1)).length)
def parsM (L : List (List UInt8)) (s : List UInt8) : List Int := prs L s.length s
/-- Steps to spare change nothing. -/
theorem prs_more {L : List (List UInt8)} (hk : MkOk L) : ∀ n m s, s.length ≤ n → s.length ≤ m → prs L n s = prs L m s
  | 0, 0, s, h1, h2 => rfl
  | 0, m + 1, s, h1, h2 => by
    have : s = [] := List.length_eq_zero_iff.1 (by omega)
    subst this
    rfl
  | n + 1, 0, s, h1, h2 => by
    have : s = [] := List.length_eq_zero_iff.1 (by omega)
    subst this
    rfl
  | n + 1, m + 1, [], _, _ => rfl
  | n + 1, m + 1, b :: r, h1, h2 => by
    simp only [List.length_cons] at h1 h2
    rw [prs, prs]
    split
    · rw [prs_more hk n m r (by omega) (by omega)]
    · rename_i h
      obtain ⟨hi, _⟩ := at_bgn (L := L) (s := b :: r) (by omega)
      have hp := hk.ne _ hi
      rw [prs_more hk n m _ (by simp only [List.length_drop, List.length_cons]; omega) (by simp only [List.length_drop, List.length_cons]; omega)]
theorem pars_nil (L : List (List UInt8)) : parsM L [] = [] := rfl
theorem pars_byte {L : List (List UInt8)} (hk : MkOk L) {b : UInt8} {r : List UInt8} (h : atM L (b :: r) = 0) : parsM L (b :: r) = (b.toNat : Int) :: parsM L r := by
  unfold parsM
  rw [List.length_cons, prs, if_pos h]
theorem pars_mark {L : List (List UInt8)} (hk : MkOk L) {s : List UInt8} (h : 0 < atM L s) : parsM L s = -(atM L s : Int) :: parsM L (s.drop (mT L (atM L s - 1)).length) := by
  obtain ⟨hi, hb⟩ := at_bgn h
  have hp := hk.ne _ hi
  cases s with
  | nil =>
    unfold bgn at hb
    simp only [decide_eq_true_eq, List.length_nil] at hb
    omega
  | cons b r =>
    unfold parsM
    rw [List.length_cons, prs, if_neg (by omega)]
    congr 1
    exact prs_more hk _ _ _ (by simp only [List.length_drop, List.length_cons]; omega) (Nat.le_refl _)
/-- The bytes of items. -/
def itm (L : List (List UInt8)) (x : Int) : Option (List UInt8) := if 0 ≤ x ∧ x ≤ 255 then some [UInt8.ofNat x.toNat] else if x < 0 ∧ -(L.length : Int) ≤ x then some (mT L (-1 - x).toNat) else none
def rnd (L : List (List UInt8)) : List Int → Option (List UInt8)
  | [] => some []
  | x :: r => match itm L x, rnd L r with
    | some a, some b => some (a ++ b)
    | _, _ => none
/-- What is parsed is rendered as it was. -/
theorem rnd_prs {L : List (List UInt8)} (hk : MkOk L) : ∀ n s, s.length ≤ n → rnd L (prs L n s) = some s
  | 0, s, h => by
    have : s = [] := List.length_eq_zero_iff.1 (by omega)
    subst this
    rfl
  | n + 1, [], _ => rfl
  | n + 1, b :: r, h => by
    simp only [List.length_cons] at h
    rw [prs]
    split
    · have ih := rnd_prs hk n r (by omega)
      have hb := b.toNat_lt
      have hi : itm L (b.toNat : Int) = some [b] := by
        unfold itm
        rw [if_pos (by omega)]
        simp
      rw [rnd, hi, ih]
      rfl
    · rename_i h0
      obtain ⟨hi, hb⟩ := at_bgn (L := L) (s := b :: r) (by omega)
      have hp := hk.ne _ hi
      have ih := rnd_prs hk n ((b :: r).drop (mT L (atM L (b :: r) - 1)).length) (by simp only [List.length_drop, List.length_cons]; omega)
      have hm : itm L (-(atM L (b :: r) : Int)) = some (mT L (atM L (b :: r) - 1)) := by
        unfold itm
        rw [if_neg (by omega), if_pos (by omega)]
        congr 2
        omega
      rw [rnd, hm, ih]
      simp only
      rw [bgn_drop hb]
theorem rnd_pars {L : List (List UInt8)} (hk : MkOk L) (s : List UInt8) : rnd L (parsM L s) = some s := rnd_prs hk _ s (Nat.le_refl _)
theorem prs_len (L : List (List UInt8)) : ∀ n s, (prs L n s).length ≤ n
  | 0, _ => Nat.le_refl _
  | n + 1, [] => by simp [prs]
  | n + 1, b :: r => by
    rw [prs]
    split
    · have := prs_len L n r; simp; omega
    · have := prs_len L n ((b :: r).drop (mT L (atM L (b :: r) - 1)).length); simp at this ⊢; omega
theorem rnd_append (L : List (List UInt8)) : ∀ (u v : List Int), rnd L (u ++ v) = match rnd L u, rnd L v with | some a, some b => some (a ++ b) | _, _ => none
  | [], v => by
    simp only [List.nil_append, rnd]
    cases rnd L v <;> simp
  | x :: u, v => by
    simp only [List.cons_append, rnd]
    rw [rnd_append L u v]
    cases itm L x <;> cases rnd L u <;> cases rnd L v <;> simp

end Go.Proofs.YtdpmjaelbjjanaaGreat.Mk
