/- Where bytes are cut: the plain mathematics. -/
import Derived.Test.YtlfffalfnnmliaaProg
namespace Go.Proofs.Ytlfffalfnnmliaa
set_option linter.unusedVariables false
set_option linter.unusedSimpArgs false

/-- A class is right; a join is. -/
def kC (c : Int × Int × Int) : Prop := 0 ≤ c.1 ∧ c.1 ≤ c.2.1 ∧ c.2.1 ≤ 255 ∧ 0 ≤ c.2.2 ∧ c.2.2 ≤ 15
def kJ (j : Int × Int) : Prop := 0 ≤ j.1 ∧ j.1 ≤ 15 ∧ 0 ≤ j.2 ∧ j.2 ≤ 15
def spn (c : Int × Int × Int) (b : Int) : Prop := c.1 ≤ b ∧ b ≤ c.2.1
open Classical in
/-- A byte's class: the last one's in whose span it is. -/
def cls (C : List (Int × Int × Int)) (b : Int) : Int := C.foldl (fun a c => if c.1 ≤ b ∧ b ≤ c.2.1 then c.2.2 else a) 0
theorem cls_snoc (C : List (Int × Int × Int)) (c : Int × Int × Int) (b : Int) : cls (C ++ [c]) b = if c.1 ≤ b ∧ b ≤ c.2.1 then c.2.2 else cls C b := by
  unfold cls
  rw [List.foldl_append]
  rfl
def gC (C : List (Int × Int × Int)) (k : Nat) : Int × Int × Int := C.getD k (0, 0, 0)
def gJ (C : List (Int × Int)) (k : Nat) : Int × Int := C.getD k (0, 0)
theorem gC_take (C : List (Int × Int × Int)) {k : Nat} (h : k < C.length) : C.take (k + 1) = C.take k ++ [gC C k] := by
  rw [List.take_succ_eq_append_getElem h]
  unfold gC
  rw [List.getD_eq_getElem?_getD, List.getElem?_eq_getElem h]
  rfl
theorem gJ_take (C : List (Int × Int)) {k : Nat} (h : k < C.length) : C.take (k + 1) = C.take k ++ [gJ C k] := by
  rw [List.take_succ_eq_append_getElem h]
  unfold gJ
  rw [List.getD_eq_getElem?_getD, List.getElem?_eq_getElem h]
  rfl
theorem gC_mem (C : List (Int × Int × Int)) {k : Nat} (h : k < C.length) : gC C k ∈ C := by
  unfold gC
  rw [List.getD_eq_getElem?_getD, List.getElem?_eq_getElem h]
  exact List.getElem_mem h
theorem gJ_mem (C : List (Int × Int)) {k : Nat} (h : k < C.length) : gJ C k ∈ C := by
  unfold gJ
  rw [List.getD_eq_getElem?_getD, List.getElem?_eq_getElem h]
  exact List.getElem_mem h
theorem mem_gC {C : List (Int × Int × Int)} {c : Int × Int × Int} (h : c ∈ C) : ∃ k, k < C.length ∧ gC C k = c := by
  obtain ⟨k, hk, e⟩ := List.getElem_of_mem h
  exact ⟨k, hk, by unfold gC; rw [List.getD_eq_getElem?_getD, List.getElem?_eq_getElem hk]; exact e⟩
theorem mem_gJ {C : List (Int × Int)} {c : Int × Int} (h : c ∈ C) : ∃ k, k < C.length ∧ gJ C k = c := by
  obtain ⟨k, hk, e⟩ := List.getElem_of_mem h
  exact ⟨k, hk, by unfold gJ; rw [List.getD_eq_getElem?_getD, List.getElem?_eq_getElem hk]; exact e⟩
/-- Looked for from behind. -/
theorem cls_none (C : List (Int × Int × Int)) (b : Int) : ∀ k, k ≤ C.length → (∀ i, i < k → ¬ spn (gC C i) b) → cls (C.take k) b = 0
  | 0, _, _ => by simp [cls]
  | k + 1, h, hn => by
    rw [gC_take C (by omega), cls_snoc, if_neg (by have := hn k (by omega); unfold spn at this; exact this)]
    exact cls_none C b k (by omega) (fun i hi => hn i (by omega))
theorem cls_at (C : List (Int × Int × Int)) (b : Int) (k : Nat) (hs : spn (gC C k) b) : ∀ n, n ≤ C.length → k < n → (∀ i, k < i → i < n → ¬ spn (gC C i) b) → cls (C.take n) b = (gC C k).2.2
  | 0, _, h, _ => by omega
  | n + 1, hl, h, hn => by
    rw [gC_take C (by omega), cls_snoc]
    by_cases e : k = n
    · subst e
      unfold spn at hs
      rw [if_pos hs]
    · rw [if_neg (by have := hn n (by omega) (by omega); unfold spn at this; exact this)]
      exact cls_at C b k hs n (by omega) (by omega) (fun i h1 h2 => hn i h1 (by omega))
theorem cls_range {C : List (Int × Int × Int)} (h : ∀ c ∈ C, kC c) (b : Int) : ∀ k, k ≤ C.length → 0 ≤ cls (C.take k) b ∧ cls (C.take k) b ≤ 15
  | 0, _ => by simp [cls]
  | k + 1, hl => by
    rw [gC_take C (by omega), cls_snoc]
    have h1 := h _ (gC_mem C (show k < C.length by omega))
    have h2 := cls_range h b k (by omega)
    unfold kC at h1
    split <;> omega
theorem cls_range' {C : List (Int × Int × Int)} (h : ∀ c ∈ C, kC c) (b : Int) : 0 ≤ cls C b ∧ cls C b ≤ 15 := by
  have := cls_range h b C.length (Nat.le_refl _)
  rwa [List.take_length] at this

/-- Is it cut between two bytes? -/
def cutP (C : List (Int × Int × Int)) (J : List (Int × Int)) (a b : Int) : Bool := decide (cls C a ≠ cls C b ∧ (cls C a, cls C b) ∉ J)

section
variable (q : Int → Int → Bool)
/-- Is it cut ahead of the place i of a text? -/
def qa (s : List UInt8) (i : Nat) : Bool := q ((s.getD (i - 1) 0).toNat : Int) ((s.getD i 0).toNat : Int)
/-- Pieces of the first i bytes. -/
def pc (s : List UInt8) : Nat → List (List UInt8)
  | 0 => []
  | i + 1 => if i = 0 ∨ qa q s i = true then pc s i ++ [[s.getD i 0]] else (pc s i).dropLast ++ [(pc s i).getLastD [] ++ [s.getD i 0]]
def pcs (s : List UInt8) : List (List UInt8) := pc q s s.length
variable {q}
theorem pc_step {s : List UInt8} {a : Nat} (ha : a = 0 ∨ qa q s a = true) : ∀ i, a < i → i ≤ s.length → (∀ j, a < j → j < i → qa q s j = false) → pc q s i = pc q s a ++ [(s.drop a).take (i - a)]
  | 0, h, _, _ => by omega
  | i + 1, h, hl, hn => by
    have hi : i < s.length := by omega
    rw [pc]
    by_cases e : a = i
    · subst e
      rw [if_pos ha]
      congr 2
      rw [List.getD_eq_getElem?_getD, List.getElem?_eq_getElem hi]
      have e1 : a + 1 - a = 1 := by omega
      rw [e1, List.drop_eq_getElem_cons hi]
      rfl
    · have hq := hn i (by omega) (by omega)
      rw [if_neg (by rw [hq]; simp; omega), pc_step ha i (by omega) (by omega) (fun j h1 h2 => hn j h1 (by omega))]
      simp only [List.dropLast_concat, List.getLastD_concat]
      congr 2
      rw [show i + 1 - a = (i - a) + 1 by omega, List.take_succ_eq_append_getElem (by simp; omega)]
      congr 2
      rw [List.getD_eq_getElem?_getD, List.getElem?_eq_getElem hi]
      simp
      congr 1
      omega
theorem pc_ne (s : List UInt8) : ∀ i, 0 < i → pc q s i ≠ []
  | 0, h => by omega
  | i + 1, _ => by rw [pc]; split <;> simp
theorem pc_flat (s : List UInt8) : ∀ i, i ≤ s.length → (pc q s i).flatten = s.take i
  | 0, _ => by simp [pc]
  | i + 1, h => by
    have hi : i < s.length := by omega
    have hg : s.getD i 0 = s[i] := by rw [List.getD_eq_getElem?_getD, List.getElem?_eq_getElem hi]; rfl
    rw [List.take_succ_eq_append_getElem hi, ← pc_flat s i (by omega), pc, hg]
    split
    · simp
    · rename_i hne
      have h0 := pc_ne (q := q) s i (by omega)
      obtain ⟨u, x, e⟩ : ∃ u x, pc q s i = u ++ [x] := ⟨_, _, (List.dropLast_concat_getLast h0).symm⟩
      rw [e]
      simp
/-- How many there are. -/
def cnt (q : Int → Int → Bool) (s : List UInt8) : Nat → Nat
  | 0 => 0
  | i + 1 => cnt q s i + if i = 0 ∨ qa q s i = true then 1 else 0
theorem pc_len (s : List UInt8) : ∀ i, (pc q s i).length = cnt q s i
  | 0 => rfl
  | i + 1 => by
    rw [pc, cnt]
    split
    · simp [pc_len s i]
    · rename_i hne
      have h0 := pc_ne (q := q) s i (by omega)
      have h1 := pc_len s i
      have h2 := List.length_pos_iff.2 h0
      simp
      omega
theorem cnt_le (s : List UInt8) : ∀ i, cnt q s i ≤ i
  | 0 => Nat.le_refl _
  | i + 1 => by rw [cnt]; have := cnt_le s i; split <;> omega
theorem cnt_pos (s : List UInt8) : ∀ i, 0 < i → 1 ≤ cnt q s i
  | 0, h => by omega
  | i + 1, _ => by
    rw [cnt]
    by_cases h : i = 0
    · rw [if_pos (Or.inl h)]; omega
    · have := cnt_pos s i (by omega); omega
/-- At most one: no cut. -/
theorem cnt_one (s : List UInt8) : ∀ i, 0 < i → (cnt q s i < 2 ↔ ∀ j, 0 < j → j < i → qa q s j = false)
  | 0, h => by omega
  | i + 1, _ => by
    rw [cnt]
    by_cases h : i = 0
    · subst h
      rw [if_pos (Or.inl rfl)]
      simp only [cnt]
      exact ⟨fun _ j h1 h2 => by omega, fun _ => by omega⟩
    · have ih := cnt_one s i (by omega)
      have hp := cnt_pos (q := q) s i (by omega)
      by_cases hq : qa q s i = true
      · rw [if_pos (Or.inr hq)]
        constructor
        · intro h; omega
        · intro h1; have := h1 i (by omega) (by omega); rw [hq] at this; cases this
      · rw [if_neg (by simp [h, hq]), Nat.add_zero, ih]
        constructor
        · intro h1 j h2 h3
          by_cases e : j = i
          · subst e; simpa using hq
          · exact h1 j h2 (by omega)
        · intro h1 j h2 h3; exact h1 j h2 (by omega)

theorem getD_left (a b : List UInt8) (i : Nat) (h : i < a.length) : (a ++ b).getD i 0 = a.getD i 0 := by
  rw [List.getD_eq_getElem?_getD, List.getD_eq_getElem?_getD, List.getElem?_append_left h]
theorem getD_right (a b : List UInt8) (i : Nat) (h : a.length ≤ i) : (a ++ b).getD i 0 = b.getD (i - a.length) 0 := by
  rw [List.getD_eq_getElem?_getD, List.getD_eq_getElem?_getD, List.getElem?_append_right h]
theorem qa_left (a b : List UInt8) (i : Nat) (h : i < a.length) : qa q (a ++ b) i = qa q a i := by
  unfold qa
  rw [getD_left _ _ _ h, getD_left _ _ _ (by omega)]
theorem cnt_left (a b : List UInt8) : ∀ i, i ≤ a.length → cnt q (a ++ b) i = cnt q a i
  | 0, _ => rfl
  | i + 1, h => by rw [cnt, cnt, cnt_left a b i (by omega), qa_left a b i (by omega)]
theorem qa_right (a b : List UInt8) (i : Nat) (h : 0 < i) : qa q (a ++ b) (a.length + i) = qa q b i := by
  unfold qa
  rw [getD_right _ _ _ (by omega), getD_right _ _ _ (by omega)]
  rw [show a.length + i - 1 - a.length = i - 1 by omega, show a.length + i - a.length = i by omega]
theorem cnt_both (a b : List UInt8) (ha : 0 < a.length) : ∀ i, 0 < i → i ≤ b.length → cnt q (a ++ b) (a.length + i) + (if qa q (a ++ b) a.length = true then 0 else 1) = cnt q a a.length + cnt q b i
  | 0, h, _ => by omega
  | i + 1, _, h => by
    rw [show a.length + (i + 1) = (a.length + i) + 1 by omega, cnt, cnt]
    by_cases e : i = 0
    · subst e
      rw [if_pos (Or.inl rfl : 0 = 0 ∨ qa q b 0 = true)]
      simp only [Nat.add_zero, cnt]
      rw [cnt_left a b _ (Nat.le_refl _)]
      by_cases hq : qa q (a ++ b) a.length = true
      · rw [if_pos (Or.inr hq), if_pos hq]
        try omega
      · rw [if_neg (by intro h; rcases h with h | h; · { omega }; · { exact hq h }), if_neg hq]
        try omega
    · have ih := cnt_both a b ha i (by omega) (by omega)
      rw [qa_right a b i (by omega)]
      have e1 : (a.length + i = 0 ∨ qa q b i = true) ↔ (i = 0 ∨ qa q b i = true) := by constructor <;> (rintro (h | h); · { omega }; · { exact Or.inr h })
      simp only [e1]
      omega
/-- Each piece is one, and it is cut ahead of each but the first. -/
structure Pcs (q : Int → Int → Bool) (l : List (List UInt8)) : Prop where
  ne : ∀ x ∈ l, x ≠ []
  wh : ∀ x ∈ l, ∀ j, 0 < j → j < x.length → qa q x j = false
  bw : ∀ u x y v, l = u ++ x :: y :: v → q ((x.getLastD 0).toNat : Int) ((y.headD 0).toNat : Int) = true
theorem pc_ok (s : List UInt8) : ∀ i, i ≤ s.length → Pcs q (pc q s i) ∧ (0 < i → ((pc q s i).getLastD []).getLastD 0 = s.getD (i - 1) 0)
  | 0, _ => ⟨⟨fun x h => by simp [pc] at h, fun x h => by simp [pc] at h, fun u x y v h => by simp [pc] at h⟩, fun h => by omega⟩
  | i + 1, h => by
    obtain ⟨ih, il⟩ := pc_ok s i (by omega)
    rw [pc]
    split
    · rename_i hq
      refine ⟨⟨?_, ?_, ?_⟩, ?_⟩
      · intro x hx
        rcases List.mem_append.1 hx with hx | hx
        · exact ih.ne x hx
        · simp at hx; rw [hx]; simp
      · intro x hx
        rcases List.mem_append.1 hx with hx | hx
        · exact ih.wh x hx
        · simp at hx; rw [hx]; intro j h1 h2; simp at h2; omega
      · intro u x y v e
        rcases List.eq_nil_or_concat v with rfl | ⟨v', z, rfl⟩
        · have e2 : pc q s i ++ [[s.getD i 0]] = (u ++ [x]) ++ [y] := by rw [e]; simp
          obtain ⟨e3, e4⟩ := List.append_inj' e2 rfl
          simp only [List.cons.injEq, and_true] at e4
          have hi : 0 < i := by
            rcases Nat.eq_zero_or_pos i with h0 | h0
            · subst h0; simp [pc] at e3
            · exact h0
          have hl := il hi
          rw [e3, List.getLastD_concat] at hl
          rcases hq with h0 | hq
          · omega
          · unfold qa at hq
            rw [hl, ← e4]
            exact hq
        · have e2 : pc q s i ++ [[s.getD i 0]] = (u ++ x :: y :: v') ++ [z] := by rw [e]; simp
          obtain ⟨e3, e4⟩ := List.append_inj' e2 rfl
          exact ih.bw u x y v' e3
      · intro _
        simp
    · rename_i hq
      have hi : 0 < i := by
        rcases Nat.eq_zero_or_pos i with h0 | h0
        · exact absurd (Or.inl h0) hq
        · exact h0
      have h0 := pc_ne (q := q) s i hi
      have hl := il hi
      obtain ⟨w, z, ez⟩ : ∃ w z, pc q s i = w ++ [z] := ⟨_, _, (List.dropLast_concat_getLast h0).symm⟩
      rw [ez] at ih hl ⊢
      simp only [List.dropLast_concat, List.getLastD_concat] at hl ⊢
      have hzne := ih.ne z (by simp)
      have hzp : 0 < z.length := List.length_pos_iff.2 hzne
      refine ⟨⟨?_, ?_, ?_⟩, ?_⟩
      · intro x hx
        rcases List.mem_append.1 hx with hx | hx
        · exact ih.ne x (List.mem_append_left _ hx)
        · simp at hx; rw [hx]; simp
      · intro x hx
        rcases List.mem_append.1 hx with hx | hx
        · exact ih.wh x (List.mem_append_left _ hx)
        · simp only [List.mem_singleton] at hx
          rw [hx]
          intro j h1 h2
          rw [List.length_append, List.length_singleton] at h2
          by_cases e : j < z.length
          · rw [qa_left z _ j e]; exact ih.wh z (by simp) j h1 e
          · obtain rfl : j = z.length := by omega
            have e1 : (z ++ [s.getD i 0]).getD (z.length - 1) 0 = s.getD (i - 1) 0 := by
              rw [getD_left _ _ _ (by omega), ← hl]
              rw [List.getLastD_eq_getLast?, List.getLast?_eq_getElem?, List.getD_eq_getElem?_getD]
            have e2 : (z ++ [s.getD i 0]).getD z.length 0 = s.getD i 0 := by
              rw [getD_right _ _ _ (Nat.le_refl _)]
              simp
            unfold qa
            rw [e1, e2]
            have := fun h => hq (Or.inr h)
            unfold qa at this
            simpa using this
      · intro u x y v e
        rcases List.eq_nil_or_concat v with rfl | ⟨v', z', rfl⟩
        · have e2 : w ++ [z ++ [s.getD i 0]] = (u ++ [x]) ++ [y] := by rw [e]; simp
          obtain ⟨e3, e4⟩ := List.append_inj' e2 rfl
          simp only [List.cons.injEq, and_true] at e4
          have := ih.bw u x z [] (by rw [e3]; simp)
          rw [← e4]
          cases z with
          | nil => exact absurd rfl hzne
          | cons c r => simpa using this
        · have e2 : w ++ [z ++ [s.getD i 0]] = (u ++ x :: y :: v') ++ [z'] := by rw [e]; simp
          obtain ⟨e3, e4⟩ := List.append_inj' e2 rfl
          exact ih.bw u x y (v' ++ [z]) (by rw [e3]; simp)
      · intro _
        simp
theorem pcs_ok (s : List UInt8) : Pcs q (pcs q s) := (pc_ok s _ (Nat.le_refl _)).1
theorem pcs_flat (s : List UInt8) : (pcs q s).flatten = s := by
  unfold pcs
  rw [pc_flat s _ (Nat.le_refl _), List.take_length]
theorem pcs_len (s : List UInt8) : (pcs q s).length = cnt q s s.length := pc_len s _
end

end Go.Proofs.Ytlfffalfnnmliaa
