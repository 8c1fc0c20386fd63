/- Numbers told and read: the mathematics. -/
import Derived.Test.YtdpmjaelbjjanaaGreatQa1
import Derived.Lib.ItoaNum
import Derived.Lib.AtoiAll
import Derived.Lib.AtoiAllCases
namespace Go.Proofs.YtdpmjaelbjjanaaGreat.Wf
open Go.RowKit
set_option linter.unusedVariables false
set_option linter.unusedSimpArgs false

def IsD (c : UInt8) : Prop := 48 ≤ c.toNat ∧ c.toNat ≤ 57
instance (c : UInt8) : Decidable (IsD c) := by unfold IsD; infer_instance
def valA (acc : Nat) (l : List UInt8) : Nat := l.foldl (fun a c => a * 10 + (c.toNat - 48)) acc
def val (l : List UInt8) : Nat := valA 0 l
theorem valA_ge (l : List UInt8) (acc : Nat) : acc ≤ valA acc l := by
  induction l generalizing acc with
  | nil => exact Nat.le_refl _
  | cons c r ih => exact Nat.le_trans (by omega) (ih (acc * 10 + (c.toNat - 48)))
theorem val_snoc (l : List UInt8) (c : UInt8) : val (l ++ [c]) = val l * 10 + (c.toNat - 48) := by simp [val, valA]

theorem parseUint10_val (l : List UInt8) (acc : Nat) (hd : ∀ c ∈ l, IsD c) (h : valA acc l < 18446744073709551616) : Lib.parseUint10 acc l = .ok (valA acc l) := by
  induction l generalizing acc with
  | nil => rfl
  | cons c r ih =>
    have h1 : valA acc (c :: r) = valA (acc * 10 + (c.toNat - 48)) r := rfl
    have h2 := valA_ge r (acc * 10 + (c.toNat - 48))
    rw [h1] at h ⊢
    have hc := hd c (by simp)
    rw [Lib.parseUint10, if_pos (show 48 ≤ c.toNat ∧ c.toNat ≤ 57 from hc), if_neg (by omega), if_neg (by omega)]
    exact ih _ (fun c hc => hd c (by simp [hc])) h

theorem byte_of (n : Nat) (h : n < 10) : (UInt8.ofNat (48 + n)).toNat = 48 + n := by
  simp only [UInt8.toNat_ofNat']
  omega

theorem dec_ne (u : Nat) : Lib.decDigits u ≠ [] := by
  rw [Lib.decDigits]
  split <;> simp
theorem dec_isD (u : Nat) : ∀ c ∈ Lib.decDigits u, IsD c := by
  induction u using Nat.strongRecOn with
  | ind u ih =>
    rw [Lib.decDigits]
    split
    · rename_i h
      intro c hc
      simp only [List.mem_cons, List.not_mem_nil, or_false] at hc
      subst hc
      unfold IsD
      rw [byte_of u h]
      omega
    · intro c hc
      rw [List.mem_append] at hc
      rcases hc with hc | hc
      · exact ih (u / 10) (by omega) c hc
      · simp only [List.mem_cons, List.not_mem_nil, or_false] at hc
        subst hc
        unfold IsD
        rw [byte_of (u % 10) (by omega)]
        omega
theorem dec_val (u : Nat) : val (Lib.decDigits u) = u := by
  induction u using Nat.strongRecOn with
  | ind u ih =>
    rw [Lib.decDigits]
    split
    · rename_i h
      show (0 * 10 + ((UInt8.ofNat (48 + u)).toNat - 48)) = u
      rw [byte_of u h]
      omega
    · rw [val_snoc, ih (u / 10) (by omega), byte_of (u % 10) (by omega)]
      omega
theorem dec_head (u : Nat) (h1 : 1 ≤ u) : (Lib.decDigits u).getD 0 0 ≠ 48 := by
  induction u using Nat.strongRecOn with
  | ind u ih =>
    rw [Lib.decDigits]
    split
    · rename_i h
      intro e
      have e2 : (UInt8.ofNat (48 + u)).toNat = (48 : UInt8).toNat := congrArg UInt8.toNat e
      rw [byte_of u h] at e2
      have : (48 : UInt8).toNat = 48 := rfl
      omega
    · have := ih (u / 10) (by omega) (by omega)
      cases hd : Lib.decDigits (u / 10) with
      | nil => exact absurd hd (dec_ne _)
      | cons a r => rw [hd] at this; exact this
theorem dec_one (u : Nat) (h : 1 < (Lib.decDigits u).length) : 10 ≤ u := by
  rcases Nat.lt_or_ge u 10 with h1 | h1
  · rw [Lib.decDigits, dif_pos h1] at h
    simp at h
  · exact h1

theorem dec_of_val (n : Nat) : ∀ l : List UInt8, l.length = n → l ≠ [] → (∀ c ∈ l, IsD c) → (1 < l.length → l.getD 0 0 ≠ 48) → Lib.decDigits (val l) = l := by
  induction n with
  | zero => intro l hl hne; exact absurd (List.eq_nil_of_length_eq_zero hl) hne
  | succ n ih =>
    intro l hl hne hd h0
    rcases List.eq_nil_or_concat l with h | ⟨r, c, rfl⟩
    · exact absurd h hne
    · rw [List.concat_eq_append] at *
      have hc : IsD c := hd c (by simp)
      have hc2 : UInt8.ofNat (48 + (c.toNat - 48)) = c := by rw [show 48 + (c.toNat - 48) = c.toNat by unfold IsD at hc; omega]; exact UInt8.ofNat_toNat
      by_cases hr : r = []
      · subst hr
        have hv : val ([] ++ [c]) = c.toNat - 48 := by rw [val_snoc]; simp [val, valA]
        rw [hv, Lib.decDigits, dif_pos (by unfold IsD at hc; omega), hc2]
        rfl
      · have hlen : r.length = n := by simpa using hl
        have hpos : 0 < r.length := List.length_pos_iff.2 hr
        have hhead : (r ++ [c]).getD 0 0 = r.getD 0 0 := by
          cases r with
          | nil => exact absurd rfl hr
          | cons a q => rfl
        have hh : r.getD 0 0 ≠ 48 := by rw [← hhead]; exact h0 (by simp; omega)
        have hi := ih r hlen hr (fun c hc => hd c (by simp [hc])) (fun _ => hh)
        have hv1 : 1 ≤ val r := by
          rcases Nat.eq_zero_or_pos (val r) with h | h
          · rw [h, Lib.decDigits, dif_pos (by omega)] at hi
            rw [← hi] at hh
            exact absurd rfl hh
          · exact h
        rw [val_snoc, Lib.decDigits, dif_neg (by omega), show (val r * 10 + (c.toNat - 48)) / 10 = val r by unfold IsD at hc; omega, hi, show (val r * 10 + (c.toNat - 48)) % 10 = c.toNat - 48 by unfold IsD at hc; omega, hc2]

/-- The number that a text tells, at most 'most'. -/
def parseS (l : List UInt8) (most : Int) : Int × Bool := match Lib.atoiAll l with
  | .ok n => if 0 ≤ n ∧ n ≤ most ∧ Lib.itoa n = l then (n, true) else (0, false)
  | _ => (0, false)
def Good (l : List UInt8) (most : Int) : Prop := l ≠ [] ∧ (∀ c ∈ l, IsD c) ∧ (1 < l.length → l.getD 0 0 ≠ 48) ∧ val l ≤ 9223372036854775807 ∧ (val l : Int) ≤ most

theorem parseS_good (l : List UInt8) (most : Int) (h : Good l most) : parseS l most = ((val l : Int), true) := by
  obtain ⟨hne, hd, h0, hv, hm⟩ := h
  have ha : Lib.atoiAll l = .ok (val l : Int) := by
    cases l with
    | nil => exact absurd rfl hne
    | cons c r =>
      have hc := hd c (by simp)
      unfold IsD at hc
      rw [Lib.atoiAll_plain c r (by omega) (by omega), Lib.parseMag, if_neg (by simp), parseUint10_val _ _ hd (by show val _ < _; omega)]
      show Lib.signless (.ok (val (c :: r))) = _
      unfold Lib.signless
      simp only
      rw [if_neg (by omega)]
  unfold parseS
  rw [ha]
  simp only
  rw [if_pos]
  refine ⟨by omega, hm, ?_⟩
  rw [Lib.itoa, if_neg (by omega), Int.toNat_natCast]
  exact dec_of_val _ l rfl hne hd h0
theorem parseS_bad (l : List UInt8) (most : Int) (h : ¬ Good l most) : parseS l most = (0, false) := by
  unfold parseS
  split
  · rename_i n hn
    rw [if_neg]
    rintro ⟨h0, hm, hi⟩
    have hb := Lib.atoiAll_bounds hn
    rw [Lib.itoa, if_neg (by omega)] at hi
    apply h
    rw [← hi]
    refine ⟨dec_ne _, dec_isD _, fun hl => dec_head _ ?_, ?_, ?_⟩
    · have := dec_one _ hl
      omega
    · rw [dec_val]; omega
    · rw [dec_val]; omega
  · rfl
end Go.Proofs.YtdpmjaelbjjanaaGreat.Wf
