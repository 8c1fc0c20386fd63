/- TokenAdds: whatever is added, one by one: each answer, and the tokens behind it; of any numbers and bytes what they are. -/
import Derived.Test.YtblbbenfaafcoaaTkZ
namespace Go.Proofs.Ytblbbenfaafcoaa
open Go.RowKit Go.Maps
set_option linter.unusedVariables false
set_option linter.unusedSimpArgs false
attribute [local go_sem ↓] Go.wp_at_zero Go.wp_at_succ

/-- What a table tells of two numbers; of bytes; of a number. -/
def prT (mg : List (Int × Int)) (a b : Int) (x : Int) (ok : Bool) : Prop := (ok = false ∧ x = 0 ∧ (a, b) ∉ mg) ∨ ∃ i : Nat, ok = true ∧ x = 256 + i ∧ i < mg.length ∧ gm mg i = (a, b)

section
variable {F : List Nat} {p b2 b3 : Nat} {v0 v1 : Value} {tx : List ByteArray} {mg : List (Int × Int)} {lg : Int} {w : World}

theorem tpair_all (h : TAt F p v0 v1 b2 b3 tx mg lg w) (hk : Tok tx mg) (a b : Int) (hw : wfM (a, b)) :
    Calls Try.prog 16 #[.pointer (some ⟨p, 0, none⟩), .int .i64 a, .int .i64 b] w fun e w' => (∃ x ok, e = .returned (.tuple #[.int .i64 x, .bool ok]) ∧ prT mg a b x ok) ∧ w' = w := by
  by_cases hm : (a, b) ∈ mg
  · obtain ⟨i, hi, e⟩ := gm_mem hm
    have := tpair_any h i hi hk.wf
    rw [e] at this
    refine this.mono ?_
    rintro e2 w' ⟨rfl, hw'⟩
    exact ⟨⟨_, _, rfl, Or.inr ⟨i, rfl, rfl, hi, e⟩⟩, hw'⟩
  · refine (tpair_none h a b hw hk.wf hm).mono ?_
    rintro e2 w' ⟨rfl, hw'⟩
    exact ⟨⟨_, _, rfl, Or.inl ⟨rfl, rfl, hm⟩⟩, hw'⟩

def fdT (tx : List ByteArray) (s : ByteArray) (x : Int) (ok : Bool) : Prop := (ok = false ∧ x = 0 ∧ s ∉ tx) ∨ ∃ i : Nat, ok = true ∧ x = i ∧ i < tx.length ∧ gs tx i = s
theorem tfind_all (h : TAt F p v0 v1 b2 b3 tx mg lg w) (s : ByteArray) (hs : s.size ≤ maxLen) :
    Calls Try.prog 17 #[.pointer (some ⟨p, 0, none⟩), .string s] w fun e w' => (∃ x ok, e = .returned (.tuple #[.int .i64 x, .bool ok]) ∧ fdT tx s x ok) ∧ w' = w := by
  by_cases hm : s ∈ tx
  · obtain ⟨i, hi, e⟩ := gs_mem.1 hm
    refine (tfind_any h i hi s hs e).mono ?_
    rintro e2 w' ⟨rfl, hw'⟩
    exact ⟨⟨_, _, rfl, Or.inr ⟨i, rfl, rfl, hi, e⟩⟩, hw'⟩
  · refine (tfind_none h s hs hm).mono ?_
    rintro e2 w' ⟨rfl, hw'⟩
    exact ⟨⟨_, _, rfl, Or.inl ⟨rfl, rfl, hm⟩⟩, hw'⟩

def hs (tx : List ByteArray) (a : Int) : Bool := decide (0 ≤ a ∧ a < tx.length)
theorem tbytes_all (h : TAt F p v0 v1 b2 b3 tx mg lg w) (a : Int) :
    Calls Try.prog 18 #[.pointer (some ⟨p, 0, none⟩), .int .i64 a] w fun e w' => e = .returned (.tuple #[.string (if hs tx a then gs tx a.toNat else ⟨#[]⟩), .bool (hs tx a)]) ∧ w' = w := by
  by_cases ha : 0 ≤ a ∧ a < tx.length
  · have e1 : hs tx a = true := by simpa [hs] using ha
    obtain ⟨i, rfl⟩ := Int.eq_ofNat_of_zero_le ha.1
    rw [e1, if_pos rfl]
    exact tbytes_any h i (by omega)
  · have e1 : hs tx a = false := by simpa [hs] using ha
    rw [e1]
    exact tbytes_none a _ tx.length w (hide (tlen_any h)) (by omega)

theorem tparents_all (h : TAt F p v0 v1 b2 b3 tx mg lg w) (hl : tx.length = 256 + mg.length) (hz : mg.length ≤ 1000) (a : Int) :
    Calls Try.prog 19 #[.pointer (some ⟨p, 0, none⟩), .int .i64 a] w fun e w' => (∃ m1 m2 : Int, e = .returned (.tuple #[.agg #[.int .i64 m1, .int .i64 m2], .bool (hs tx a && decide (255 < a))])) ∧ Below w.heap.size w w' := by
  by_cases ha : 256 ≤ a ∧ a < tx.length
  · have e1 : (hs tx a && decide (255 < a)) = true := by simp [hs]; omega
    obtain ⟨i, hi⟩ := Int.eq_ofNat_of_zero_le (show 0 ≤ a - 256 by omega)
    obtain rfl : a = 256 + (i : Int) := by omega
    rw [e1]
    refine (parents_any h i (by omega) hl hz).mono ?_
    rintro e2 w' ⟨rfl, hw'⟩
    exact ⟨⟨_, _, rfl⟩, hw'⟩
  · have e1 : (hs tx a && decide (255 < a)) = false := by simp [hs]; omega
    rw [e1]
    refine (parents_none a _ tx.length w (hide (tlen_any (h.keptB (low1 w _)))) (by omega)).mono ?_
    rintro e2 w' ⟨rfl, hw'⟩
    exact ⟨⟨_, _, rfl⟩, hw'⟩
end

section
variable {vb vm : Value} {tx : List ByteArray} {mg : List (Int × Int)} {w : World}
theorem rpair_val (h : RT vb vm tx mg w) (hk : Tok tx mg) {a b x : Int} {ok : Bool} (hp : prT mg a b x ok) :
    Calls Try.prog 20 #[.agg #[vb, vm], .int .i64 a, .int .i64 b] w fun e w' => e = .returned (.int .i64 (if ok then x else -1)) ∧ Below w.heap.size w w' := by
  refine (rpair_any h a b (by have := hk.len; have := hk.cap; omega)).mono ?_
  rintro e w' ⟨⟨r, rfl, hr⟩, hb⟩
  refine ⟨?_, hb⟩
  rcases hp with ⟨rfl, rfl, hm⟩ | ⟨i, rfl, rfl, hi, hg⟩
  · rcases hr with ⟨rfl, _⟩ | ⟨j, rfl, hj, hg⟩
    · rfl
    · exact absurd (by rw [← hg, gm, List.getD_eq_getElem?_getD, List.getElem?_eq_getElem hj]; exact List.getElem_mem hj) hm
  · rcases hr with ⟨rfl, hn⟩ | ⟨j, rfl, hj, hg2⟩
    · exact absurd hg (hn i hi)
    · have h1 := hk.made i hi
      have h2 := hk.made j hj
      rw [hg] at h1
      rw [hg2, ← h1] at h2
      have hl := hk.len
      have : i = j := by
        rcases Nat.lt_trichotomy i j with h3 | h3 | h3
        · exact absurd h2.symm (hk.nd _ _ (by omega) (by omega))
        · exact h3
        · exact absurd h2 (hk.nd _ _ (by omega) (by omega))
      subst this
      rfl
theorem rfind_val (h : RT vb vm tx mg w) (hk : Tok tx mg) {s : ByteArray} {x : Int} {ok : Bool} (hp : fdT tx s x ok) :
    Calls Try.prog 21 #[.agg #[vb, vm], .string s] w fun e w' => e = .returned (.int .i64 (if ok then x else -1)) ∧ Below w.heap.size w w' := by
  refine (rfind_any h s (by have := hk.cap; omega)).mono ?_
  rintro e w' ⟨⟨r, rfl, hr⟩, hb⟩
  refine ⟨?_, hb⟩
  rcases hp with ⟨rfl, rfl, hm⟩ | ⟨i, rfl, rfl, hi, hg⟩
  · rcases hr with ⟨rfl, _⟩ | ⟨j, rfl, hj, hg⟩
    · rfl
    · exact absurd (gs_mem.2 ⟨j, hj, hg⟩) hm
  · rcases hr with ⟨rfl, hn⟩ | ⟨j, rfl, hj, hg2⟩
    · exact absurd (gs_mem.2 ⟨i, hi, hg⟩) hn
    · have : i = j := by
        rcases Nat.lt_trichotomy i j with h3 | h3 | h3
        · exact absurd (hg.trans hg2.symm) (hk.nd _ _ h3 hj)
        · exact h3
        · exact absurd (hg2.trans hg.symm) (hk.nd _ _ h3 hi)
      subst this
      rfl
end

end Go.Proofs.Ytblbbenfaafcoaa
