/- Rows of tokens: the plain mathematics. -/
import Derived.Test.YtlfffalfnnmliaaChC
namespace Go.Proofs.Ytlfffalfnnmliaa
open Go.RowKit Go.Maps
set_option linter.unusedVariables false
set_option linter.unusedSimpArgs false

/-- How many bytes a token has; some tokens. -/
def sz (tx : List ByteArray) (id : Int) : Nat := (gs tx id.toNat).size
def pos (tx : List ByteArray) : List Int → Nat
  | [] => 0
  | id :: r => sz tx id + pos tx r
theorem pos_append (tx : List ByteArray) (u v : List Int) : pos tx (u ++ v) = pos tx u + pos tx v := by
  induction u with
  | nil => simp [pos]
  | cons a r ih => simp [pos, ih]; omega

/-- The tokens T stand in the parts, from a place on, up to E. -/
def Lay (tx : List ByteArray) (ps : List Pt) (E : Nat) : Int → Nat → List Int → Prop
  | ah, at_, [] => at_ = E
  | ah, at_, id :: r => (0 ≤ id ∧ id < tx.length) ∧ 0 < sz tx id ∧ at_ + sz tx id ≤ E ∧ gp ps at_ = ⟨id, ah, ((at_ + sz tx id : Nat) : Int)⟩ ∧ (∀ k, at_ < k → k < at_ + sz tx id → (gp ps k).id = -1) ∧ Lay tx ps E at_ (at_ + sz tx id) r

theorem Lay.len {tx : List ByteArray} {ps : List Pt} {E : Nat} : ∀ (T : List Int) (ah : Int) (at_ : Nat), Lay tx ps E ah at_ T → at_ + pos tx T = E
  | [], ah, at_, h => by
    have h1 : at_ = E := h
    simpa [pos] using h1
  | id :: r, ah, at_, h => by
    have := Lay.len r _ _ h.2.2.2.2.2
    simp [pos]; omega

/-- Parts that are the same from a place on. -/
theorem Lay.ext {tx : List ByteArray} {ps ps' : List Pt} {E : Nat} : ∀ (T : List Int) (ah : Int) (at_ : Nat), Lay tx ps E ah at_ T → (∀ k, at_ ≤ k → k < E → gp ps' k = gp ps k) → Lay tx ps' E ah at_ T
  | [], ah, at_, h, _ => h
  | id :: r, ah, at_, h, he => by
    obtain ⟨h1, h2, h3, h4, h5, h6⟩ := h
    exact ⟨h1, h2, h3, (he _ (Nat.le_refl _) (by omega)).trans h4, fun k hk1 hk2 => by rw [he k (by omega) (by omega)]; exact h5 k hk1 hk2, Lay.ext r _ _ h6 (fun k hk1 hk2 => he k (by omega) hk2)⟩

/-- Where a token stands, and its neighbour. -/
theorem Lay.find {tx : List ByteArray} {ps : List Pt} {E : Nat} : ∀ (T : List Int) (ah : Int) (at_ : Nat), Lay tx ps E ah at_ T → ∀ (i j : Nat) (a b : Int), at_ ≤ i → 0 ≤ a → (gp ps i).id = a → (gp ps j).id = b → j = i + sz tx a → j < E → ∃ u v, T = u ++ a :: b :: v ∧ at_ + pos tx u = i
  | [], ah, at_, h, i, j, a, b, hi, ha, h1, h2, h3, h4 => by
    have : at_ = E := h
    omega
  | id :: r, ah, at_, h, i, j, a, b, hi, ha, h1, h2, h3, h4 => by
    obtain ⟨g1, g2, g3, g4, g5, g6⟩ := h
    by_cases e : i = at_
    · subst e
      rw [g4] at h1
      simp at h1
      subst h1
      cases r with
      | nil =>
        have : i + sz tx id = E := g6
        omega
      | cons id2 r2 =>
        obtain ⟨k1, k2, k3, k4, k5, k6⟩ := g6
        rw [h3, k4] at h2
        simp at h2
        subst h2
        exact ⟨[], r2, rfl, by simp [pos]⟩
    · by_cases e2 : i < at_ + sz tx id
      · have := g5 i (by omega) e2
        omega
      · obtain ⟨u, v, hT, hp⟩ := Lay.find r _ _ g6 i j a b (by omega) ha h1 h2 h3 h4
        exact ⟨id :: u, v, by rw [hT]; rfl, by simp [pos]; omega⟩

/-- The parts of two that stand side by side. -/
theorem Lay.two {tx : List ByteArray} {ps : List Pt} {E : Nat} (a b : Int) (v : List Int) : ∀ (u : List Int) (ah : Int) (at_ : Nat), Lay tx ps E ah at_ (u ++ a :: b :: v) →
    (0 ≤ a ∧ a < tx.length) ∧ (0 ≤ b ∧ b < tx.length) ∧ 0 < sz tx a ∧ 0 < sz tx b ∧ at_ + pos tx u + sz tx a + sz tx b ≤ E ∧ (gp ps (at_ + pos tx u)).id = a ∧ (gp ps (at_ + pos tx u)).af = ((at_ + pos tx u + sz tx a : Nat) : Int) ∧ (gp ps (at_ + pos tx u + sz tx a)).id = b ∧ (gp ps (at_ + pos tx u + sz tx a)).af = ((at_ + pos tx u + sz tx a + sz tx b : Nat) : Int) ∧ ((u = [] ∧ (gp ps (at_ + pos tx u)).ah = ah) ∨ ∃ u' x, u = u' ++ [x] ∧ (gp ps (at_ + pos tx u)).ah = ((at_ + pos tx u' : Nat) : Int))
  | [], ah, at_, h => by
    obtain ⟨g1, g2, g3, g4, g5, k1, k2, k3, k4, k5, k6⟩ := h
    simp only [pos, Nat.add_zero]
    rw [g4, k4]
    exact ⟨g1, k1, g2, k2, k3, rfl, rfl, rfl, rfl, Or.inl ⟨trivial, rfl⟩⟩
  | x :: u, ah, at_, h => by
    obtain ⟨g1, g2, g3, g4, g5, g6⟩ := h
    have := Lay.two a b v u _ _ g6
    simp only [pos]
    rw [show at_ + (sz tx x + pos tx u) = at_ + sz tx x + pos tx u by omega]
    refine ⟨this.1, this.2.1, this.2.2.1, this.2.2.2.1, this.2.2.2.2.1, this.2.2.2.2.2.1, this.2.2.2.2.2.2.1, this.2.2.2.2.2.2.2.1, this.2.2.2.2.2.2.2.2.1, Or.inr ?_⟩
    rcases this.2.2.2.2.2.2.2.2.2 with ⟨rfl, e⟩ | ⟨u', y, rfl, e⟩
    · exact ⟨[], x, rfl, by rw [e]; simp [pos]⟩
    · refine ⟨x :: u', y, rfl, ?_⟩
      rw [e]
      simp only [pos]
      congr 1
      omega

/-- Two have become one. -/
theorem Lay.join {tx : List ByteArray} {ps : List Pt} {E : Nat} (hE : E = ps.length) (a b c : Int) (v : List Int) (hc : 0 ≤ c ∧ c < tx.length) (hs : sz tx c = sz tx a + sz tx b) : ∀ (u : List Int) (ah : Int) (at_ : Nat), Lay tx ps E ah at_ (u ++ a :: b :: v) → ∀ (i j A : Nat), i = at_ + pos tx u → j = i + sz tx a → A = j + sz tx b → Lay tx (jn ps i j A c) E ah at_ (u ++ c :: v)
  | [], ah, at_, h, i, j, A, hi, hj, hA => by
    obtain ⟨g1, g2, g3, g4, g5, k1, k2, k3, k4, k5, k6⟩ := h
    simp only [pos, Nat.add_zero] at hi
    subst hi
    rw [← hj] at k4 k5 k3 k6
    rw [← hA] at k5 k3 k6
    have G := jn_get ps (i := i) (j := j) (A := A) c (by omega) (by omega) (by omega) (by omega)
    have hz : i + sz tx c = A := by omega
    refine ⟨hc, by omega, by omega, ?_, ?_, ?_⟩
    · rw [G i, if_pos rfl, g4, k4, hz, ← hA]
    · intro k hk1 hk2
      rw [G k, if_neg (by omega)]
      by_cases e : k = j
      · rw [if_pos e]
      · rw [if_neg e, if_neg (by omega)]
        by_cases e2 : k < j
        · exact g5 k hk1 (by omega)
        · exact k5 k (by omega) (by omega)
    · rw [hz]
      cases v with
      | nil => exact k6
      | cons y r =>
        obtain ⟨m1, m2, m3, m4, m5, m6⟩ := k6
        refine ⟨m1, m2, m3, ?_, fun k hk1 hk2 => ?_, ?_⟩
        · rw [G A, if_neg (by omega), if_neg (by omega), if_pos ⟨rfl, by omega⟩, m4]
        · rw [G k, if_neg (by omega), if_neg (by omega), if_neg (by omega)]
          exact m5 k hk1 hk2
        · refine Lay.ext r _ _ m6 (fun k hk1 hk2 => ?_)
          rw [G k, if_neg (by omega), if_neg (by omega), if_neg (by omega)]
  | x :: u, ah, at_, h, i, j, A, hi, hj, hA => by
    obtain ⟨g1, g2, g3, g4, g5, g6⟩ := h
    simp only [pos] at hi
    have two := Lay.two a b v u _ _ g6
    have hle := two.2.2.2.2.1
    have ha := two.2.2.1
    have hb := two.2.2.2.1
    have G := jn_get ps (i := i) (j := j) (A := A) c (by omega) (by omega) (by omega) (by omega)
    refine ⟨g1, g2, g3, ?_, fun k hk1 hk2 => ?_, Lay.join hE a b c v hc hs u _ _ g6 i j A (by omega) hj hA⟩
    · rw [G at_, if_neg (by omega), if_neg (by omega), if_neg (by omega)]; exact g4
    · rw [G k, if_neg (by omega), if_neg (by omega), if_neg (by omega)]; exact g5 k hk1 hk2

end Go.Proofs.Ytlfffalfnnmliaa
