/- The walk along two spines, as a function; what it tells. -/
import Derived.Test.YtdpmjaelbjjanaaGreatSnM
import Derived.Test.YtdpmjaelbjjanaaGreatQa23
namespace Go.Proofs.YtdpmjaelbjjanaaGreat
open Go.RowKit Go.Maps
set_option linter.unusedVariables false
set_option linter.unusedSimpArgs false

/-- Are two the parents of a token below a limit? -/
def prB (mg : List (Int × Int)) (x y L : Int) : Bool := (List.range mg.length).any fun k => decide (gm mg k = (x, y)) && decide (256 + (k : Int) < L)
theorem prB_iff {mg : List (Int × Int)} {x y L : Int} : prB mg x y L = true ↔ ∃ k, k < mg.length ∧ gm mg k = (x, y) ∧ 256 + (k : Int) < L := by
  unfold prB
  simp only [List.any_eq_true, List.mem_range, Bool.and_eq_true, decide_eq_true_eq]
theorem prB_no {mg : List (Int × Int)} {x y L : Int} (h : ∀ k, k < mg.length → gm mg k ≠ (x, y)) : prB mg x y L = false := by
  rw [Bool.eq_false_iff]
  intro e
  obtain ⟨k, h1, h2, _⟩ := prB_iff.1 e
  exact h k h1 h2
theorem prB_at {tx : List ByteArray} {mg : List (Int × Int)} (hk : Tok tx mg) {x y L : Int} {k : Nat} (h1 : k < mg.length) (h2 : gm mg k = (x, y)) : prB mg x y L = decide (256 + (k : Int) < L) := by
  rw [Bool.eq_iff_iff, prB_iff, decide_eq_true_iff]
  constructor
  · rintro ⟨j, h3, h4, h5⟩
    rw [hk.uniq h1 h3 (h2.trans h4.symm)]
    exact h5
  · intro h
    exact ⟨k, h1, h2, h⟩

/-- The walk: may they stand side by side, and how many are taken apart. -/
def wkF (mg : List (Int × Int)) : Nat → Int → Int → Int → Bool × Nat
  | 0, _, _, _ => (true, 0)
  | f + 1, x, y, L =>
    if prB mg x y L = true then (false, 0)
    else if x < 256 ∧ y < 256 then (true, 0)
    else if y < x then ((wkF mg f (gm mg (x - 256).toNat).2 y x).1, (wkF mg f (gm mg (x - 256).toNat).2 y x).2 + 1)
    else ((wkF mg f x (gm mg (y - 256).toNat).1 (y + 1)).1, (wkF mg f x (gm mg (y - 256).toNat).1 (y + 1)).2 + 1)
section
variable {tx : List ByteArray} {mg : List (Int × Int)}
theorem par_at (hk : Tok tx mg) {x : Int} (hx : inT tx x) (h : ¬ x < 256) : (x - 256).toNat < mg.length ∧ x = 256 + ((x - 256).toNat : Int) ∧ inT tx (gm mg (x - 256).toNat).1 ∧ inT tx (gm mg (x - 256).toNat).2 ∧ (gm mg (x - 256).toNat).1 < x ∧ (gm mg (x - 256).toNat).2 < x := by
  have hl := hk.len
  have h1 := hx.2
  have hi : (x - 256).toNat < mg.length := by omega
  have hp := hk.par _ hi
  exact ⟨hi, by omega, ⟨hp.1, by omega⟩, ⟨hp.2.2.1, by omega⟩, by omega, by omega⟩
theorem wkF_fuel (hk : Tok tx mg) : ∀ (f g : Nat) (x y L : Int), inT tx x → inT tx y → x.toNat + y.toNat < f → x.toNat + y.toNat < g → wkF mg f x y L = wkF mg g x y L
  | 0, _, _, _, _, _, _, h, _ => by omega
  | _, 0, _, _, _, _, _, _, h => by omega
  | f + 1, g + 1, x, y, L, hx, hy, hf, hg => by
    have h0 := hx.1
    have h1 := hy.1
    rw [wkF, wkF]
    split
    · rfl
    split
    · rfl
    rename_i h2
    split
    · rename_i h3
      obtain ⟨_, _, hA, hB, h4, h5⟩ := par_at hk hx (by omega)
      have := hB.1
      rw [wkF_fuel hk f g _ _ _ hB hy (by omega) (by omega)]
    · rename_i h3
      obtain ⟨_, _, hA, hB, h4, h5⟩ := par_at hk hy (by omega)
      have := hA.1
      rw [wkF_fuel hk f g _ _ _ hx hA (by omega) (by omega)]
def wk (mg : List (Int × Int)) (x y L : Int) : Bool × Nat := wkF mg (x.toNat + y.toNat + 1) x y L
theorem wk_pair {x y L : Int} (h : prB mg x y L = true) : wk mg x y L = (false, 0) := by
  rw [wk, wkF, if_pos h]
theorem wk_bytes {x y L : Int} (h : prB mg x y L = false) (hx : x < 256) (hy : y < 256) : wk mg x y L = (true, 0) := by
  rw [wk, wkF, if_neg (by rw [h]; simp), if_pos ⟨hx, hy⟩]
theorem wk_first (hk : Tok tx mg) {x y L : Int} (hx : inT tx x) (hy : inT tx y) (h : prB mg x y L = false) (hb : ¬ (x < 256 ∧ y < 256)) (hlt : y < x) : wk mg x y L = ((wk mg (gm mg (x - 256).toNat).2 y x).1, (wk mg (gm mg (x - 256).toNat).2 y x).2 + 1) := by
  have h0 := hx.1
  have h1 := hy.1
  obtain ⟨_, _, hA, hB, h4, h5⟩ := par_at hk hx (by omega)
  have := hB.1
  rw [wk, wkF, if_neg (by rw [h]; simp), if_neg hb, if_pos hlt, wkF_fuel hk (x.toNat + y.toNat) ((gm mg (x - 256).toNat).2.toNat + y.toNat + 1) _ _ _ hB hy (by omega) (by omega)]
  rfl
theorem wk_second (hk : Tok tx mg) {x y L : Int} (hx : inT tx x) (hy : inT tx y) (h : prB mg x y L = false) (hb : ¬ (x < 256 ∧ y < 256)) (hlt : ¬ y < x) : wk mg x y L = ((wk mg x (gm mg (y - 256).toNat).1 (y + 1)).1, (wk mg x (gm mg (y - 256).toNat).1 (y + 1)).2 + 1) := by
  have h0 := hx.1
  have h1 := hy.1
  obtain ⟨_, _, hA, hB, h4, h5⟩ := par_at hk hy (by omega)
  have := hA.1
  rw [wk, wkF, if_neg (by rw [h]; simp), if_neg hb, if_neg hlt, wkF_fuel hk (x.toNat + y.toNat) (x.toNat + (gm mg (y - 256).toNat).1.toNat + 1) _ _ _ hx hA (by omega) (by omega)]
  rfl
/-- How many are taken apart: no more than their numbers tell. -/
theorem wk_few (hk : Tok tx mg) : ∀ (n : Nat) (x y L : Int), x.toNat + y.toNat ≤ n → inT tx x → inT tx y → (wk mg x y L).2 ≤ x.toNat + y.toNat := by
  intro n
  induction n with
  | zero =>
    intro x y L hn hx hy
    cases hp : prB mg x y L with
    | true => rw [wk_pair hp]; exact Nat.zero_le _
    | false => rw [wk_bytes hp (by omega) (by omega)]; exact Nat.zero_le _
  | succ n ih =>
    intro x y L hn hx hy
    have h0 := hx.1
    have h1 := hy.1
    cases hp : prB mg x y L with
    | true => rw [wk_pair hp]; exact Nat.zero_le _
    | false =>
      by_cases hb : x < 256 ∧ y < 256
      · rw [wk_bytes hp hb.1 hb.2]; exact Nat.zero_le _
      by_cases hlt : y < x
      · rw [wk_first hk hx hy hp hb hlt]
        obtain ⟨_, _, hA, hB, h4, h5⟩ := par_at hk hx (by omega)
        have := hB.1
        have := ih (gm mg (x - 256).toNat).2 y x (by omega) hB hy
        simp only
        omega
      · rw [wk_second hk hx hy hp hb hlt]
        obtain ⟨_, _, hA, hB, h4, h5⟩ := par_at hk hy (by omega)
        have := hA.1
        have := ih x (gm mg (y - 256).toNat).1 (y + 1) (by omega) hx hA
        simp only
        omega

/-- As many rounds as there are tokens below a limit. -/
def nL (mg : List (Int × Int)) (L : Int) : Nat := min mg.length (L - 256).toNat
theorem prB_nL {x y L : Int} : prB mg x y L = false ↔ ∀ k, k < nL mg L → gm mg k ≠ (x, y) := by
  constructor
  · intro h k hk2 e
    have : prB mg x y L = true := prB_iff.2 ⟨k, by unfold nL at hk2; omega, e, by unfold nL at hk2; omega⟩
    rw [h] at this
    cases this
  · intro h
    rw [Bool.eq_false_iff]
    intro e
    obtain ⟨k, h1, h2, h3⟩ := prB_iff.1 e
    exact h k (by unfold nL; omega) h2
/-- The walk tells whether anything goes across where two meet that are alone. -/
theorem wk_tells (hk : Tok tx mg) : ∀ (n : Nat) (x y L : Int), x.toNat + y.toNat ≤ n → inT tx x → inT tx y → Al tx mg x → Al tx mg y → x < L → y < L → ((wk mg x y L).1 = true ↔ NC tx mg x y (nL mg L)) := by
  intro n
  induction n with
  | zero =>
    intro x y L hn hx hy ax ay lx ly
    have h0 := hx.1
    have h1 := hy.1
    rw [walk_bytes hk ⟨h0, by omega⟩ ⟨h1, by omega⟩ (by unfold nL; omega), ← prB_nL]
    cases hp : prB mg x y L with
    | true => rw [wk_pair hp]; simp
    | false => rw [wk_bytes hp (by omega) (by omega)]; simp
  | succ n ih =>
    intro x y L hn hx hy ax ay lx ly
    have h0 := hx.1
    have h1 := hy.1
    by_cases hb : x < 256 ∧ y < 256
    · rw [walk_bytes hk ⟨h0, by omega⟩ ⟨h1, by omega⟩ (by unfold nL; omega), ← prB_nL]
      cases hp : prB mg x y L with
      | true => rw [wk_pair hp]; simp
      | false => rw [wk_bytes hp (by omega) (by omega)]; simp
    by_cases hlt : y < x
    · obtain ⟨hi, he, hA, hB, h4, h5⟩ := par_at hk hx (by omega)
      generalize hI : (x - 256).toNat = i at *
      subst he
      have hb0 := hB.1
      have := walk_first hk hi ax ay hy hlt (n := nL mg L) (by unfold nL; omega) (by unfold nL; omega)
      rw [this, ← prB_nL]
      cases hp : prB mg (256 + (i : Int)) y L with
      | true => rw [wk_pair hp]; simp
      | false =>
        rw [wk_first hk hx hy hp hb hlt, hI]
        have := ih (gm mg i).2 y (256 + (i : Int)) (by omega) hB hy (al_parts hk hi ax).2.2.1 ay h5 hlt
        rw [show nL mg (256 + (i : Int)) = i by unfold nL; omega] at this
        simp only [and_true]
        exact this
    · obtain ⟨hi, he, hA, hB, h4, h5⟩ := par_at hk hy (by omega)
      generalize hI : (y - 256).toNat = i at *
      subst he
      have ha0 := hA.1
      have := walk_second hk hi ay ax hx (by omega) (n := nL mg L) (by unfold nL; omega) (by unfold nL; omega)
      rw [this, ← prB_nL]
      cases hp : prB mg x (256 + (i : Int)) L with
      | true => rw [wk_pair hp]; simp
      | false =>
        rw [wk_second hk hx hy hp hb hlt, hI]
        have := ih x (gm mg i).1 (256 + (i : Int) + 1) (by omega) hx hA ax (al_parts hk hi ay).2.1 (by omega) (by omega)
        rw [show nL mg (256 + (i : Int) + 1) = i + 1 by unfold nL; omega] at this
        simp only [and_true]
        exact this
/-- Is a token made of its bytes? -/
def alB (tx : List ByteArray) (mg : List (Int × Int)) (x : Int) : Bool := decide (made mg tx.length (gs tx x.toNat) = [x])
theorem alB_iff (hk : Tok tx mg) {x : Int} : alB tx mg x = true ↔ Al tx mg x := by
  unfold alB Al made bL
  rw [decide_eq_true_iff, rnds_all hk]
theorem alB_byte (hk : Tok tx mg) {x : Int} (h0 : 0 ≤ x) (h1 : x < 256) : alB tx mg x = true := (alB_iff hk).2 (al_byte hk h0 h1)
/-- Its parents are, and may stand side by side below it. -/
theorem alB_step (hk : Tok tx mg) {i : Nat} (hi : i < mg.length) : alB tx mg (256 + (i : Int)) = (alB tx mg (gm mg i).1 && alB tx mg (gm mg i).2 && (wk mg (gm mg i).1 (gm mg i).2 (256 + (i : Int))).1) := by
  have hp := hk.par i hi
  have hl := hk.len
  have hA : inT tx (gm mg i).1 := ⟨hp.1, by omega⟩
  have hB : inT tx (gm mg i).2 := ⟨hp.2.2.1, by omega⟩
  rw [Bool.eq_iff_iff, Bool.and_eq_true, Bool.and_eq_true, alB_iff hk, alB_iff hk, alB_iff hk]
  constructor
  · intro h
    obtain ⟨h1, aA, aB, eA, eB, hn⟩ := al_parts hk hi h
    refine ⟨⟨aA, aB⟩, (wk_tells hk _ _ _ _ (Nat.le_refl _) hA hB aA aB (by omega) (by omega)).2 ?_⟩
    rw [show nL mg (256 + (i : Int)) = i by unfold nL; omega]
    exact hn
  · rintro ⟨⟨aA, aB⟩, h⟩
    have := (wk_tells hk _ _ _ _ (Nat.le_refl _) hA hB aA aB (by omega) (by omega)).1 h
    rw [show nL mg (256 + (i : Int)) = i by unfold nL; omega] at this
    exact al_make hk hi aA aB this
/-- With no limit: what is made of both is just both. -/
theorem wk_all (hk : Tok tx mg) {x y L : Int} (hx : inT tx x) (hy : inT tx y) (ax : Al tx mg x) (ay : Al tx mg y) (hL : 256 + (mg.length : Int) ≤ L) : (wk mg x y L).1 = true ↔ enc mg mg.length (bL tx x ++ bL tx y) = [x, y] := by
  have hl := hk.len
  have h1 := hx.2
  have h2 := hy.2
  rw [wk_tells hk _ _ _ _ (Nat.le_refl _) hx hy ax ay (by omega) (by omega), show nL mg L = mg.length by unfold nL; omega]
  unfold NC
  rw [ax, ay]
  rfl
end
end Go.Proofs.YtdpmjaelbjjanaaGreat
