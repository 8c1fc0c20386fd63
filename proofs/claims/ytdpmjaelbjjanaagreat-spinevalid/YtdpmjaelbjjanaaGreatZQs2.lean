/- Which two tokens may stand side by side: the plain mathematics of the walk. The walk along two spines, as a function; what it tells. -/
import Derived.Test.YtdpmjaelbjjanaaGreatZQa26
import Derived.Test.YtdpmjaelbjjanaaGreatZQa23
namespace Go.Proofs.YtdpmjaelbjjanaaGreat
open Go.RowKit Go.Maps
set_option linter.unusedVariables false
set_option linter.unusedSimpArgs false

/-- A token's bytes, as numbers. -/
def bL (tx : List ByteArray) (x : Int) : List Int := bys (gs tx x.toNat) (gs tx x.toNat).size
/-- All are bytes. -/
def Bt (l : List Int) : Prop := ∀ x ∈ l, 0 ≤ x ∧ x < 256
theorem bL_bt (tx : List ByteArray) (x : Int) : Bt (bL tx x) := fun y hy => bys_lt _ _ y hy
theorem Bt.app {l m : List Int} (h : Bt l) (h2 : Bt m) : Bt (l ++ m) := fun x hx => (List.mem_append.1 hx).elim (h x) (h2 x)
theorem bys_app (s t : ByteArray) : bys (s ++ t) (s ++ t).size = bys s s.size ++ bys t t.size := by
  rw [bys_all, bys_all, bys_all]
  simp
theorem bL_len (tx : List ByteArray) (x : Int) : (bL tx x).length = sz tx x := by
  unfold bL sz
  rw [bys_len _ _ (Nat.le_refl _)]

section
variable {tx : List ByteArray} {mg : List (Int × Int)}
theorem pos_app (u v : List Int) : pos tx (u ++ v) = pos tx u + pos tx v := by
  rw [← txt_len, ← txt_len, ← txt_len, txt_append, List.length_append]
theorem pos_one (x : Int) : pos tx [x] = sz tx x := by simp [pos]
theorem pos_enc (hk : Tok tx mg) {n : Nat} (hn : n ≤ mg.length) {X : List Int} (hX : Bt X) : pos tx (enc mg n X) = X.length := by
  rw [← txt_len, txt_enc hk _ _ hn, txt_len]
  exact pos_bytes hk X hX
theorem bL_mer (hk : Tok tx mg) {i : Nat} (hi : i < mg.length) : bL tx (256 + (i : Int)) = bL tx (gm mg i).1 ++ bL tx (gm mg i).2 := by
  have h := hk.made i hi
  unfold bL
  rw [show (256 + (i : Int)).toNat = 256 + i by omega, h]
  exact bys_app _ _
theorem bL_byte (hk : Tok tx mg) {x : Int} (h0 : 0 ≤ x) (h1 : x < 256) : bL tx x = [x] := by
  have h := hk.low x.toNat (by omega)
  unfold bL
  rw [h, bys_all]
  simp [one]
  have : x.toNat < 256 := by omega
  omega
theorem bL_ne (hk : Tok tx mg) : ∀ (n : Nat) (x : Int), x.toNat ≤ n → inT tx x → bL tx x ≠ [] := by
  intro n
  induction n with
  | zero => intro x hx h; rw [bL_byte hk h.1 (by omega)]; simp
  | succ n ih =>
    intro x hx h
    by_cases hb : x < 256
    · rw [bL_byte hk h.1 hb]; simp
    · have hl := hk.len
      obtain ⟨i, hi⟩ : ∃ i : Nat, x = 256 + (i : Int) := ⟨(x - 256).toNat, by omega⟩
      subst hi
      have hi : i < mg.length := by have := h.2; omega
      have hp := hk.par i hi
      rw [bL_mer hk hi]
      have := ih (gm mg i).1 (by omega) ⟨hp.1, by have := h.2; omega⟩
      intro e
      exact this (List.append_eq_nil_iff.1 e).1

/-- A cut at some bytes is a cut of what they are made to. -/
theorem enc_sub (hk : Tok tx mg) {n : Nat} (hn : n ≤ mg.length) {X Y u v : List Int} (hX : Bt X) (hY : Bt Y) (h : enc mg n (X ++ Y) = u ++ v) (hp : pos tx u = X.length) : u = enc mg n X ∧ v = enc mg n Y := by
  obtain ⟨p', q', h1, h2, h3⟩ := enc_split _ _ _ _ h
  have hpb : Bt p' := fun x hx => (hX.app hY) x (by rw [h1]; exact List.mem_append_left _ hx)
  have e1 : p'.length = X.length := by rw [← pos_enc hk hn hpb, ← h2, hp]
  obtain ⟨f1, f2⟩ := List.append_inj h1 e1.symm
  rw [h2, h3, f1, f2]
  exact ⟨rfl, rfl⟩
theorem pos_scan (hk : Tok tx mg) {n : Nat} (hn : n < mg.length) (l : List Int) : pos tx (scan (gm mg n).1 (gm mg n).2 (256 + n) l) = pos tx l := by
  rw [← txt_len, ← txt_len, txt_scan]
  have := hk.made n hn
  rwa [show (256 + (n : Int)).toNat = 256 + n by omega]
/-- Where nothing goes across at last, nothing went across ahead of it. -/
theorem enc_cut1 (hk : Tok tx mg) {n : Nat} (hn : n < mg.length) {X Y : List Int} (hX : Bt X) (hY : Bt Y) (h : enc mg (n + 1) (X ++ Y) = enc mg (n + 1) X ++ enc mg (n + 1) Y) : enc mg n (X ++ Y) = enc mg n X ++ enc mg n Y := by
  have h' := h
  rw [enc] at h'
  obtain ⟨p1, q1, h1, h2, h3⟩ := scan_split _ _ _ h'
  have hp : pos tx p1 = X.length := by
    rw [← pos_scan hk hn p1, ← h2, pos_enc hk (by omega) hX]
  obtain ⟨f1, f2⟩ := enc_sub hk (by omega) hX hY h1 hp
  rw [h1, f1, f2]
/-- Does nothing go across, if y comes behind? -/
def frB (a b : Int) : List Int → Int → Bool
  | [], _ => true
  | [x], y => !(decide (x = a) && decide (y = b))
  | x :: z :: r, y => if x = a ∧ z = b then frB a b r y else frB a b (z :: r) y
theorem scan_app {a b c : Int} (hc : c ≠ a) (y : Int) (v : List Int) : ∀ u, scan a b c (u ++ y :: v) = scan a b c u ++ scan a b c (y :: v) ↔ frB a b u y = true
  | [] => by simp [scan, frB]
  | [x] => by
    simp only [List.cons_append, List.nil_append, frB]
    rw [show scan a b c (x :: y :: v) = if x = a ∧ y = b then c :: scan a b c v else x :: scan a b c (y :: v) from rfl]
    split
    · rename_i e
      constructor
      · intro h
        simp only [scan, List.cons_append, List.cons.injEq] at h
        exact absurd (h.1.trans e.1) hc
      · intro h
        simp [e.1, e.2] at h
    · rename_i e
      simp only [scan, List.cons_append, List.nil_append, true_iff]
      simp only [Bool.not_eq_true', Bool.and_eq_false_iff, decide_eq_false_iff_not]
      by_cases hx : x = a
      · exact Or.inr (fun hy => e ⟨hx, hy⟩)
      · exact Or.inl hx
  | x :: z :: r => by
    simp only [List.cons_append]
    rw [show scan a b c (x :: z :: (r ++ y :: v)) = if x = a ∧ z = b then c :: scan a b c (r ++ y :: v) else x :: scan a b c (z :: (r ++ y :: v)) from rfl]
    rw [show scan a b c (x :: z :: r) = if x = a ∧ z = b then c :: scan a b c r else x :: scan a b c (z :: r) from rfl]
    rw [frB]
    split
    · simp only [List.cons_append, List.cons.injEq, true_and]
      exact scan_app hc y v r
    · simp only [List.cons_append, List.cons.injEq, true_and]
      have := scan_app (b := b) hc y v (z :: r)
      simpa only [List.cons_append] using this
theorem mer_ne (hk : Tok tx mg) {n : Nat} (hn : n < mg.length) : (256 + (n : Int)) ≠ (gm mg n).1 ∧ (256 + (n : Int)) ≠ (gm mg n).2 := by
  have := hk.par n hn
  omega
theorem enc_ne : ∀ (n : Nat) {X : List Int}, X ≠ [] → enc mg n X ≠ []
  | 0, X, h => h
  | n + 1, X, h => by
    rw [enc]
    have := enc_ne n h
    cases hg : enc mg n X with
    | nil => exact absurd hg this
    | cons x r =>
      cases r with
      | nil => simp [scan]
      | cons y r => rw [scan]; split <;> simp
/-- Three: where nothing goes across at either edge of the middle one, nothing does in all of them. -/
theorem enc_three (hk : Tok tx mg) {U V W : List Int} (hU : Bt U) (hV : Bt V) (hW : Bt W) (hne : V ≠ []) : ∀ n, n ≤ mg.length → enc mg n (U ++ V) = enc mg n U ++ enc mg n V → enc mg n (V ++ W) = enc mg n V ++ enc mg n W → enc mg n (U ++ (V ++ W)) = enc mg n U ++ (enc mg n V ++ enc mg n W)
  | 0, _, _, _ => rfl
  | n + 1, hn, h1, h2 => by
    have g1 := enc_cut1 hk (by omega) hU hV h1
    have g2 := enc_cut1 hk (by omega) hV hW h2
    have ih := enc_three hk hU hV hW hne n (by omega) g1 g2
    have hv := enc_ne (mg := mg) n hne
    rw [enc, ih]
    rw [enc, g1, enc, enc] at h1
    rw [enc, g2, enc, enc] at h2
    rw [enc, enc, enc, ← h2]
    obtain ⟨y, v, hy⟩ : ∃ y v, enc mg n V = y :: v := by
      cases hg : enc mg n V with
      | nil => exact absurd hg hv
      | cons y v => exact ⟨y, v, rfl⟩
    rw [hy] at h1 ⊢
    rw [scan_app (mer_ne hk (by omega)).1] at h1
    simp only [List.cons_append]
    exact (scan_app (mer_ne hk (by omega)).1 _ _ _).2 h1

/-- Just it is made of the token's bytes. -/
def Al (tx : List ByteArray) (mg : List (Int × Int)) (x : Int) : Prop := enc mg mg.length (bL tx x) = [x]
/-- Nothing goes across where two meet, by the first n. -/
def NC (tx : List ByteArray) (mg : List (Int × Int)) (x y : Int) (n : Nat) : Prop := enc mg n (bL tx x ++ bL tx y) = enc mg n (bL tx x) ++ enc mg n (bL tx y)

theorem scan_single {a b c x : Int} (hx : c ≠ x) {l : List Int} (h : scan a b c l = [x]) : l = [x] := by
  match l, h with
  | [], h => simp [scan] at h
  | [y], h => simpa [scan] using h
  | y :: z :: r, h =>
    rw [scan] at h
    split at h
    · simp at h; exact absurd h.1 hx
    · simp only [List.cons.injEq] at h
      have h2 := h.2
      cases r with
      | nil => simp [scan] at h2
      | cons q r => rw [scan] at h2; split at h2 <;> simp at h2
theorem scan_made {a b c : Int} {l : List Int} (hm : c ∉ l) (h : scan a b c l = [c]) : l = [a, b] := by
  match l, h with
  | [], h => simp [scan] at h
  | [y], h => simp [scan] at h; exact absurd (by simp [h]) hm
  | y :: z :: r, h =>
    rw [scan] at h
    split at h
    · rename_i e
      simp at h
      cases r with
      | nil => rw [e.1, e.2]
      | cons q r => cases r with
        | nil => simp [scan] at h
        | cons q2 r => rw [scan] at h; split at h <;> simp at h
    · simp only [List.cons.injEq] at h
      exact absurd (by simp [h.1]) hm
/-- It stands as soon as it can. -/
theorem al_from {x : Int} (h : Al tx mg x) : ∀ d n, n + d = mg.length → x < 256 + (n : Int) → enc mg n (bL tx x) = [x]
  | 0, n, hn, hx => by
    obtain rfl : n = mg.length := by omega
    exact h
  | d + 1, n, hn, hx => by
    have := al_from h d (n + 1) (by omega) (by omega)
    rw [enc] at this
    exact scan_single (by omega) this
theorem Al.at {x : Int} (h : Al tx mg x) {n : Nat} (hn : n ≤ mg.length) (hx : x < 256 + (n : Int)) : enc mg n (bL tx x) = [x] := al_from h (mg.length - n) n (by omega) hx
theorem enc_lt {l : List Int} (hl : Bt l) : ∀ n, ∀ x ∈ enc mg n l, x < 256 + (n : Int)
  | 0, x, h => by have := hl x h; omega
  | n + 1, x, h => by
    rw [enc] at h
    rcases scan_mem _ h with h | h
    · omega
    · have := enc_lt hl n x h; omega
theorem al_byte (hk : Tok tx mg) {x : Int} (h0 : 0 ≤ x) (h1 : x < 256) : Al tx mg x := by
  unfold Al
  rw [bL_byte hk h0 h1]
  exact enc_one mg 0 [x] x rfl _ (Nat.zero_le _)
/-- A token that is alone: its parents are, and nothing goes across them until then. -/
theorem al_parts (hk : Tok tx mg) {i : Nat} (hi : i < mg.length) (h : Al tx mg (256 + (i : Int))) : enc mg i (bL tx (256 + (i : Int))) = [(gm mg i).1, (gm mg i).2] ∧ Al tx mg (gm mg i).1 ∧ Al tx mg (gm mg i).2 ∧ enc mg i (bL tx (gm mg i).1) = [(gm mg i).1] ∧ enc mg i (bL tx (gm mg i).2) = [(gm mg i).2] ∧ NC tx mg (gm mg i).1 (gm mg i).2 i := by
  have h1 := h.at (n := i + 1) (by omega) (by omega)
  rw [enc] at h1
  have h2 := scan_made (fun hm => by have := enc_lt (mg := mg) (bL_bt tx (256 + (i : Int))) i _ hm; omega) h1
  have h3 := h2
  rw [bL_mer hk hi] at h3
  obtain ⟨e1, e2⟩ := enc_sub hk (by omega) (bL_bt _ _) (bL_bt _ _) (u := [(gm mg i).1]) (v := [(gm mg i).2]) h3 (by rw [pos_one, bL_len])
  refine ⟨h2, enc_one mg i _ _ e1.symm _ (by omega), enc_one mg i _ _ e2.symm _ (by omega), e1.symm, e2.symm, ?_⟩
  unfold NC
  rw [h3, ← e1, ← e2]
  rfl
/-- Both stand: something goes across as soon as they are a token's parents. -/
theorem nc_two (hk : Tok tx mg) {x y : Int} {m : Nat} : ∀ n, m ≤ n → n ≤ mg.length → (∀ k, m ≤ k → k ≤ n → enc mg k (bL tx x) = [x]) → (∀ k, m ≤ k → k ≤ n → enc mg k (bL tx y) = [y]) → (NC tx mg x y n ↔ NC tx mg x y m ∧ ∀ k, m ≤ k → k < n → gm mg k ≠ (x, y)) := by
  intro n
  induction n with
  | zero =>
    intro hm _ _ _
    obtain rfl : m = 0 := by omega
    exact ⟨fun h => ⟨h, fun k h1 h2 => by omega⟩, fun h => h.1⟩
  | succ n ih =>
    intro hm hn hx hy
    by_cases e : m = n + 1
    · subst e
      exact ⟨fun h => ⟨h, fun k h1 h2 => by omega⟩, fun h => h.1⟩
    have ih := ih (by omega) (by omega) (fun k h1 h2 => hx k h1 (by omega)) (fun k h1 h2 => hy k h1 (by omega))
    have ex := hx n (by omega) (by omega)
    have ey := hy n (by omega) (by omega)
    have step : NC tx mg x y n → (NC tx mg x y (n + 1) ↔ gm mg n ≠ (x, y)) := by
      intro h
      unfold NC at h ⊢
      rw [ex, ey] at h
      rw [enc, h, hx (n + 1) (by omega) (Nat.le_refl _), hy (n + 1) (by omega) (Nat.le_refl _)]
      simp only [List.cons_append, List.nil_append]
      rw [scan]
      constructor
      · intro h2 e3
        rw [if_pos ⟨by rw [e3], by rw [e3]⟩] at h2
        simp [scan] at h2
      · intro h2
        rw [if_neg (fun e3 => h2 (Prod.ext e3.1.symm e3.2.symm))]
        rfl
    constructor
    · intro h
      have h1 := enc_cut1 hk (by omega) (bL_bt tx x) (bL_bt tx y) h
      have h2 := ih.1 h1
      refine ⟨h2.1, fun k hk1 hk2 => ?_⟩
      by_cases e2 : k = n
      · subst e2
        exact (step h1).1 h
      · exact h2.2 k hk1 (by omega)
    · rintro ⟨h1, h2⟩
      have h3 := ih.2 ⟨h1, fun k a b => h2 k a (by omega)⟩
      exact (step h3).2 (h2 n (by omega) (by omega))
theorem par_no (hk : Tok tx mg) {x y : Int} {i k : Nat} (hk2 : k ≤ i) (hi : k < mg.length) (h : 256 + (i : Int) ≤ x ∨ 256 + (i : Int) ≤ y) : gm mg k ≠ (x, y) := by
  intro e
  have := hk.par k hi
  rw [e] at this
  simp only at this
  omega

/-- Both are bytes. -/
theorem walk_bytes (hk : Tok tx mg) {x y : Int} (hx : 0 ≤ x ∧ x < 256) (hy : 0 ≤ y ∧ y < 256) {n : Nat} (hn : n ≤ mg.length) : NC tx mg x y n ↔ ∀ k, k < n → gm mg k ≠ (x, y) := by
  rw [nc_two hk (m := 0) n (Nat.zero_le _) hn (fun k _ h => (al_byte hk hx.1 hx.2).at (by omega) (by omega)) (fun k _ h => (al_byte hk hy.1 hy.2).at (by omega) (by omega))]
  exact ⟨fun h k hk2 => h.2 k (Nat.zero_le _) hk2, fun h => ⟨rfl, fun k _ h2 => h k h2⟩⟩
/-- The first one is the greater one. -/
theorem walk_first (hk : Tok tx mg) {i : Nat} (hi : i < mg.length) {y : Int} (hx : Al tx mg (256 + (i : Int))) (hy : Al tx mg y) (hyt : inT tx y) (hlt : y < 256 + (i : Int)) {n : Nat} (hn : n ≤ mg.length) (hin : i < n) : NC tx mg (256 + (i : Int)) y n ↔ NC tx mg (gm mg i).2 y i ∧ ∀ k, k < n → gm mg k ≠ (256 + (i : Int), y) := by
  obtain ⟨h1, hA, hB, eA, eB, hAB⟩ := al_parts hk hi hx
  have hp := hk.par i hi
  have hl := hk.len
  have ey : enc mg i (bL tx y) = [y] := hy.at (by omega) (by omega)
  have hBne : bL tx (gm mg i).2 ≠ [] := bL_ne hk _ _ (Nat.le_refl _) ⟨hp.2.2.1, by omega⟩
  have A1 : NC tx mg (256 + (i : Int)) y i ↔ NC tx mg (gm mg i).2 y i := by
    unfold NC
    constructor
    · intro h
      rw [h1, bL_mer hk hi, List.append_assoc] at h
      obtain ⟨_, e2⟩ := enc_sub hk (n := i) (by omega) (bL_bt _ _) ((bL_bt _ _).app (bL_bt _ _)) (u := [(gm mg i).1]) (v := (gm mg i).2 :: enc mg i (bL tx y)) (by rw [h]; rfl) (by rw [pos_one, bL_len])
      rw [← e2, eB]
      rfl
    · intro h
      have h3 := enc_three hk (bL_bt tx (gm mg i).1) (bL_bt tx (gm mg i).2) (bL_bt tx y) hBne i (by omega) hAB h
      rw [h1, bL_mer hk hi, List.append_assoc, h3, eA, eB]
      rfl
  have A2 : NC tx mg (256 + (i : Int)) y (i + 1) ↔ NC tx mg (256 + (i : Int)) y i := by
    constructor
    · intro h; exact enc_cut1 hk hi (bL_bt _ _) (bL_bt _ _) h
    · intro h
      unfold NC at h ⊢
      rw [enc, h, h1, enc, enc, h1, ey]
      simp [scan]
  rw [nc_two hk (m := i + 1) n (by omega) hn (fun k h _ => hx.at (by omega) (by omega)) (fun k h _ => hy.at (by omega) (by omega)), A2, A1]
  constructor
  · rintro ⟨g1, g2⟩
    refine ⟨g1, fun k hk2 => ?_⟩
    by_cases h : i + 1 ≤ k
    · exact g2 k h hk2
    · exact par_no hk (i := i) (by omega) (by omega) (Or.inl (Int.le_refl _))
  · rintro ⟨g1, g2⟩
    exact ⟨g1, fun k _ hk2 => g2 k hk2⟩
/-- The second one is the greater one, or both are one. -/
theorem walk_second (hk : Tok tx mg) {i : Nat} (hi : i < mg.length) {x : Int} (hy : Al tx mg (256 + (i : Int))) (hx : Al tx mg x) (hxt : inT tx x) (hle : x ≤ 256 + (i : Int)) {n : Nat} (hn : n ≤ mg.length) (hin : i < n) : NC tx mg x (256 + (i : Int)) n ↔ NC tx mg x (gm mg i).1 (i + 1) ∧ ∀ k, k < n → gm mg k ≠ (x, 256 + (i : Int)) := by
  obtain ⟨h1, hA, hB, eA, eB, hAB⟩ := al_parts hk hi hy
  have hp := hk.par i hi
  have hl := hk.len
  have hAne : bL tx (gm mg i).1 ≠ [] := bL_ne hk _ _ (Nat.le_refl _) ⟨hp.1, by omega⟩
  have A1 : NC tx mg x (256 + (i : Int)) i ↔ NC tx mg x (gm mg i).1 i := by
    unfold NC
    constructor
    · intro h
      rw [h1, bL_mer hk hi, ← List.append_assoc] at h
      obtain ⟨e1, _⟩ := enc_sub hk (by omega) ((bL_bt _ _).app (bL_bt _ _)) (bL_bt _ _) (n := i) (u := enc mg i (bL tx x) ++ [(gm mg i).1]) (v := [(gm mg i).2]) (h.trans (by simp)) (by rw [pos_app, pos_enc hk (by omega) (bL_bt _ _), pos_one, ← bL_len, List.length_append])
      rw [← e1, eA]
    · intro h
      have h3 := enc_three hk (bL_bt tx x) (bL_bt tx (gm mg i).1) (bL_bt tx (gm mg i).2) hAne i (by omega) h hAB
      rw [h1, bL_mer hk hi, h3, eA, eB]
      rfl
  have A2 : NC tx mg x (256 + (i : Int)) (i + 1) ↔ NC tx mg x (gm mg i).1 (i + 1) := by
    have key : NC tx mg x (gm mg i).1 i → (NC tx mg x (256 + (i : Int)) (i + 1) ↔ NC tx mg x (gm mg i).1 (i + 1)) := by
      intro h
      have h' := A1.2 h
      unfold NC at h h' ⊢
      rw [enc, h', enc, enc, h1, enc, h, enc, eA]
      rw [scan_app (mer_ne hk hi).1, scan_app (mer_ne hk hi).1]
    constructor
    · intro h
      exact (key (A1.1 (enc_cut1 hk hi (bL_bt _ _) (bL_bt _ _) h))).1 h
    · intro h
      exact (key (enc_cut1 hk hi (bL_bt _ _) (bL_bt _ _) h)).2 h
  rw [nc_two hk (m := i + 1) n (by omega) hn (fun k h _ => hx.at (by omega) (by omega)) (fun k h _ => hy.at (by omega) (by omega)), A2]
  constructor
  · rintro ⟨g1, g2⟩
    refine ⟨g1, fun k hk2 => ?_⟩
    by_cases h : i + 1 ≤ k
    · exact g2 k h hk2
    · exact par_no hk (i := i) (by omega) (by omega) (Or.inr (Int.le_refl _))
  · rintro ⟨g1, g2⟩
    exact ⟨g1, fun k _ hk2 => g2 k hk2⟩
end
end Go.Proofs.YtdpmjaelbjjanaaGreat

namespace Go.Proofs.YtdpmjaelbjjanaaGreat
open Go.RowKit Go.Maps
set_option linter.unusedVariables false
set_option linter.unusedSimpArgs false

/-- Are two the parents of a token below a limit? -/
def prB (mg : List (Int × Int)) (x y L : Int) : Bool := (List.range mg.length).any fun k => decide (gm mg k = (x, y)) && decide (256 + (k : Int) < L)
theorem prB_iff {mg : List (Int × Int)} {x y L : Int} : prB mg x y L = true ↔ ∃ k, k < mg.length ∧ gm mg k = (x, y) ∧ 256 + (k : Int) < L := by
  unfold prB
  simp only [List.any_eq_true, List.mem_range, Bool.and_eq_true, decide_eq_true_eq]
theorem prB_no {mg : List (Int × Int)} {x y L : Int} (h : ∀ k, k < mg.length → gm mg k ≠ (x, y)) : prB mg x y L = false := by
  rw [Bool.eq_false_iff]
  intro e
  obtain ⟨k, h1, h2, _⟩ := prB_iff.1 e
  exact h k h1 h2
theorem prB_at {tx : List ByteArray} {mg : List (Int × Int)} (hk : Tok tx mg) {x y L : Int} {k : Nat} (h1 : k < mg.length) (h2 : gm mg k = (x, y)) : prB mg x y L = decide (256 + (k : Int) < L) := by
  rw [Bool.eq_iff_iff, prB_iff, decide_eq_true_iff]
  constructor
  · rintro ⟨j, h3, h4, h5⟩
    rw [hk.uniq h1 h3 (h2.trans h4.symm)]
    exact h5
  · intro h
    exact ⟨k, h1, h2, h⟩

/-- The walk: may they stand side by side, and how many are taken apart. -/
def wkF (mg : List (Int × Int)) : Nat → Int → Int → Int → Bool × Nat
  | 0, _, _, _ => (true, 0)
  | f + 1, x, y, L =>
    if prB mg x y L = true then (false, 0)
    else if x < 256 ∧ y < 256 then (true, 0)
    else if y < x then ((wkF mg f (gm mg (x - 256).toNat).2 y x).1, (wkF mg f (gm mg (x - 256).toNat).2 y x).2 + 1)
    else ((wkF mg f x (gm mg (y - 256).toNat).1 (y + 1)).1, (wkF mg f x (gm mg (y - 256).toNat).1 (y + 1)).2 + 1)
section
variable {tx : List ByteArray} {mg : List (Int × Int)}
theorem par_at (hk : Tok tx mg) {x : Int} (hx : inT tx x) (h : ¬ x < 256) : (x - 256).toNat < mg.length ∧ x = 256 + ((x - 256).toNat : Int) ∧ inT tx (gm mg (x - 256).toNat).1 ∧ inT tx (gm mg (x - 256).toNat).2 ∧ (gm mg (x - 256).toNat).1 < x ∧ (gm mg (x - 256).toNat).2 < x := by
  have hl := hk.len
  have h1 := hx.2
  have hi : (x - 256).toNat < mg.length := by omega
  have hp := hk.par _ hi
  exact ⟨hi, by omega, ⟨hp.1, by omega⟩, ⟨hp.2.2.1, by omega⟩, by omega, by omega⟩
theorem wkF_fuel (hk : Tok tx mg) : ∀ (f g : Nat) (x y L : Int), inT tx x → inT tx y → x.toNat + y.toNat < f → x.toNat + y.toNat < g → wkF mg f x y L = wkF mg g x y L
  | 0, _, _, _, _, _, _, h, _ => by omega
  | _, 0, _, _, _, _, _, _, h => by omega
  | f + 1, g + 1, x, y, L, hx, hy, hf, hg => by
    have h0 := hx.1
    have h1 := hy.1
    rw [wkF, wkF]
    split
    · rfl
    split
    · rfl
    rename_i h2
    split
    · rename_i h3
      obtain ⟨_, _, hA, hB, h4, h5⟩ := par_at hk hx (by omega)
      have := hB.1
      rw [wkF_fuel hk f g _ _ _ hB hy (by omega) (by omega)]
    · rename_i h3
      obtain ⟨_, _, hA, hB, h4, h5⟩ := par_at hk hy (by omega)
      have := hA.1
      rw [wkF_fuel hk f g _ _ _ hx hA (by omega) (by omega)]
def wk (mg : List (Int × Int)) (x y L : Int) : Bool × Nat := wkF mg (x.toNat + y.toNat + 1) x y L
theorem wk_pair {x y L : Int} (h : prB mg x y L = true) : wk mg x y L = (false, 0) := by
  rw [wk, wkF, if_pos h]
theorem wk_bytes {x y L : Int} (h : prB mg x y L = false) (hx : x < 256) (hy : y < 256) : wk mg x y L = (true, 0) := by
  rw [wk, wkF, if_neg (by rw [h]; simp), if_pos ⟨hx, hy⟩]
theorem wk_first (hk : Tok tx mg) {x y L : Int} (hx : inT tx x) (hy : inT tx y) (h : prB mg x y L = false) (hb : ¬ (x < 256 ∧ y < 256)) (hlt : y < x) : wk mg x y L = ((wk mg (gm mg (x - 256).toNat).2 y x).1, (wk mg (gm mg (x - 256).toNat).2 y x).2 + 1) := by
  have h0 := hx.1
  have h1 := hy.1
  obtain ⟨_, _, hA, hB, h4, h5⟩ := par_at hk hx (by omega)
  have := hB.1
  rw [wk, wkF, if_neg (by rw [h]; simp), if_neg hb, if_pos hlt, wkF_fuel hk (x.toNat + y.toNat) ((gm mg (x - 256).toNat).2.toNat + y.toNat + 1) _ _ _ hB hy (by omega) (by omega)]
  rfl
theorem wk_second (hk : Tok tx mg) {x y L : Int} (hx : inT tx x) (hy : inT tx y) (h : prB mg x y L = false) (hb : ¬ (x < 256 ∧ y < 256)) (hlt : ¬ y < x) : wk mg x y L = ((wk mg x (gm mg (y - 256).toNat).1 (y + 1)).1, (wk mg x (gm mg (y - 256).toNat).1 (y + 1)).2 + 1) := by
  have h0 := hx.1
  have h1 := hy.1
  obtain ⟨_, _, hA, hB, h4, h5⟩ := par_at hk hy (by omega)
  have := hA.1
  rw [wk, wkF, if_neg (by rw [h]; simp), if_neg hb, if_neg hlt, wkF_fuel hk (x.toNat + y.toNat) (x.toNat + (gm mg (y - 256).toNat).1.toNat + 1) _ _ _ hx hA (by omega) (by omega)]
  rfl
/-- How many are taken apart: no more than their numbers tell. -/
theorem wk_few (hk : Tok tx mg) : ∀ (n : Nat) (x y L : Int), x.toNat + y.toNat ≤ n → inT tx x → inT tx y → (wk mg x y L).2 ≤ x.toNat + y.toNat := by
  intro n
  induction n with
  | zero =>
    intro x y L hn hx hy
    cases hp : prB mg x y L with
    | true => rw [wk_pair hp]; exact Nat.zero_le _
    | false => rw [wk_bytes hp (by omega) (by omega)]; exact Nat.zero_le _
  | succ n ih =>
    intro x y L hn hx hy
    have h0 := hx.1
    have h1 := hy.1
    cases hp : prB mg x y L with
    | true => rw [wk_pair hp]; exact Nat.zero_le _
    | false =>
      by_cases hb : x < 256 ∧ y < 256
      · rw [wk_bytes hp hb.1 hb.2]; exact Nat.zero_le _
      by_cases hlt : y < x
      · rw [wk_first hk hx hy hp hb hlt]
        obtain ⟨_, _, hA, hB, h4, h5⟩ := par_at hk hx (by omega)
        have := hB.1
        have := ih (gm mg (x - 256).toNat).2 y x (by omega) hB hy
        simp only
        omega
      · rw [wk_second hk hx hy hp hb hlt]
        obtain ⟨_, _, hA, hB, h4, h5⟩ := par_at hk hy (by omega)
        have := hA.1
        have := ih x (gm mg (y - 256).toNat).1 (y + 1) (by omega) hx hA
        simp only
        omega

/-- As many rounds as there are tokens below a limit. -/
def nL (mg : List (Int × Int)) (L : Int) : Nat := min mg.length (L - 256).toNat
theorem prB_nL {x y L : Int} : prB mg x y L = false ↔ ∀ k, k < nL mg L → gm mg k ≠ (x, y) := by
  constructor
  · intro h k hk2 e
    have : prB mg x y L = true := prB_iff.2 ⟨k, by unfold nL at hk2; omega, e, by unfold nL at hk2; omega⟩
    rw [h] at this
    cases this
  · intro h
    rw [Bool.eq_false_iff]
    intro e
    obtain ⟨k, h1, h2, h3⟩ := prB_iff.1 e
    exact h k (by unfold nL; omega) h2
/-- The walk tells whether anything goes across where two meet that are alone. -/
theorem wk_tells (hk : Tok tx mg) : ∀ (n : Nat) (x y L : Int), x.toNat + y.toNat ≤ n → inT tx x → inT tx y → Al tx mg x → Al tx mg y → x < L → y < L → ((wk mg x y L).1 = true ↔ NC tx mg x y (nL mg L)) := by
  intro n
  induction n with
  | zero =>
    intro x y L hn hx hy ax ay lx ly
    have h0 := hx.1
    have h1 := hy.1
    rw [walk_bytes hk ⟨h0, by omega⟩ ⟨h1, by omega⟩ (by unfold nL; omega), ← prB_nL]
    cases hp : prB mg x y L with
    | true => rw [wk_pair hp]; simp
    | false => rw [wk_bytes hp (by omega) (by omega)]; simp
  | succ n ih =>
    intro x y L hn hx hy ax ay lx ly
    have h0 := hx.1
    have h1 := hy.1
    by_cases hb : x < 256 ∧ y < 256
    · rw [walk_bytes hk ⟨h0, by omega⟩ ⟨h1, by omega⟩ (by unfold nL; omega), ← prB_nL]
      cases hp : prB mg x y L with
      | true => rw [wk_pair hp]; simp
      | false => rw [wk_bytes hp (by omega) (by omega)]; simp
    by_cases hlt : y < x
    · obtain ⟨hi, he, hA, hB, h4, h5⟩ := par_at hk hx (by omega)
      generalize hI : (x - 256).toNat = i at *
      subst he
      have hb0 := hB.1
      have := walk_first hk hi ax ay hy hlt (n := nL mg L) (by unfold nL; omega) (by unfold nL; omega)
      rw [this, ← prB_nL]
      cases hp : prB mg (256 + (i : Int)) y L with
      | true => rw [wk_pair hp]; simp
      | false =>
        rw [wk_first hk hx hy hp hb hlt, hI]
        have := ih (gm mg i).2 y (256 + (i : Int)) (by omega) hB hy (al_parts hk hi ax).2.2.1 ay h5 hlt
        rw [show nL mg (256 + (i : Int)) = i by unfold nL; omega] at this
        simp only [and_true]
        exact this
    · obtain ⟨hi, he, hA, hB, h4, h5⟩ := par_at hk hy (by omega)
      generalize hI : (y - 256).toNat = i at *
      subst he
      have ha0 := hA.1
      have := walk_second hk hi ay ax hx (by omega) (n := nL mg L) (by unfold nL; omega) (by unfold nL; omega)
      rw [this, ← prB_nL]
      cases hp : prB mg x (256 + (i : Int)) L with
      | true => rw [wk_pair hp]; simp
      | false =>
        rw [wk_second hk hx hy hp hb hlt, hI]
        have := ih x (gm mg i).1 (256 + (i : Int) + 1) (by omega) hx hA ax (al_parts hk hi ay).2.1 (by omega) (by omega)
        rw [show nL mg (256 + (i : Int) + 1) = i + 1 by unfold nL; omega] at this
        simp only [and_true]
        exact this
/-- Is a token made of its bytes? -/
def alB (tx : List ByteArray) (mg : List (Int × Int)) (x : Int) : Bool := decide (made mg tx.length (gs tx x.toNat) = [x])
theorem alB_iff (hk : Tok tx mg) {x : Int} : alB tx mg x = true ↔ Al tx mg x := by
  unfold alB Al made bL
  rw [decide_eq_true_iff, rnds_all hk]
/-- With no limit: what is made of both is just both. -/
theorem wk_all (hk : Tok tx mg) {x y L : Int} (hx : inT tx x) (hy : inT tx y) (ax : Al tx mg x) (ay : Al tx mg y) (hL : 256 + (mg.length : Int) ≤ L) : (wk mg x y L).1 = true ↔ enc mg mg.length (bL tx x ++ bL tx y) = [x, y] := by
  have hl := hk.len
  have h1 := hx.2
  have h2 := hy.2
  rw [wk_tells hk _ _ _ _ (Nat.le_refl _) hx hy ax ay (by omega) (by omega), show nL mg L = mg.length by unfold nL; omega]
  unfold NC
  rw [ax, ay]
  rfl
end
end Go.Proofs.YtdpmjaelbjjanaaGreat
