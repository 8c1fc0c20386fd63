/- Which two tokens may stand side by side: the plain mathematics of the walk. -/
import Derived.Test.YtdpmjaelbjjanaaGreatQa26
namespace Go.Proofs.YtdpmjaelbjjanaaGreat
open Go.RowKit Go.Maps
set_option linter.unusedVariables false
set_option linter.unusedSimpArgs false

/-- A token's bytes, as numbers. -/
def bL (tx : List ByteArray) (x : Int) : List Int := bys (gs tx x.toNat) (gs tx x.toNat).size
/-- All are bytes. -/
def Bt (l : List Int) : Prop := ∀ x ∈ l, 0 ≤ x ∧ x < 256
theorem bL_bt (tx : List ByteArray) (x : Int) : Bt (bL tx x) := fun y hy => bys_lt _ _ y hy
theorem Bt.app {l m : List Int} (h : Bt l) (h2 : Bt m) : Bt (l ++ m) := fun x hx => (List.mem_append.1 hx).elim (h x) (h2 x)
theorem bys_app (s t : ByteArray) : bys (s ++ t) (s ++ t).size = bys s s.size ++ bys t t.size := by
  rw [bys_all, bys_all, bys_all]
  simp
theorem bL_len (tx : List ByteArray) (x : Int) : (bL tx x).length = sz tx x := by
  unfold bL sz
  rw [bys_len _ _ (Nat.le_refl _)]

section
variable {tx : List ByteArray} {mg : List (Int × Int)}
theorem pos_app (u v : List Int) : pos tx (u ++ v) = pos tx u + pos tx v := by
  rw [← txt_len, ← txt_len, ← txt_len, txt_append, List.length_append]
theorem pos_one (x : Int) : pos tx [x] = sz tx x := by simp [pos]
theorem pos_enc (hk : Tok tx mg) {n : Nat} (hn : n ≤ mg.length) {X : List Int} (hX : Bt X) : pos tx (enc mg n X) = X.length := by
  rw [← txt_len, txt_enc hk _ _ hn, txt_len]
  exact pos_bytes hk X hX
theorem bL_mer (hk : Tok tx mg) {i : Nat} (hi : i < mg.length) : bL tx (256 + (i : Int)) = bL tx (gm mg i).1 ++ bL tx (gm mg i).2 := by
  have h := hk.made i hi
  unfold bL
  rw [show (256 + (i : Int)).toNat = 256 + i by omega, h]
  exact bys_app _ _
theorem bL_byte (hk : Tok tx mg) {x : Int} (h0 : 0 ≤ x) (h1 : x < 256) : bL tx x = [x] := by
  have h := hk.low x.toNat (by omega)
  unfold bL
  rw [h, bys_all]
  simp [one]
  have : x.toNat < 256 := by omega
  omega
theorem bL_ne (hk : Tok tx mg) : ∀ (n : Nat) (x : Int), x.toNat ≤ n → inT tx x → bL tx x ≠ [] := by
  intro n
  induction n with
  | zero => intro x hx h; rw [bL_byte hk h.1 (by omega)]; simp
  | succ n ih =>
    intro x hx h
    by_cases hb : x < 256
    · rw [bL_byte hk h.1 hb]; simp
    · have hl := hk.len
      obtain ⟨i, hi⟩ : ∃ i : Nat, x = 256 + (i : Int) := ⟨(x - 256).toNat, by omega⟩
      subst hi
      have hi : i < mg.length := by have := h.2; omega
      have hp := hk.par i hi
      rw [bL_mer hk hi]
      have := ih (gm mg i).1 (by omega) ⟨hp.1, by have := h.2; omega⟩
      intro e
      exact this (List.append_eq_nil_iff.1 e).1

/-- A cut at some bytes is a cut of what they are made to. -/
theorem enc_sub (hk : Tok tx mg) {n : Nat} (hn : n ≤ mg.length) {X Y u v : List Int} (hX : Bt X) (hY : Bt Y) (h : enc mg n (X ++ Y) = u ++ v) (hp : pos tx u = X.length) : u = enc mg n X ∧ v = enc mg n Y := by
  obtain ⟨p', q', h1, h2, h3⟩ := enc_split _ _ _ _ h
  have hpb : Bt p' := fun x hx => (hX.app hY) x (by rw [h1]; exact List.mem_append_left _ hx)
  have e1 : p'.length = X.length := by rw [← pos_enc hk hn hpb, ← h2, hp]
  obtain ⟨f1, f2⟩ := List.append_inj h1 e1.symm
  rw [h2, h3, f1, f2]
  exact ⟨rfl, rfl⟩
theorem pos_scan (hk : Tok tx mg) {n : Nat} (hn : n < mg.length) (l : List Int) : pos tx (scan (gm mg n).1 (gm mg n).2 (256 + n) l) = pos tx l := by
  rw [← txt_len, ← txt_len, txt_scan]
  have := hk.made n hn
  rwa [show (256 + (n : Int)).toNat = 256 + n by omega]
/-- Where nothing goes across at last, nothing went across ahead of it. -/
theorem enc_cut1 (hk : Tok tx mg) {n : Nat} (hn : n < mg.length) {X Y : List Int} (hX : Bt X) (hY : Bt Y) (h : enc mg (n + 1) (X ++ Y) = enc mg (n + 1) X ++ enc mg (n + 1) Y) : enc mg n (X ++ Y) = enc mg n X ++ enc mg n Y := by
  have h' := h
  rw [enc] at h'
  obtain ⟨p1, q1, h1, h2, h3⟩ := scan_split _ _ _ h'
  have hp : pos tx p1 = X.length := by
    rw [← pos_scan hk hn p1, ← h2, pos_enc hk (by omega) hX]
  obtain ⟨f1, f2⟩ := enc_sub hk (by omega) hX hY h1 hp
  rw [h1, f1, f2]
theorem enc_cut (hk : Tok tx mg) {X Y : List Int} (hX : Bt X) (hY : Bt Y) {m : Nat} : ∀ n, n ≤ mg.length → m ≤ n → enc mg n (X ++ Y) = enc mg n X ++ enc mg n Y → enc mg m (X ++ Y) = enc mg m X ++ enc mg m Y
  | 0, _, hm, h => by
    obtain rfl : m = 0 := by omega
    exact h
  | n + 1, hn, hm, h => by
    by_cases e : m = n + 1
    · subst e; exact h
    · exact enc_cut hk hX hY n (by omega) (by omega) (enc_cut1 hk (by omega) hX hY h)

/-- Does nothing go across, if y comes behind? -/
def frB (a b : Int) : List Int → Int → Bool
  | [], _ => true
  | [x], y => !(decide (x = a) && decide (y = b))
  | x :: z :: r, y => if x = a ∧ z = b then frB a b r y else frB a b (z :: r) y
theorem scan_app {a b c : Int} (hc : c ≠ a) (y : Int) (v : List Int) : ∀ u, scan a b c (u ++ y :: v) = scan a b c u ++ scan a b c (y :: v) ↔ frB a b u y = true
  | [] => by simp [scan, frB]
  | [x] => by
    simp only [List.cons_append, List.nil_append, frB]
    rw [show scan a b c (x :: y :: v) = if x = a ∧ y = b then c :: scan a b c v else x :: scan a b c (y :: v) from rfl]
    split
    · rename_i e
      constructor
      · intro h
        simp only [scan, List.cons_append, List.cons.injEq] at h
        exact absurd (h.1.trans e.1) hc
      · intro h
        simp [e.1, e.2] at h
    · rename_i e
      simp only [scan, List.cons_append, List.nil_append, true_iff]
      simp only [Bool.not_eq_true', Bool.and_eq_false_iff, decide_eq_false_iff_not]
      by_cases hx : x = a
      · exact Or.inr (fun hy => e ⟨hx, hy⟩)
      · exact Or.inl hx
  | x :: z :: r => by
    simp only [List.cons_append]
    rw [show scan a b c (x :: z :: (r ++ y :: v)) = if x = a ∧ z = b then c :: scan a b c (r ++ y :: v) else x :: scan a b c (z :: (r ++ y :: v)) from rfl]
    rw [show scan a b c (x :: z :: r) = if x = a ∧ z = b then c :: scan a b c r else x :: scan a b c (z :: r) from rfl]
    rw [frB]
    split
    · simp only [List.cons_append, List.cons.injEq, true_and]
      exact scan_app hc y v r
    · simp only [List.cons_append, List.cons.injEq, true_and]
      have := scan_app (b := b) hc y v (z :: r)
      simpa only [List.cons_append] using this
theorem mer_ne (hk : Tok tx mg) {n : Nat} (hn : n < mg.length) : (256 + (n : Int)) ≠ (gm mg n).1 ∧ (256 + (n : Int)) ≠ (gm mg n).2 := by
  have := hk.par n hn
  omega
theorem enc_ne : ∀ (n : Nat) {X : List Int}, X ≠ [] → enc mg n X ≠ []
  | 0, X, h => h
  | n + 1, X, h => by
    rw [enc]
    have := enc_ne n h
    cases hg : enc mg n X with
    | nil => exact absurd hg this
    | cons x r =>
      cases r with
      | nil => simp [scan]
      | cons y r => rw [scan]; split <;> simp
/-- Three: where nothing goes across at either edge of the middle one, nothing does in all of them. -/
theorem enc_three (hk : Tok tx mg) {U V W : List Int} (hU : Bt U) (hV : Bt V) (hW : Bt W) (hne : V ≠ []) : ∀ n, n ≤ mg.length → enc mg n (U ++ V) = enc mg n U ++ enc mg n V → enc mg n (V ++ W) = enc mg n V ++ enc mg n W → enc mg n (U ++ (V ++ W)) = enc mg n U ++ (enc mg n V ++ enc mg n W)
  | 0, _, _, _ => rfl
  | n + 1, hn, h1, h2 => by
    have g1 := enc_cut1 hk (by omega) hU hV h1
    have g2 := enc_cut1 hk (by omega) hV hW h2
    have ih := enc_three hk hU hV hW hne n (by omega) g1 g2
    have hv := enc_ne (mg := mg) n hne
    rw [enc, ih]
    rw [enc, g1, enc, enc] at h1
    rw [enc, g2, enc, enc] at h2
    rw [enc, enc, enc, ← h2]
    obtain ⟨y, v, hy⟩ : ∃ y v, enc mg n V = y :: v := by
      cases hg : enc mg n V with
      | nil => exact absurd hg hv
      | cons y v => exact ⟨y, v, rfl⟩
    rw [hy] at h1 ⊢
    rw [scan_app (mer_ne hk (by omega)).1] at h1
    simp only [List.cons_append]
    exact (scan_app (mer_ne hk (by omega)).1 _ _ _).2 h1

/-- Just it is made of the token's bytes. -/
def Al (tx : List ByteArray) (mg : List (Int × Int)) (x : Int) : Prop := enc mg mg.length (bL tx x) = [x]
/-- Nothing goes across where two meet, by the first n. -/
def NC (tx : List ByteArray) (mg : List (Int × Int)) (x y : Int) (n : Nat) : Prop := enc mg n (bL tx x ++ bL tx y) = enc mg n (bL tx x) ++ enc mg n (bL tx y)

theorem scan_single {a b c x : Int} (hx : c ≠ x) {l : List Int} (h : scan a b c l = [x]) : l = [x] := by
  match l, h with
  | [], h => simp [scan] at h
  | [y], h => simpa [scan] using h
  | y :: z :: r, h =>
    rw [scan] at h
    split at h
    · simp at h; exact absurd h.1 hx
    · simp only [List.cons.injEq] at h
      have h2 := h.2
      cases r with
      | nil => simp [scan] at h2
      | cons q r => rw [scan] at h2; split at h2 <;> simp at h2
theorem scan_made {a b c : Int} {l : List Int} (hm : c ∉ l) (h : scan a b c l = [c]) : l = [a, b] := by
  match l, h with
  | [], h => simp [scan] at h
  | [y], h => simp [scan] at h; exact absurd (by simp [h]) hm
  | y :: z :: r, h =>
    rw [scan] at h
    split at h
    · rename_i e
      simp at h
      cases r with
      | nil => rw [e.1, e.2]
      | cons q r => cases r with
        | nil => simp [scan] at h
        | cons q2 r => rw [scan] at h; split at h <;> simp at h
    · simp only [List.cons.injEq] at h
      exact absurd (by simp [h.1]) hm
/-- It stands as soon as it can. -/
theorem al_from {x : Int} (h : Al tx mg x) : ∀ d n, n + d = mg.length → x < 256 + (n : Int) → enc mg n (bL tx x) = [x]
  | 0, n, hn, hx => by
    obtain rfl : n = mg.length := by omega
    exact h
  | d + 1, n, hn, hx => by
    have := al_from h d (n + 1) (by omega) (by omega)
    rw [enc] at this
    exact scan_single (by omega) this
theorem Al.at {x : Int} (h : Al tx mg x) {n : Nat} (hn : n ≤ mg.length) (hx : x < 256 + (n : Int)) : enc mg n (bL tx x) = [x] := al_from h (mg.length - n) n (by omega) hx
theorem enc_lt {l : List Int} (hl : Bt l) : ∀ n, ∀ x ∈ enc mg n l, x < 256 + (n : Int)
  | 0, x, h => by have := hl x h; omega
  | n + 1, x, h => by
    rw [enc] at h
    rcases scan_mem _ h with h | h
    · omega
    · have := enc_lt hl n x h; omega
theorem al_byte (hk : Tok tx mg) {x : Int} (h0 : 0 ≤ x) (h1 : x < 256) : Al tx mg x := by
  unfold Al
  rw [bL_byte hk h0 h1]
  exact enc_one mg 0 [x] x rfl _ (Nat.zero_le _)
/-- A token that is alone: its parents are, and nothing goes across them until then. -/
theorem al_parts (hk : Tok tx mg) {i : Nat} (hi : i < mg.length) (h : Al tx mg (256 + (i : Int))) : enc mg i (bL tx (256 + (i : Int))) = [(gm mg i).1, (gm mg i).2] ∧ Al tx mg (gm mg i).1 ∧ Al tx mg (gm mg i).2 ∧ enc mg i (bL tx (gm mg i).1) = [(gm mg i).1] ∧ enc mg i (bL tx (gm mg i).2) = [(gm mg i).2] ∧ NC tx mg (gm mg i).1 (gm mg i).2 i := by
  have h1 := h.at (n := i + 1) (by omega) (by omega)
  rw [enc] at h1
  have h2 := scan_made (fun hm => by have := enc_lt (mg := mg) (bL_bt tx (256 + (i : Int))) i _ hm; omega) h1
  have h3 := h2
  rw [bL_mer hk hi] at h3
  obtain ⟨e1, e2⟩ := enc_sub hk (by omega) (bL_bt _ _) (bL_bt _ _) (u := [(gm mg i).1]) (v := [(gm mg i).2]) h3 (by rw [pos_one, bL_len])
  refine ⟨h2, enc_one mg i _ _ e1.symm _ (by omega), enc_one mg i _ _ e2.symm _ (by omega), e1.symm, e2.symm, ?_⟩
  unfold NC
  rw [h3, ← e1, ← e2]
  rfl
/-- And so the other way. -/
theorem al_make (hk : Tok tx mg) {i : Nat} (hi : i < mg.length) (h1 : Al tx mg (gm mg i).1) (h2 : Al tx mg (gm mg i).2) (h : NC tx mg (gm mg i).1 (gm mg i).2 i) : Al tx mg (256 + (i : Int)) := by
  have hp := hk.par i hi
  unfold NC at h
  rw [← bL_mer hk hi, h1.at (by omega) (by omega), h2.at (by omega) (by omega)] at h
  refine enc_one mg (i + 1) _ _ ?_ _ (by omega)
  rw [enc, h]
  simp [scan]

/-- Both stand: something goes across as soon as they are a token's parents. -/
theorem nc_two (hk : Tok tx mg) {x y : Int} {m : Nat} : ∀ n, m ≤ n → n ≤ mg.length → (∀ k, m ≤ k → k ≤ n → enc mg k (bL tx x) = [x]) → (∀ k, m ≤ k → k ≤ n → enc mg k (bL tx y) = [y]) → (NC tx mg x y n ↔ NC tx mg x y m ∧ ∀ k, m ≤ k → k < n → gm mg k ≠ (x, y)) := by
  intro n
  induction n with
  | zero =>
    intro hm _ _ _
    obtain rfl : m = 0 := by omega
    exact ⟨fun h => ⟨h, fun k h1 h2 => by omega⟩, fun h => h.1⟩
  | succ n ih =>
    intro hm hn hx hy
    by_cases e : m = n + 1
    · subst e
      exact ⟨fun h => ⟨h, fun k h1 h2 => by omega⟩, fun h => h.1⟩
    have ih := ih (by omega) (by omega) (fun k h1 h2 => hx k h1 (by omega)) (fun k h1 h2 => hy k h1 (by omega))
    have ex := hx n (by omega) (by omega)
    have ey := hy n (by omega) (by omega)
    have step : NC tx mg x y n → (NC tx mg x y (n + 1) ↔ gm mg n ≠ (x, y)) := by
      intro h
      unfold NC at h ⊢
      rw [ex, ey] at h
      rw [enc, h, hx (n + 1) (by omega) (Nat.le_refl _), hy (n + 1) (by omega) (Nat.le_refl _)]
      simp only [List.cons_append, List.nil_append]
      rw [scan]
      constructor
      · intro h2 e3
        rw [if_pos ⟨by rw [e3], by rw [e3]⟩] at h2
        simp [scan] at h2
      · intro h2
        rw [if_neg (fun e3 => h2 (Prod.ext e3.1.symm e3.2.symm))]
        rfl
    constructor
    · intro h
      have h1 := enc_cut1 hk (by omega) (bL_bt tx x) (bL_bt tx y) h
      have h2 := ih.1 h1
      refine ⟨h2.1, fun k hk1 hk2 => ?_⟩
      by_cases e2 : k = n
      · subst e2
        exact (step h1).1 h
      · exact h2.2 k hk1 (by omega)
    · rintro ⟨h1, h2⟩
      have h3 := ih.2 ⟨h1, fun k a b => h2 k a (by omega)⟩
      exact (step h3).2 (h2 n (by omega) (by omega))
theorem par_no (hk : Tok tx mg) {x y : Int} {i k : Nat} (hk2 : k ≤ i) (hi : k < mg.length) (h : 256 + (i : Int) ≤ x ∨ 256 + (i : Int) ≤ y) : gm mg k ≠ (x, y) := by
  intro e
  have := hk.par k hi
  rw [e] at this
  simp only at this
  omega

/-- Both are bytes. -/
theorem walk_bytes (hk : Tok tx mg) {x y : Int} (hx : 0 ≤ x ∧ x < 256) (hy : 0 ≤ y ∧ y < 256) {n : Nat} (hn : n ≤ mg.length) : NC tx mg x y n ↔ ∀ k, k < n → gm mg k ≠ (x, y) := by
  rw [nc_two hk (m := 0) n (Nat.zero_le _) hn (fun k _ h => (al_byte hk hx.1 hx.2).at (by omega) (by omega)) (fun k _ h => (al_byte hk hy.1 hy.2).at (by omega) (by omega))]
  exact ⟨fun h k hk2 => h.2 k (Nat.zero_le _) hk2, fun h => ⟨rfl, fun k _ h2 => h k h2⟩⟩
/-- The first one is the greater one. -/
theorem walk_first (hk : Tok tx mg) {i : Nat} (hi : i < mg.length) {y : Int} (hx : Al tx mg (256 + (i : Int))) (hy : Al tx mg y) (hyt : inT tx y) (hlt : y < 256 + (i : Int)) {n : Nat} (hn : n ≤ mg.length) (hin : i < n) : NC tx mg (256 + (i : Int)) y n ↔ NC tx mg (gm mg i).2 y i ∧ ∀ k, k < n → gm mg k ≠ (256 + (i : Int), y) := by
  obtain ⟨h1, hA, hB, eA, eB, hAB⟩ := al_parts hk hi hx
  have hp := hk.par i hi
  have hl := hk.len
  have ey : enc mg i (bL tx y) = [y] := hy.at (by omega) (by omega)
  have hBne : bL tx (gm mg i).2 ≠ [] := bL_ne hk _ _ (Nat.le_refl _) ⟨hp.2.2.1, by omega⟩
  have A1 : NC tx mg (256 + (i : Int)) y i ↔ NC tx mg (gm mg i).2 y i := by
    unfold NC
    constructor
    · intro h
      rw [h1, bL_mer hk hi, List.append_assoc] at h
      obtain ⟨_, e2⟩ := enc_sub hk (n := i) (by omega) (bL_bt _ _) ((bL_bt _ _).app (bL_bt _ _)) (u := [(gm mg i).1]) (v := (gm mg i).2 :: enc mg i (bL tx y)) (by rw [h]; rfl) (by rw [pos_one, bL_len])
      rw [← e2, eB]
      rfl
    · intro h
      have h3 := enc_three hk (bL_bt tx (gm mg i).1) (bL_bt tx (gm mg i).2) (bL_bt tx y) hBne i (by omega) hAB h
      rw [h1, bL_mer hk hi, List.append_assoc, h3, eA, eB]
      rfl
  have A2 : NC tx mg (256 + (i : Int)) y (i + 1) ↔ NC tx mg (256 + (i : Int)) y i := by
    constructor
    · intro h; exact enc_cut1 hk hi (bL_bt _ _) (bL_bt _ _) h
    · intro h
      unfold NC at h ⊢
      rw [enc, h, h1, enc, enc, h1, ey]
      simp [scan]
  rw [nc_two hk (m := i + 1) n (by omega) hn (fun k h _ => hx.at (by omega) (by omega)) (fun k h _ => hy.at (by omega) (by omega)), A2, A1]
  constructor
  · rintro ⟨g1, g2⟩
    refine ⟨g1, fun k hk2 => ?_⟩
    by_cases h : i + 1 ≤ k
    · exact g2 k h hk2
    · exact par_no hk (i := i) (by omega) (by omega) (Or.inl (Int.le_refl _))
  · rintro ⟨g1, g2⟩
    exact ⟨g1, fun k _ hk2 => g2 k hk2⟩
/-- The second one is the greater one, or both are one. -/
theorem walk_second (hk : Tok tx mg) {i : Nat} (hi : i < mg.length) {x : Int} (hy : Al tx mg (256 + (i : Int))) (hx : Al tx mg x) (hxt : inT tx x) (hle : x ≤ 256 + (i : Int)) {n : Nat} (hn : n ≤ mg.length) (hin : i < n) : NC tx mg x (256 + (i : Int)) n ↔ NC tx mg x (gm mg i).1 (i + 1) ∧ ∀ k, k < n → gm mg k ≠ (x, 256 + (i : Int)) := by
  obtain ⟨h1, hA, hB, eA, eB, hAB⟩ := al_parts hk hi hy
  have hp := hk.par i hi
  have hl := hk.len
  have hAne : bL tx (gm mg i).1 ≠ [] := bL_ne hk _ _ (Nat.le_refl _) ⟨hp.1, by omega⟩
  have A1 : NC tx mg x (256 + (i : Int)) i ↔ NC tx mg x (gm mg i).1 i := by
    unfold NC
    constructor
    · intro h
      rw [h1, bL_mer hk hi, ← List.append_assoc] at h
      obtain ⟨e1, _⟩ := enc_sub hk (by omega) ((bL_bt _ _).app (bL_bt _ _)) (bL_bt _ _) (n := i) (u := enc mg i (bL tx x) ++ [(gm mg i).1]) (v := [(gm mg i).2]) (h.trans (by simp)) (by rw [pos_app, pos_enc hk (by omega) (bL_bt _ _), pos_one, ← bL_len, List.length_append])
      rw [← e1, eA]
    · intro h
      have h3 := enc_three hk (bL_bt tx x) (bL_bt tx (gm mg i).1) (bL_bt tx (gm mg i).2) hAne i (by omega) h hAB
      rw [h1, bL_mer hk hi, h3, eA, eB]
      rfl
  have A2 : NC tx mg x (256 + (i : Int)) (i + 1) ↔ NC tx mg x (gm mg i).1 (i + 1) := by
    have key : NC tx mg x (gm mg i).1 i → (NC tx mg x (256 + (i : Int)) (i + 1) ↔ NC tx mg x (gm mg i).1 (i + 1)) := by
      intro h
      have h' := A1.2 h
      unfold NC at h h' ⊢
      rw [enc, h', enc, enc, h1, enc, h, enc, eA]
      rw [scan_app (mer_ne hk hi).1, scan_app (mer_ne hk hi).1]
    constructor
    · intro h
      exact (key (A1.1 (enc_cut1 hk hi (bL_bt _ _) (bL_bt _ _) h))).1 h
    · intro h
      exact (key (enc_cut1 hk hi (bL_bt _ _) (bL_bt _ _) h)).2 h
  rw [nc_two hk (m := i + 1) n (by omega) hn (fun k h _ => hx.at (by omega) (by omega)) (fun k h _ => hy.at (by omega) (by omega)), A2]
  constructor
  · rintro ⟨g1, g2⟩
    refine ⟨g1, fun k hk2 => ?_⟩
    by_cases h : i + 1 ≤ k
    · exact g2 k h hk2
    · exact par_no hk (i := i) (by omega) (by omega) (Or.inr (Int.le_refl _))
  · rintro ⟨g1, g2⟩
    exact ⟨g1, fun k _ hk2 => g2 k hk2⟩
end
end Go.Proofs.YtdpmjaelbjjanaaGreat
