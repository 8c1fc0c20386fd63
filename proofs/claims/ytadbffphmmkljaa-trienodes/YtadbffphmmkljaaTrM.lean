/- Tokens by how they begin, as plain data: which texts begin some token's bytes, how many tokens begin so, and how many such texts there are. -/
import Derived.Test.YtadbffphmmkljaaTkM
namespace Go.Proofs.Ytadbffphmmkljaa
set_option linter.unusedVariables false
set_option linter.unusedSimpArgs false

/-- Does t begin some of these, or y (what is entered so far)? -/
def ndT (S : List (List UInt8)) (y : Option (List UInt8)) (t : List UInt8) : Prop := t = [] ∨ (∃ s ∈ S, t <+: s) ∨ ∃ x, y = some x ∧ t <+: x
/-- How many begin so. -/
def undT (S : List (List UInt8)) (y : Option (List UInt8)) (t : List UInt8) : Nat := S.countP (fun s => t.isPrefixOf s) + (if ∃ x, y = some x ∧ t <+: x then 1 else 0)
/-- The token of just these bytes. -/
def idT (S : List (List UInt8)) (t : List UInt8) : Option Nat := S.findIdx? (fun s => decide (s = t))
/-- How many unlike beginnings the first k bytes of x have that none of S has. -/
def frT (S : List (List UInt8)) (x : List UInt8) : Nat → Nat
  | 0 => 0
  | k + 1 => frT S x k + if S.any (fun s => (x.take (k + 1)).isPrefixOf s) then 0 else 1
/-- How many there are of the first i tokens. -/
def cnT (S : List (List UInt8)) : Nat → Nat
  | 0 => 1
  | i + 1 => cnT S i + frT (S.take i) (S.getD i []) (S.getD i []).length
theorem frT_le (S : List (List UInt8)) (x : List UInt8) : ∀ k, frT S x k ≤ k
  | 0 => Nat.le_refl _
  | k + 1 => by
    have := frT_le S x k
    unfold frT
    split <;> omega
theorem cnT_le (S : List (List UInt8)) (h : ∀ s ∈ S, s.length ≤ 64) : ∀ i, i ≤ S.length → cnT S i ≤ 1 + 64 * i
  | 0, _ => Nat.le_refl _
  | i + 1, hi => by
    have h1 := cnT_le S h i (by omega)
    have h2 := frT_le (S.take i) (S.getD i []) (S.getD i []).length
    have h3 : (S.getD i []).length ≤ 64 := by
      rw [List.getD_eq_getElem?_getD, List.getElem?_eq_getElem (by omega)]
      exact h _ (List.getElem_mem _)
    unfold cnT
    omega
theorem pre_take {t x : List UInt8} (h : t <+: x) : t = x.take t.length := (List.prefix_iff_eq_take.1 h)
theorem pre_snoc {t x : List UInt8} {i : Nat} (hi : i < x.length) (h : t <+: x.take (i + 1)) : t <+: x.take i ∨ t = x.take (i + 1) := by
  by_cases e : t.length = i + 1
  · right
    have := pre_take h
    rw [e, List.take_take, Nat.min_self] at this
    exact this
  · left
    have hl := h.length_le
    rw [List.length_take] at hl
    have := pre_take h
    rw [List.take_take, Nat.min_eq_left (by omega)] at this
    rw [this]
    exact List.take_prefix_take_left (by omega)
theorem pre_up {x : List UInt8} {i : Nat} : x.take i <+: x.take (i + 1) := List.take_prefix_take_left (by omega)
/-- The next node is made, or there. -/
theorem ndT_next {S : List (List UInt8)} {x : List UInt8} {i : Nat} (hi : i < x.length) (t : List UInt8) : ndT S (some (x.take (i + 1))) t ↔ (ndT S (some (x.take i)) t ∨ t = x.take (i + 1)) := by
  unfold ndT
  constructor
  · rintro (h | h | ⟨_, e1, h⟩)
    · exact Or.inl (Or.inl h)
    · exact Or.inl (Or.inr (Or.inl h))
    · cases e1
      rcases pre_snoc hi h with h | h
      · exact Or.inl (Or.inr (Or.inr ⟨_, rfl, h⟩))
      · exact Or.inr h
  · rintro ((h | h | ⟨_, e1, h⟩) | rfl)
    · exact Or.inl h
    · exact Or.inr (Or.inl h)
    · cases e1
      exact Or.inr (Or.inr ⟨_, rfl, h.trans pre_up⟩)
    · exact Or.inr (Or.inr ⟨_, rfl, List.prefix_refl _⟩)
theorem ndT_at {S : List (List UInt8)} {x : List UInt8} {i : Nat} (hi : i < x.length) : ndT S (some (x.take i)) (x.take (i + 1)) ↔ ∃ s ∈ S, x.take (i + 1) <+: s := by
  unfold ndT
  constructor
  · rintro (h | h | ⟨_, e1, h⟩)
    · have h2 := congrArg List.length h
      rw [List.length_take, List.length_nil] at h2
      omega
    · exact h
    · cases e1
      have h2 := h.length_le
      rw [List.length_take, List.length_take] at h2
      omega
  · intro h
    exact Or.inr (Or.inl h)
theorem any_pre {S : List (List UInt8)} {t : List UInt8} : S.any (fun s => t.isPrefixOf s) = true ↔ ∃ s ∈ S, t <+: s := by
  simp [List.any_eq_true, List.isPrefixOf_iff_prefix]
theorem undT_next {S : List (List UInt8)} {x : List UInt8} {i : Nat} (hi : i < x.length) (t : List UInt8) : undT S (some (x.take (i + 1))) t = if t = x.take (i + 1) then undT S (some (x.take i)) t + 1 else undT S (some (x.take i)) t := by
  unfold undT
  have hl : (x.take (i + 1)).length = i + 1 := by simp; omega
  have hl0 : (x.take i).length = i := by simp; omega
  by_cases e : t = x.take (i + 1)
  · subst e
    have h1 : ∃ y, some (x.take (i + 1)) = some y ∧ x.take (i + 1) <+: y := ⟨_, rfl, List.prefix_refl _⟩
    have h2 : ¬ ∃ y, some (x.take i) = some y ∧ x.take (i + 1) <+: y := by
      rintro ⟨_, e, h⟩
      cases e
      have := h.length_le
      omega
    rw [if_pos rfl, if_pos h1, if_neg h2]
  · rw [if_neg e]
    have : (∃ y, some (x.take (i + 1)) = some y ∧ t <+: y) ↔ ∃ y, some (x.take i) = some y ∧ t <+: y := by
      constructor
      · rintro ⟨_, e1, h⟩
        cases e1
        rcases pre_snoc hi h with h | h
        · exact ⟨_, rfl, h⟩
        · exact absurd h e
      · rintro ⟨_, e1, h⟩
        cases e1
        exact ⟨_, rfl, h.trans pre_up⟩
    simp only [this]
theorem undT_first {S : List (List UInt8)} (t : List UInt8) : undT S (some []) t = if t = [] then undT S none t + 1 else undT S none t := by
  unfold undT
  have h0 : ¬ ∃ y, (none : Option (List UInt8)) = some y ∧ t <+: y := by rintro ⟨_, e, _⟩; cases e
  by_cases e : t = []
  · subst e
    rw [if_pos rfl, if_neg h0, if_pos ⟨[], rfl, List.prefix_refl _⟩]
  · rw [if_neg e, if_neg h0, if_neg]
    rintro ⟨_, e1, h⟩
    cases e1
    exact e (List.prefix_nil.1 h)
theorem ndT_first {S : List (List UInt8)} (t : List UInt8) : ndT S (some []) t ↔ ndT S none t := by
  unfold ndT
  constructor
  · rintro (h | h | ⟨_, e1, h⟩)
    · exact Or.inl h
    · exact Or.inr (Or.inl h)
    · cases e1
      exact Or.inl (List.prefix_nil.1 h)
  · rintro (h | h | ⟨_, e1, h⟩)
    · exact Or.inl h
    · exact Or.inr (Or.inl h)
    · cases e1
theorem ndT_last {S : List (List UInt8)} {x : List UInt8} (t : List UInt8) : ndT (S ++ [x]) none t ↔ ndT S (some x) t := by
  unfold ndT
  constructor
  · rintro (h | ⟨s, hs, h⟩ | ⟨_, e1, h⟩)
    · exact Or.inl h
    · rcases List.mem_append.1 hs with h1 | h1
      · exact Or.inr (Or.inl ⟨s, h1, h⟩)
      · obtain rfl := List.mem_singleton.1 h1
        exact Or.inr (Or.inr ⟨_, rfl, h⟩)
    · cases e1
  · rintro (h | ⟨s, hs, h⟩ | ⟨_, e1, h⟩)
    · exact Or.inl h
    · exact Or.inr (Or.inl ⟨s, by simp [hs], h⟩)
    · cases e1
      exact Or.inr (Or.inl ⟨_, by simp, h⟩)
theorem undT_last {S : List (List UInt8)} {x : List UInt8} (t : List UInt8) : undT (S ++ [x]) none t = undT S (some x) t := by
  unfold undT
  have h0 : ¬ ∃ y, (none : Option (List UInt8)) = some y ∧ t <+: y := by rintro ⟨_, e, _⟩; cases e
  rw [if_neg h0, List.countP_append]
  by_cases h : t <+: x
  · rw [if_pos ⟨_, rfl, h⟩]
    simp [List.countP_cons, List.isPrefixOf_iff_prefix.2 h]
  · have h1 : ¬ ∃ y, some x = some y ∧ t <+: y := by rintro ⟨_, e, h2⟩; cases e; exact h h2
    rw [if_neg h1]
    have : t.isPrefixOf x = false := by
      cases hb : t.isPrefixOf x with
      | false => rfl
      | true => exact absurd (List.isPrefixOf_iff_prefix.1 hb) h
    simp [List.countP_cons, this]
theorem idT_last {S : List (List UInt8)} {x : List UInt8} (hx : x ∉ S) (t : List UInt8) : idT (S ++ [x]) t = if t = x then some S.length else idT S t := by
  unfold idT
  rw [List.findIdx?_append]
  by_cases e : t = x
  · subst e
    have : S.findIdx? (fun s => decide (s = t)) = none := by
      rw [List.findIdx?_eq_none_iff]
      intro s hs
      exact decide_eq_false (fun e => hx (by rw [← e]; exact hs))
    rw [if_pos rfl, this]
    simp
  · rw [if_neg e]
    have : ¬ x = t := fun h => e h.symm
    cases S.findIdx? (fun s => decide (s = t)) <;> simp [List.findIdx?_cons, this]

/-- Is token k's text longer than t, beginning with t and a byte of C? -/
def belC (S : List (List UInt8)) (t : List UInt8) (C : UInt8 → Prop) (k : Nat) : Prop := ∃ c, C c ∧ ∃ s, S[k]? = some s ∧ (t ++ [c]) <+: s
/-- All of these, each once. -/
def Bel (S : List (List UInt8)) (t : List UInt8) (C : UInt8 → Prop) (P : List Nat) : Prop := P.Nodup ∧ ∀ k, k ∈ P ↔ belC S t C k
theorem bel_none (S : List (List UInt8)) (t : List UInt8) : Bel S t (fun _ => False) [] := ⟨List.nodup_nil, fun k => ⟨fun h => (by cases h), fun ⟨_, h, _⟩ => h.elim⟩⟩
theorem pre_byte {t s : List UInt8} {c d : UInt8} (h1 : (t ++ [c]) <+: s) (h2 : (t ++ [d]) <+: s) : c = d := by
  obtain ⟨u, hu⟩ := h1
  obtain ⟨v, hv⟩ := h2
  rw [← hu] at hv
  simp at hv
  exact hv.1.symm
theorem pre_more {t s : List UInt8} (h : t <+: s) : s = t ∨ ∃ c, (t ++ [c]) <+: s := by
  obtain ⟨u, rfl⟩ := h
  cases u with
  | nil => left; simp
  | cons c u => right; exact ⟨c, u, by simp⟩
theorem not_pre_self {t : List UInt8} {c : UInt8} (h : (t ++ [c]) <+: t) : False := by
  have := h.length_le
  simp at this
  omega
theorem idT_some {S : List (List UInt8)} {t : List UInt8} {k : Nat} (h : idT S t = some k) : S[k]? = some t := by
  unfold idT at h
  obtain ⟨hk, h1, _⟩ := List.findIdx?_eq_some_iff_getElem.1 h
  rw [List.getElem?_eq_getElem hk]
  simpa using h1
theorem idT_of {S : List (List UInt8)} (hN : S.Nodup) {t : List UInt8} {k : Nat} (h : S[k]? = some t) : idT S t = some k := by
  unfold idT
  obtain ⟨hk, e⟩ := List.getElem?_eq_some_iff.1 h
  rw [List.findIdx?_eq_some_iff_getElem]
  refine ⟨hk, by simp [e], fun j hj => ?_⟩
  have := (List.pairwise_iff_getElem.1 hN) j k (by omega) hk hj
  rw [e] at this
  simpa using this
theorem idT_none {S : List (List UInt8)} {t : List UInt8} (h : idT S t = none) (k : Nat) : S[k]? ≠ some t := by
  unfold idT at h
  rw [List.findIdx?_eq_none_iff] at h
  intro e
  have := h t (List.mem_of_getElem? e)
  simp at this
/-- One more byte: its token, and all below it. -/
theorem bel_next {S : List (List UInt8)} (hN : S.Nodup) {t : List UInt8} {C : UInt8 → Prop} {P R : List Nat} {c : UInt8} (h : Bel S t C P) (hc : ¬ C c) (hR : Bel S (t ++ [c]) (fun _ => True) R) :
    Bel S t (fun d => C d ∨ d = c) (P ++ (idT S (t ++ [c])).toList ++ R) := by
  have hI : ∀ k, k ∈ (idT S (t ++ [c])).toList ↔ S[k]? = some (t ++ [c]) := fun k => by
    rw [Option.mem_toList]
    exact ⟨fun e => idT_some e, fun e => idT_of hN e⟩
  refine ⟨?_, fun k => ?_⟩
  · rw [List.nodup_append, List.nodup_append]
    refine ⟨⟨h.1, by cases idT S (t ++ [c]) <;> simp, ?_⟩, hR.1, ?_⟩
    · intro a ha b hb e
      subst e
      obtain ⟨d, hd, s, hs, hp⟩ := (h.2 a).1 ha
      rw [(hI a).1 hb] at hs
      cases hs
      exact hc (by rw [← pre_byte hp (List.prefix_refl _)]; exact hd)
    · intro a ha b hb e
      subst e
      obtain ⟨d, _, s, hs, hp⟩ := (hR.2 a).1 hb
      rcases List.mem_append.1 ha with ha | ha
      · obtain ⟨d2, hd2, s2, hs2, hp2⟩ := (h.2 a).1 ha
        rw [hs] at hs2
        cases hs2
        exact hc (by rw [← pre_byte hp2 ((List.prefix_append _ _).trans hp)]; exact hd2)
      · rw [(hI a).1 ha] at hs
        cases hs
        exact not_pre_self hp
  · rw [List.mem_append, List.mem_append, h.2 k, hI k, hR.2 k]
    constructor
    · rintro ((⟨d, hd, s, hs, hp⟩ | hs) | ⟨d, _, s, hs, hp⟩)
      · exact ⟨d, Or.inl hd, s, hs, hp⟩
      · exact ⟨c, Or.inr rfl, _, hs, List.prefix_refl _⟩
      · exact ⟨c, Or.inr rfl, s, hs, (List.prefix_append _ _).trans hp⟩
    · rintro ⟨d, hd | rfl, s, hs, hp⟩
      · exact Or.inl (Or.inl ⟨d, hd, s, hs, hp⟩)
      · rcases pre_more hp with e | ⟨d2, h2⟩
        · exact Or.inl (Or.inr (by rw [← e]; exact hs))
        · exact Or.inr ⟨d2, trivial, s, hs, h2⟩
/-- No byte is left that leads anywhere. -/
theorem bel_all {S : List (List UInt8)} {t : List UInt8} {C : UInt8 → Prop} {P : List Nat} (h : Bel S t C P) (hC : ∀ c, (∃ s ∈ S, (t ++ [c]) <+: s) → C c) : Bel S t (fun _ => True) P :=
  ⟨h.1, fun k => by
    rw [h.2 k]
    constructor
    · rintro ⟨c, _, r⟩
      exact ⟨c, trivial, r⟩
    · rintro ⟨c, _, s, hs, hp⟩
      exact ⟨c, hC c ⟨s, List.mem_of_getElem? hs, hp⟩, s, hs, hp⟩⟩

/-- The tokens that begin with t, rising; those that have more bytes. -/
def wiT (S : List (List UInt8)) (t : List UInt8) : List Nat := (List.range S.length).filter (fun k => t.isPrefixOf (S.getD k []))
def loT (S : List (List UInt8)) (t : List UInt8) : List Nat := (List.range S.length).filter (fun k => t.isPrefixOf (S.getD k []) && decide (t.length < (S.getD k []).length))
/-- The tokens that begin t's first k bytes, the shortest first. -/
def beT (S : List (List UInt8)) (t : List UInt8) : Nat → List Nat
  | 0 => []
  | k + 1 => beT S t k ++ (idT S (t.take (k + 1))).toList
theorem getD_some {S : List (List UInt8)} {k : Nat} {s : List UInt8} (h : S[k]? = some s) : k < S.length ∧ S.getD k [] = s := by
  obtain ⟨hk, e⟩ := List.getElem?_eq_some_iff.1 h
  exact ⟨hk, by rw [List.getD_eq_getElem?_getD, h]; rfl⟩
theorem mem_wiT {S : List (List UInt8)} {t : List UInt8} {k : Nat} : k ∈ wiT S t ↔ ∃ s, S[k]? = some s ∧ t <+: s := by
  unfold wiT
  rw [List.mem_filter, List.mem_range, List.isPrefixOf_iff_prefix]
  constructor
  · rintro ⟨hk, h⟩
    exact ⟨S.getD k [], by rw [List.getD_eq_getElem?_getD, List.getElem?_eq_getElem hk]; rfl, h⟩
  · rintro ⟨s, hs, h⟩
    obtain ⟨hk, e⟩ := getD_some hs
    exact ⟨hk, by rw [e]; exact h⟩
theorem mem_loT {S : List (List UInt8)} {t : List UInt8} {k : Nat} : k ∈ loT S t ↔ belC S t (fun _ => True) k := by
  unfold loT belC
  rw [List.mem_filter, List.mem_range, Bool.and_eq_true, List.isPrefixOf_iff_prefix, decide_eq_true_iff]
  constructor
  · rintro ⟨hk, h, hl⟩
    have hs : S[k]? = some (S.getD k []) := by rw [List.getD_eq_getElem?_getD, List.getElem?_eq_getElem hk]; rfl
    rcases pre_more h with e | ⟨c, h2⟩
    · rw [e] at hl; omega
    · exact ⟨c, trivial, _, hs, h2⟩
  · rintro ⟨c, _, s, hs, h⟩
    obtain ⟨hk, e⟩ := getD_some hs
    have := h.length_le
    rw [e]
    exact ⟨hk, (List.prefix_append _ _).trans h, by simp at this; omega⟩
/-- What is gathered, sorted. -/
theorem sort_uniq {A B : List Nat} (hA : A.Nodup) (hB : B.Pairwise (· < ·)) (h : ∀ k, k ∈ A ↔ k ∈ B) : (A.map (fun (k : Nat) => (k : Int))).mergeSort (fun x y => decide (x ≤ y)) = B.map (fun (k : Nat) => (k : Int)) := by
  have hp : A.Perm B := by
    rw [List.perm_iff_count]
    intro a
    have hBn : B.Nodup := hB.imp (fun h => by omega)
    by_cases ha : a ∈ A
    · rw [hA.count, hBn.count, if_pos ha, if_pos ((h a).1 ha)]
    · rw [hA.count, hBn.count, if_neg ha, if_neg (fun e => ha ((h a).2 e))]
  have h1 : ((A.map (fun (k : Nat) => (k : Int))).mergeSort (fun x y => decide (x ≤ y))).Perm (B.map (fun (k : Nat) => (k : Int))) := (List.mergeSort_perm _ _).trans (hp.map _)
  have h2 : ((A.map (fun (k : Nat) => (k : Int))).mergeSort (fun x y => decide (x ≤ y))).Pairwise (fun x y => x ≤ y) :=
    (List.pairwise_mergeSort (le := fun x y : Int => decide (x ≤ y)) (fun a b c h1 h2 => by simp at *; omega) (fun a b => by simp; omega) _).imp (fun h => by simpa using h)
  have h3 : (B.map (fun (k : Nat) => (k : Int))).Pairwise (fun x y => x ≤ y) := by
    rw [List.pairwise_map]
    exact hB.imp (fun h => by omega)
  exact h1.eq_of_pairwise (fun a b _ _ h1 h2 => by omega) h2 h3
theorem wiT_up (S : List (List UInt8)) (t : List UInt8) : (wiT S t).Pairwise (· < ·) := List.Pairwise.filter _ List.pairwise_lt_range
theorem loT_up (S : List (List UInt8)) (t : List UInt8) : (loT S t).Pairwise (· < ·) := List.Pairwise.filter _ List.pairwise_lt_range
theorem bel_wi {S : List (List UInt8)} (hN : S.Nodup) {t : List UInt8} {P : List Nat} (h : Bel S t (fun _ => True) P) : (P ++ (idT S t).toList).Nodup ∧ ∀ k, k ∈ P ++ (idT S t).toList ↔ k ∈ wiT S t := by
  have hI : ∀ k, k ∈ (idT S t).toList ↔ S[k]? = some t := fun k => by
    rw [Option.mem_toList]
    exact ⟨fun e => idT_some e, fun e => idT_of hN e⟩
  refine ⟨?_, fun k => ?_⟩
  · rw [List.nodup_append]
    refine ⟨h.1, by cases idT S t <;> simp, ?_⟩
    intro a ha b hb e
    subst e
    obtain ⟨d, _, s, hs, hp⟩ := (h.2 a).1 ha
    rw [(hI a).1 hb] at hs
    cases hs
    exact not_pre_self hp
  · rw [List.mem_append, h.2 k, hI k, mem_wiT]
    constructor
    · rintro (⟨d, _, s, hs, hp⟩ | hs)
      · exact ⟨s, hs, (List.prefix_append _ _).trans hp⟩
      · exact ⟨_, hs, List.prefix_refl _⟩
    · rintro ⟨s, hs, hp⟩
      rcases pre_more hp with e | ⟨c, h2⟩
      · exact Or.inr (by rw [← e]; exact hs)
      · exact Or.inl ⟨c, trivial, s, hs, h2⟩
theorem wiT_len (S : List (List UInt8)) (t : List UInt8) : (wiT S t).length = undT S none t := by
  have h0 : ¬ ∃ y, (none : Option (List UInt8)) = some y ∧ t <+: y := by rintro ⟨_, e, _⟩; cases e
  unfold wiT undT
  rw [if_neg h0, Nat.add_zero, ← List.countP_eq_length_filter]
  have : ∀ n, n ≤ S.length → List.countP (fun k => t.isPrefixOf (S.getD k [])) (List.range n) = List.countP (fun s => t.isPrefixOf s) (S.take n) := by
    intro n
    induction n with
    | zero => intro _; rfl
    | succ n ih =>
      intro hn
      have hg : S.getD n [] = S[n] := by rw [List.getD_eq_getElem?_getD, List.getElem?_eq_getElem hn]; rfl
      rw [List.range_succ, List.countP_append, ih (by omega), ← List.take_append_getElem hn, List.countP_append]
      simp only [List.countP_cons, List.countP_nil, hg]
  have h1 := this S.length (Nat.le_refl _)
  rwa [List.take_length] at h1
theorem ndT_pre {S : List (List UInt8)} {y : Option (List UInt8)} {s t : List UInt8} (h : ndT S y s) (hp : t <+: s) : ndT S y t := by
  rcases h with rfl | ⟨x, hx, h⟩ | ⟨x, e, h⟩
  · exact Or.inl (List.prefix_nil.1 hp)
  · exact Or.inr (Or.inl ⟨x, hx, hp.trans h⟩)
  · exact Or.inr (Or.inr ⟨x, e, hp.trans h⟩)
theorem ndT_wi {S : List (List UInt8)} {t : List UInt8} (h : ¬ ndT S none t) : wiT S t = [] ∧ loT S t = [] ∧ idT S t = none ∧ undT S none t = 0 := by
  have hw : wiT S t = [] := by
    rw [List.eq_nil_iff_forall_not_mem]
    intro k hk
    obtain ⟨s, hs, hp⟩ := mem_wiT.1 hk
    exact h (Or.inr (Or.inl ⟨s, List.mem_of_getElem? hs, hp⟩))
  refine ⟨hw, ?_, ?_, by rw [← wiT_len, hw]; rfl⟩
  · rw [List.eq_nil_iff_forall_not_mem]
    intro k hk
    obtain ⟨c, _, s, hs, hp⟩ := mem_loT.1 hk
    exact h (Or.inr (Or.inl ⟨s, List.mem_of_getElem? hs, (List.prefix_append _ _).trans hp⟩))
  · cases e : idT S t with
    | none => rfl
    | some k => exact absurd (Or.inr (Or.inl ⟨t, List.mem_of_getElem? (idT_some e), List.prefix_refl _⟩)) h
theorem beT_stop {S : List (List UInt8)} {t : List UInt8} {i : Nat} (h : ¬ ndT S none (t.take (i + 1))) : ∀ k, beT S t (i + k) = beT S t i
  | 0 => rfl
  | k + 1 => by
    have h1 : ¬ ndT S none (t.take (i + k + 1)) := fun e => h (ndT_pre e (List.take_prefix_take_left (by omega)))
    show beT S t (i + k) ++ (idT S (t.take (i + k + 1))).toList = beT S t i
    rw [beT_stop h k, (ndT_wi h1).2.2.1]
    simp
theorem beT_len (S : List (List UInt8)) (t : List UInt8) : ∀ k, (beT S t k).length ≤ k
  | 0 => Nat.le_refl _
  | k + 1 => by
    have := beT_len S t k
    unfold beT
    rw [List.length_append]
    cases idT S (t.take (k + 1)) <;> simp <;> omega
theorem wiT_le (S : List (List UInt8)) (t : List UInt8) : (wiT S t).length ≤ S.length := by
  have := List.length_filter_le (fun k => t.isPrefixOf (S.getD k [])) (List.range S.length)
  rw [List.length_range] at this
  exact this
theorem nodup_le : ∀ {n : Nat} {P : List Nat}, P.Nodup → (∀ k ∈ P, k < n) → P.length ≤ n
  | 0, P, _, h => by
    cases P with
    | nil => exact Nat.le_refl _
    | cons a r => exact absurd (h a (by simp)) (by omega)
  | n + 1, P, hN, h => by
    have h1 := nodup_le (n := n) (P := P.erase n) (hN.erase n) (fun k hk => by
      have h2 := h k (List.mem_of_mem_erase hk)
      have h3 : k ≠ n := fun e => by
        subst e
        exact hN.not_mem_erase hk
      omega)
    have h4 := List.length_erase (a := n) (l := P)
    split at h4 <;> omega
theorem bel_le {S : List (List UInt8)} {t : List UInt8} {C : UInt8 → Prop} {P : List Nat} (h : Bel S t C P) : P.length ≤ S.length :=
  nodup_le h.1 (fun k hk => by
    obtain ⟨c, _, s, hs, _⟩ := (h.2 k).1 hk
    exact (List.getElem?_eq_some_iff.1 hs).1)
end Go.Proofs.Ytadbffphmmkljaa
