/- Maps whose elements count up: which keys they have, and at which place; a frame by lists of blocks. Nothing of the program is named. Plain mathematics: things with a rank, a place and a turn, in a list that is a heap; nothing of the program is named. -/
import Derived.Below
import Derived.WalkKit
import Derived.WalkSpells
import Derived.WalkLawsBesides
import Derived.WalkSmall
import Derived.Laws.OwnMore
import Derived.Maps.Own
import Derived.Maps.OwnSet
import Derived.Maps.OwnOps
import Derived.Maps.Views
import Derived.Maps.AppendAt
import Derived.Deep.AppendLies
namespace Go.Proofs.YtdpmjaelbjjanaaGreat
open Go.RowKit Go.Maps
set_option linter.unusedVariables false
set_option linter.unusedSimpArgs false

theorem hide {p : Prop} (h : p) : Hid p := h
theorem unhide {p : Prop} (h : Hid p) : p := h

/-- All but the blocks F is as it was. -/
structure FrL (F : List Nat) (w w' : World) : Prop where
  os : w'.os = w.os
  tape : w'.tape = w.tape
  output : w'.output = w.output
  size : w.heap.size ≤ w'.heap.size
  block : ∀ k, k < w.heap.size → k ∉ F → w'.heap[k]? = w.heap[k]?

theorem FrL.refl (F : List Nat) (w : World) : FrL F w w := ⟨rfl, rfl, rfl, Nat.le_refl _, fun _ _ _ => rfl⟩
/-- F' has nothing of old memory that F hasn't. -/
def NwL (w : World) (F F' : List Nat) : Prop := ∀ k ∈ F', k ∈ F ∨ w.heap.size ≤ k
theorem NwL.refl (w : World) (F : List Nat) : NwL w F F := fun k hk => Or.inl hk
theorem NwL.trans {w w1 : World} {F F1 F2 : List Nat} (h : NwL w F F1) (hs : w.heap.size ≤ w1.heap.size) (k : NwL w1 F1 F2) : NwL w F F2 := fun i hi => by
  rcases k i hi with h1 | h1
  · exact h i h1
  · exact Or.inr (Nat.le_trans hs h1)
theorem FrL.trans {F F1 : List Nat} {w w1 w2 : World} (h : FrL F w w1) (hn : NwL w F F1) (k : FrL F1 w1 w2) : FrL F w w2 :=
  ⟨k.os.trans h.os, k.tape.trans h.tape, k.output.trans h.output, Nat.le_trans h.size k.size, fun i hi hF =>
    (k.block i (Nat.lt_of_lt_of_le hi h.size) (fun e => by
      rcases hn i e with h1 | h1
      · exact hF h1
      · omega)).trans (h.block i hi hF)⟩
theorem FrL.trans' {F : List Nat} {w w1 w2 : World} (h : FrL F w w1) (k : FrL F w1 w2) : FrL F w w2 := h.trans (NwL.refl _ _) k
theorem FrL.ofBelow {F : List Nat} {w w' : World} (h : Below w.heap.size w w') : FrL F w w' := ⟨h.os, h.tape, h.output, h.size, fun k hk _ => h.block k hk⟩
theorem FrL.ofGrown {F : List Nat} {w w' : World} {row : Option Nat} (h : w.grownBy w' row) (hr : ∀ k, row = some k → k ∈ F) : FrL F w w' :=
  ⟨h.os, h.tape, h.output, h.size, fun k hk hF => h.block k hk (fun e => hF (hr k e.symm))⟩
theorem FrL.drew {F : List Nat} {w w' : World} (h : FrL F w w') : FrL F w w'.drew := ⟨h.os, h.tape, h.output, h.size, h.block⟩
theorem FrL.set {F : List Nat} {w w' : World} (h : FrL F w w') {b o : Nat} (hb : b ∈ F) (u : Value) : FrL F w (w'.setCell ⟨b, o, none⟩ u) :=
  h.trans' ⟨rfl, rfl, rfl, by simp, fun k hk hF => heap_setCell_other w' ⟨b, o, none⟩ k u (fun e => hF (by rw [e]; exact hb))⟩
theorem FrL.below {F : List Nat} {w w' : World} (h : FrL F w w') {B : Nat} (hB : B ≤ w.heap.size) (hF : ∀ k ∈ F, B ≤ k) : Below B w w' :=
  ⟨h.os, h.tape, h.output, h.size, fun k hk => h.block k (by omega) (fun e => by have := hF k e; omega)⟩
theorem FrL.grown {F : List Nat} {w w' : World} (h : FrL F w w') {row : Option Nat} (hr : ∀ k, row = some k → k ∉ F) : ∀ k, row = some k → k < w.heap.size → w'.heap[k]? = w.heap[k]? := fun k e hk => h.block k hk (hr k e)
theorem FrL.mono {F G : List Nat} {w w' : World} (h : FrL F w w') (hs : ∀ k ∈ F, k ∈ G) : FrL G w w' := ⟨h.os, h.tape, h.output, h.size, fun k hk hG => h.block k hk (fun e => hG (hs k e))⟩

theorem row_frl {F : List Nat} {w w' : World} {B : Nat} {E : TypeId} {size : Nat} {nv : Value} {n : Nat} {xs : List Value} (h : w.ownsRow B E size nv n xs) (hF : FrL F w w') (hs : ∀ k, nv.ownBlock = some k → k ∉ F) : w'.ownsRow B E size nv n xs := by
  refine ⟨h.1, ?_⟩
  rcases h.2 with hn | ⟨g, cap, cur, rfl, hb, hgg, rest⟩
  · exact .inl hn
  · refine .inr ⟨g, cap, cur, rfl, hb, ?_, rest⟩
    rw [hF.block g (Array.getElem?_eq_some_iff.1 hgg).1 (hs g rfl)]
    exact hgg

/-- Block b is a map with the keys ks, each with its place's number, from off on. -/
def MapK (P : Program) (K E : TypeId) (off : Int) (w : World) (b : Nat) (ks : List Lit) : Prop :=
  ∃ (n : Nat) (D : DataW Unit), n ≤ ks.length ∧ w.ownsMap P K (plainElem P E) b n D ∧ (∀ l, Maps.has D l = true ↔ l ∈ ks) ∧ ∀ (i : Nat) (l : Lit), ks[i]? = some l → D.atKey l (.lit (.int .i64 0)) = .lit (.int .i64 (off + i))

section
variable {P : Program} {K E : TypeId} {off : Int} {w w' : World} {b : Nat} {ks : List Lit}

theorem MapK.lt (h : MapK P K E off w b ks) : b < w.heap.size := by
  obtain ⟨n, D, _, ho, _⟩ := h
  exact ho.lt
theorem MapK.isMap (h : MapK P K E off w b ks) : ∃ es c, w.heap[b]? = some (.map es c) := by
  obtain ⟨n, D, _, ⟨es, c, hb, _⟩, _⟩ := h
  exact ⟨es, c, hb⟩
theorem MapK.keep (h : MapK P K E off w b ks) (hb : w'.heap[b]? = w.heap[b]?) : MapK P K E off w' b ks := by
  obtain ⟨n, D, hn, ⟨es, c, h1, h2⟩, h3, h4⟩ := h
  exact ⟨n, D, hn, ⟨es, c, hb.trans h1, h2⟩, h3, h4⟩
theorem MapK.made (P : Program) (K E : TypeId) (off : Int) (w : World) : MapK P K E off (w.alloc (.map #[] 0)) w.heap.size [] :=
  ⟨0, .map [], Nat.le_refl _, World.ownsMap_made _ _ _ _, fun l => by simp [Maps.has], fun i l h => by simp at h⟩

theorem atKey_not_has {D : DataW Unit} {l : Lit} (h : Maps.has D l = false) (hD : Maps.IsMap D) (z : DataW Unit) : D.atKey l z = z := by
  obtain ⟨es, rfl⟩ := hD
  have hn : es.find? (fun p => p.1.sameKey l) = none := by
    rw [List.find?_eq_none]
    intro p hp hs
    rw [Maps.has_eq, List.any_eq_false] at h
    exact h p hp hs
  unfold DataW.atKey
  simp only [hn]

theorem MapK.put (h : MapK P K E off w b ks) (KY : Keyed P K) {t : TypeId} (ht : P.underlying t = some (.map K E)) (he : P.underlying E = some (.int .i64)) {key : Value} {l : Lit} (hkey : keyOf P K key = some l) (hl : l ∉ ks) (hn : ks.length < maxLen) {v : Int} (hv : v = off + ks.length) (hw : (Lit.int .i64 v).wf = true) :
    ∃ w', (Instr.mapUpdate t (.map (some b)) key (.int .i64 v)).run P w = .ok () w' ∧ MapK P K E off w' b (ks ++ [l]) ∧ w.grownBy w' (some b) := by
  obtain ⟨n, D, hn1, ho, hh, ha⟩ := h
  obtain ⟨w', hrun, ho', hg⟩ := ho.update KY ht (by omega) hkey (plainElem_int he hw)
  have hm := ho.isMap
  have hk := KY.key hkey
  refine ⟨w', hrun, ⟨n + 1, _, by simp; omega, ho', ?_, ?_⟩, hg⟩
  · intro x
    by_cases e : x = l
    · subst e
      rw [Maps.has_put_same hm hk]
      simp
    · rw [Maps.has_put_other e, hh x]
      simp [e]
  · intro i x hx
    by_cases hi : i < ks.length
    · rw [List.getElem?_append_left hi] at hx
      have hne : x ≠ l := fun e => hl (by rw [← e]; exact List.mem_of_getElem? hx)
      rw [Maps.atKey_put_other hne]
      exact ha i x hx
    · rw [List.getElem?_append_right (by omega)] at hx
      have hi0 : i - ks.length = 0 := by
        by_cases h0 : i - ks.length = 0
        · exact h0
        · rw [List.getElem?_eq_none (by simp; omega)] at hx; cases hx
      rw [hi0] at hx
      simp at hx
      subst hx
      rw [Maps.atKey_put_same hm hk, hv, show i = ks.length by omega]

theorem MapK.look (h : MapK P K E off w b ks) (KY : Keyed P K) {t : TypeId} (ht : P.underlying t = some (.map K E)) (he : P.underlying E = some (.int .i64)) (hz : ∀ w, (zeroValue E).run P w = .ok (.int .i64 0) w) {key : Value} {l : Lit} (hkey : keyOf P K key = some l) :
    (l ∉ ks → (Instr.lookup t (.map (some b)) key true).run P w = .ok (.tuple #[.int .i64 0, .bool false]) w) ∧ (∀ i : Nat, ks[i]? = some l → (Instr.lookup t (.map (some b)) key true).run P w = .ok (.tuple #[.int .i64 (off + i), .bool true]) w) := by
  obtain ⟨n, D, hn1, ho, hh, ha⟩ := h
  obtain ⟨v, ps, hrun, hR⟩ := ho.look_ok KY ht (hz w) (plainElem_int he (by decide)) hkey
  obtain ⟨a, rfl, e, _⟩ := plainElem_int_inv he hR
  simp only [Prod.mk.injEq] at e
  constructor
  · intro hl
    have hf : Maps.has D l = false := by
      cases hb : Maps.has D l with
      | false => rfl
      | true => exact absurd ((hh l).1 hb) hl
    rw [atKey_not_has hf ho.isMap] at e
    rw [hf] at hrun
    have : a = 0 := by
      have := e.1
      simp at this
      omega
    rw [this] at hrun
    exact hrun
  · intro i hi
    have ht' : Maps.has D l = true := (hh l).2 (List.mem_of_getElem? hi)
    rw [ha i l hi] at e
    rw [ht'] at hrun
    have : a = off + i := by
      have := e.1
      simp at this
      omega
    rw [this] at hrun
    exact hrun
end

end Go.Proofs.YtdpmjaelbjjanaaGreat

namespace Go.Proofs.YtdpmjaelbjjanaaGreat.Hq
open Go.RowKit Go.Proofs.YtdpmjaelbjjanaaGreat
set_option linter.unusedVariables false
set_option linter.unusedSimpArgs false

/-- A thing of a heap: its rank, its place, its turn, itself. -/
structure It where
  r : Int
  p : Int
  t : Int
  x1 : Int
  x2 : Int
  x3 : Int
  x4 : Int

def itZ : It := ⟨0, 0, 0, 0, 0, 0, 0⟩
def gi (l : List It) (i : Nat) : It := l.getD i itZ

/-- Which of two comes first. -/
def ltB (a b : It) : Bool := decide (a.r < b.r ∨ (a.r = b.r ∧ (a.p < b.p ∨ (a.p = b.p ∧ a.t < b.t))))

theorem ltB_iff (a b : It) : ltB a b = true ↔ (a.r < b.r ∨ (a.r = b.r ∧ (a.p < b.p ∨ (a.p = b.p ∧ a.t < b.t)))) := by simp [ltB]
theorem ltB_not (a b : It) : ltB a b = false ↔ ¬ (a.r < b.r ∨ (a.r = b.r ∧ (a.p < b.p ∨ (a.p = b.p ∧ a.t < b.t)))) := by simp [ltB]
theorem nl_trans {a b c : It} (h1 : ltB a b = false) (h2 : ltB b c = false) : ltB a c = false := by
  rw [ltB_not] at *; omega
theorem nl_asymm {a b : It} (h1 : ltB a b = true) : ltB b a = false := by
  rw [ltB_not]; rw [ltB_iff] at h1; omega
theorem nl_of_lt {a b c : It} (h1 : ltB a b = false) (h2 : ltB c b = true) : ltB a c = false := by
  rw [ltB_not] at *; rw [ltB_iff] at h2; omega
theorem nl_refl (a : It) : ltB a a = false := by rw [ltB_not]; omega

theorem gi_lt (l : List It) {i : Nat} (h : i < l.length) : gi l i = l[i] := by
  rw [gi, List.getD_eq_getElem?_getD, List.getElem?_eq_getElem h, Option.getD_some]
/-- Two change places. -/
def swp (l : List It) (i j : Nat) : List It := (l.set i (gi l j)).set j (gi l i)

theorem swp_len (l : List It) (i j : Nat) : (swp l i j).length = l.length := by simp [swp]
theorem swp_perm (l : List It) {i j : Nat} (hi : i < l.length) (hj : j < l.length) : (swp l i j).Perm l := by
  unfold swp
  rw [gi_lt l hi, gi_lt l hj]
  exact List.set_set_perm hi hj
theorem gi_swp (l : List It) {i j : Nat} (hi : i < l.length) (hj : j < l.length) (k : Nat) : gi (swp l i j) k = if k = j then gi l i else if k = i then gi l j else gi l k := by
  unfold swp
  simp only [gi, List.getD_eq_getElem?_getD, List.getElem?_set, List.length_set]
  by_cases h1 : j = k
  · subst h1; simp [hj]
  · rw [if_neg h1, if_neg (Ne.symm h1)]
    by_cases h2 : i = k
    · subst h2; simp [hi]
    · rw [if_neg h2, if_neg (Ne.symm h2)]

def HpAt (l : List It) (i : Nat) : Prop := ltB (gi l i) (gi l ((i - 1) / 2)) = false
/-- No one is less than the one above it. -/
def Hp (l : List It) : Prop := ∀ i, 0 < i → i < l.length → HpAt l i

/-- A heap but for one place, from which a thing rises. -/
def RI (l : List It) (a : Nat) : Prop :=
  a < l.length ∧ (∀ i, 0 < i → i < l.length → i ≠ a → HpAt l i) ∧ (∀ c, 0 < a → c < l.length → 0 < c → (c - 1) / 2 = a → ltB (gi l c) (gi l ((a - 1) / 2)) = false)

theorem RI.done {l : List It} {a : Nat} (h : RI l a) (hd : a = 0 ∨ ltB (gi l a) (gi l ((a - 1) / 2)) = false) : Hp l := by
  intro i h0 hl
  by_cases e : i = a
  · rcases hd with hd | hd
    · omega
    · rw [e]; exact hd
  · exact h.2.1 i h0 hl e

theorem RI.step {l : List It} {a : Nat} (h : RI l a) (h0 : 0 < a) (hs : ltB (gi l a) (gi l ((a - 1) / 2)) = true) : RI (swp l a ((a - 1) / 2)) ((a - 1) / 2) := by
  obtain ⟨ha, h1, h2⟩ := h
  obtain ⟨b, hb⟩ : ∃ b, (a - 1) / 2 = b := ⟨_, rfl⟩
  rw [hb] at hs h2 ⊢
  have hbl : b < l.length := by omega
  have hba : b < a := by omega
  have G := gi_swp l ha hbl
  refine ⟨by rw [swp_len]; exact hbl, ?_, ?_⟩
  · intro i hi hl hne
    rw [swp_len] at hl
    unfold HpAt
    rw [G i, G ((i - 1) / 2), if_neg hne]
    by_cases e1 : i = a
    · subst e1
      rw [if_pos rfl, hb, if_pos rfl]
      exact nl_asymm hs
    · rw [if_neg e1]
      by_cases e2 : (i - 1) / 2 = b
      · rw [if_pos e2]
        have := h1 i hi hl e1
        unfold HpAt at this
        rw [e2] at this
        exact nl_of_lt this hs
      · rw [if_neg e2]
        by_cases e3 : (i - 1) / 2 = a
        · rw [if_pos e3]
          exact h2 i h0 hl hi e3
        · rw [if_neg e3]
          exact h1 i hi hl e1
  · intro c hb0 hcl hc0 hcb
    rw [swp_len] at hcl
    have hcb' : c ≠ b := by omega
    rw [G c, G ((b - 1) / 2), if_neg hcb', if_neg (show (b - 1) / 2 ≠ b by omega), if_neg (show (b - 1) / 2 ≠ a by omega)]
    have hB := h1 b hb0 hbl (by omega)
    unfold HpAt at hB
    by_cases e : c = a
    · rw [if_pos e]; exact hB
    · rw [if_neg e]
      have := h1 c hc0 hcl e
      unfold HpAt at this
      rw [hcb] at this
      exact nl_trans this hB

/-- A heap but for one place, from which a thing sinks. -/
def SI (l : List It) (a : Nat) : Prop :=
  (∀ i, 0 < i → i < l.length → (i - 1) / 2 ≠ a → HpAt l i) ∧ (∀ c, 0 < a → c < l.length → 0 < c → (c - 1) / 2 = a → ltB (gi l c) (gi l ((a - 1) / 2)) = false)

/-- The place of the least of a thing and its children. -/
def Least (l : List It) (a m : Nat) : Prop :=
  (m = a ∨ ((m = 2 * a + 1 ∨ m = 2 * a + 2) ∧ m < l.length ∧ ltB (gi l m) (gi l a) = true)) ∧ (∀ c, (c = 2 * a + 1 ∨ c = 2 * a + 2) → c < l.length → ltB (gi l c) (gi l m) = false)

theorem SI.done {l : List It} {a : Nat} (h : SI l a) (hm : Least l a a) : Hp l := by
  intro i h0 hl
  by_cases e : (i - 1) / 2 = a
  · unfold HpAt
    rw [e]
    exact hm.2 i (by omega) hl
  · exact h.1 i h0 hl e

theorem SI.step {l : List It} {a m : Nat} (h : SI l a) (hm : Least l a m) (hne : m ≠ a) : SI (swp l a m) m ∧ a < m ∧ m < l.length := by
  obtain ⟨h1, h2⟩ := h
  obtain ⟨hm1, hm2⟩ := hm
  rcases hm1 with hm1 | ⟨hc, hl, hs⟩
  · exact absurd hm1 hne
  have ham : a < m := by omega
  have hal : a < l.length := by omega
  have hpm : (m - 1) / 2 = a := by omega
  have G := gi_swp l hal hl
  refine ⟨⟨?_, ?_⟩, ham, hl⟩
  · intro i hi hil hne2
    rw [swp_len] at hil
    unfold HpAt
    rw [G i, G ((i - 1) / 2), if_neg hne2]
    by_cases e1 : i = m
    · subst e1
      rw [if_pos rfl, if_pos hpm]
      exact nl_asymm hs
    · rw [if_neg e1]
      by_cases e2 : (i - 1) / 2 = a
      · rw [if_pos e2, if_neg (show i ≠ a by omega)]
        exact hm2 i (by omega) hil
      · rw [if_neg e2]
        by_cases e3 : i = a
        · rw [if_pos e3, e3]
          exact h2 m (by omega) hl (by omega) hpm
        · rw [if_neg e3]
          exact h1 i hi hil e2
  · intro c hm0 hcl hc0 hcm
    rw [swp_len] at hcl
    rw [G c, G ((m - 1) / 2), if_neg (show c ≠ m by omega), if_neg (show c ≠ a by omega), hpm, if_neg hne.symm, if_pos rfl]
    have := h1 c hc0 hcl (by omega)
    unfold HpAt at this
    rw [hcm] at this
    exact this

/-- Nothing is less than what stands on top. -/
theorem Hp.top {l : List It} (h : Hp l) : ∀ n i, i < n → i < l.length → ltB (gi l i) (gi l 0) = false := by
  intro n
  induction n with
  | zero => intro i hi; omega
  | succ n ih =>
    intro i hi hl
    by_cases h0 : i = 0
    · rw [h0]; exact nl_refl _
    · exact nl_trans (h i (by omega) hl) (ih ((i - 1) / 2) (by omega) (by omega))

theorem Hp.least {l : List It} (h : Hp l) (a : It) (ha : a ∈ l) : ltB a (gi l 0) = false := by
  obtain ⟨i, hi, e⟩ := List.getElem_of_mem ha
  have := h.top (i + 1) i (by omega) hi
  rw [gi_lt l hi, e] at this
  exact this

theorem Hp.nil : Hp [] := by intro i _ h; simp at h

theorem Hp.pushed {l : List It} (h : Hp l) (a : It) : RI (l ++ [a]) l.length := by
  have hg : ∀ i, i < l.length → gi (l ++ [a]) i = gi l i := by
    intro i hi
    simp only [gi, List.getD_eq_getElem?_getD, List.getElem?_append_left hi]
  refine ⟨by simp, ?_, ?_⟩
  · intro i hi hl hne
    simp at hl
    unfold HpAt
    rw [hg i (by omega), hg ((i - 1) / 2) (by omega)]
    exact h i hi (by omega)
  · intro c h0 hcl hc0 hc
    simp at hcl
    omega

/-- The last one takes the first one's room. -/
def topped (l : List It) : List It := (l.set 0 (gi l (l.length - 1))).take (l.length - 1)

theorem topped_len (l : List It) : (topped l).length = l.length - 1 := by simp [topped]
theorem topped_perm (l : List It) (h : 0 < l.length) : (topped l).Perm l.tail := by
  cases l with
  | nil => simp at h
  | cons a r =>
    rcases List.eq_nil_or_concat r with rfl | ⟨m, z, rfl⟩
    · simp [topped]
    · simp only [List.concat_eq_append, List.tail_cons]
      have e1 : gi (a :: (m ++ [z])) ((a :: (m ++ [z])).length - 1) = z := by
        simp [gi, List.getD_eq_getElem?_getD]
      unfold topped
      rw [e1]
      simp only [List.length_cons, List.length_append, List.length_nil, Nat.zero_add, Nat.add_sub_cancel, List.set_cons_zero]
      rw [List.take_succ_cons, List.take_append_of_le_length (Nat.le_refl _), List.take_length]
      exact (List.perm_append_comm (l₁ := [z]) (l₂ := m))
theorem topped_SI {l : List It} (h : Hp l) : SI (topped l) 0 := by
  refine ⟨?_, fun c h0 => by omega⟩
  intro i hi hl hne
  rw [topped_len] at hl
  have hg : ∀ k, 0 < k → k < l.length - 1 → gi (topped l) k = gi l k := by
    intro k h0 hk
    simp only [gi, topped, List.getD_eq_getElem?_getD]
    rw [List.getElem?_take_of_lt hk, List.getElem?_set_ne (by omega)]
  unfold HpAt
  rw [hg i hi hl, hg ((i - 1) / 2) (by omega) (by omega)]
  exact h i hi (by omega)

/-- The cells of a thing; of a list. -/
def It.cells (a : It) : List Value := [.int .i64 a.r, .int .i64 a.p, .int .i64 a.t, .int .i64 a.x1, .int .i64 a.x2, .int .i64 a.x3, .int .i64 a.x4]
def flat : List It → List Value
  | [] => []
  | a :: r => a.cells ++ flat r

theorem flat_len (l : List It) : (flat l).length = l.length * 7 := by
  induction l with
  | nil => rfl
  | cons a r ih => simp [flat, It.cells, ih]; omega
theorem flat_append (l m : List It) : flat (l ++ m) = flat l ++ flat m := by
  induction l with
  | nil => rfl
  | cons a r ih => simp [flat, ih]
theorem flat_take (l : List It) (n : Nat) : flat (l.take n) = (flat l).take (n * 7) := by
  induction l generalizing n with
  | nil => simp [flat]
  | cons a r ih =>
    cases n with
    | zero => simp [flat]
    | succ n =>
      simp only [List.take_succ_cons, flat, It.cells, ih]
      rw [show (n + 1) * 7 = n * 7 + 1 + 1 + 1 + 1 + 1 + 1 + 1 by omega]
      simp
theorem flat_get (l : List It) (i : Nat) (hi : i < l.length) :
    (flat l)[i * 7]? = some (.int .i64 (gi l i).r) ∧ (flat l)[i * 7 + 1]? = some (.int .i64 (gi l i).p) ∧ (flat l)[i * 7 + 2]? = some (.int .i64 (gi l i).t) ∧ (flat l)[i * 7 + 3]? = some (.int .i64 (gi l i).x1) ∧ (flat l)[i * 7 + 4]? = some (.int .i64 (gi l i).x2) ∧ (flat l)[i * 7 + 5]? = some (.int .i64 (gi l i).x3) ∧ (flat l)[i * 7 + 6]? = some (.int .i64 (gi l i).x4) := by
  induction l generalizing i with
  | nil => simp at hi
  | cons a r ih =>
    cases i with
    | zero => simp [flat, It.cells, gi]
    | succ i =>
      have h := ih i (by simpa using hi)
      have e : ∀ k, (flat (a :: r))[(i + 1) * 7 + k]? = (flat r)[i * 7 + k]? := by
        intro k
        rw [show (i + 1) * 7 + k = (i * 7 + k) + 1 + 1 + 1 + 1 + 1 + 1 + 1 by omega]
        simp [flat, It.cells]
      have g : gi (a :: r) (i + 1) = gi r i := by simp [gi]
      rw [g]
      refine ⟨?_, ?_, ?_, ?_, ?_, ?_, ?_⟩
      · have := e 0; simp only [Nat.add_zero] at this; rw [this]; exact h.1
      · rw [e 1]; exact h.2.1
      · rw [e 2]; exact h.2.2.1
      · rw [e 3]; exact h.2.2.2.1
      · rw [e 4]; exact h.2.2.2.2.1
      · rw [e 5]; exact h.2.2.2.2.2.1
      · rw [e 6]; exact h.2.2.2.2.2.2
theorem flat_set (l : List It) (i : Nat) (hi : i < l.length) (a : It) :
    flat (l.set i a) = (((((((flat l).set (i * 7) (.int .i64 a.r)).set (i * 7 + 1) (.int .i64 a.p)).set (i * 7 + 2) (.int .i64 a.t)).set (i * 7 + 3) (.int .i64 a.x1)).set (i * 7 + 4) (.int .i64 a.x2)).set (i * 7 + 5) (.int .i64 a.x3)).set (i * 7 + 6) (.int .i64 a.x4) := by
  induction l generalizing i with
  | nil => simp at hi
  | cons b r ih =>
    cases i with
    | zero => simp [flat, It.cells]
    | succ i =>
      have h := ih i (by simpa using hi)
      rw [List.set_cons_succ]
      simp only [flat, h, It.cells]
      have e : ∀ k, (i + 1) * 7 + k = (i * 7 + k) + 1 + 1 + 1 + 1 + 1 + 1 + 1 := by omega
      have e0 : (i + 1) * 7 = (i * 7) + 1 + 1 + 1 + 1 + 1 + 1 + 1 := by omega
      rw [e 1, e 2, e 3, e 4, e 5, e 6, e0]
      simp

end Go.Proofs.YtdpmjaelbjjanaaGreat.Hq
