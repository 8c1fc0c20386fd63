/- Maps whose elements count up: which keys they have, and at which place; a frame by lists of blocks. Nothing of the program is named. -/
import Derived.Below
import Derived.WalkKit
import Derived.WalkSpells
import Derived.WalkLawsBesides
import Derived.WalkSmall
import Derived.Laws.OwnMore
import Derived.Maps.Own
import Derived.Maps.OwnSet
import Derived.Maps.OwnOps
import Derived.Maps.Views
import Derived.Maps.AppendAt
import Derived.Deep.AppendLies
namespace Go.Proofs.Ytadbffphmmkljaa
open Go.RowKit Go.Maps
set_option linter.unusedVariables false
set_option linter.unusedSimpArgs false

theorem hide {p : Prop} (h : p) : Hid p := h
theorem unhide {p : Prop} (h : Hid p) : p := h

/-- All but the blocks F is as it was. -/
structure FrL (F : List Nat) (w w' : World) : Prop where
  os : w'.os = w.os
  tape : w'.tape = w.tape
  output : w'.output = w.output
  size : w.heap.size ≤ w'.heap.size
  block : ∀ k, k < w.heap.size → k ∉ F → w'.heap[k]? = w.heap[k]?

theorem FrL.refl (F : List Nat) (w : World) : FrL F w w := ⟨rfl, rfl, rfl, Nat.le_refl _, fun _ _ _ => rfl⟩
/-- F' has nothing of old memory that F hasn't. -/
def NwL (w : World) (F F' : List Nat) : Prop := ∀ k ∈ F', k ∈ F ∨ w.heap.size ≤ k
theorem NwL.refl (w : World) (F : List Nat) : NwL w F F := fun k hk => Or.inl hk
theorem NwL.trans {w w1 : World} {F F1 F2 : List Nat} (h : NwL w F F1) (hs : w.heap.size ≤ w1.heap.size) (k : NwL w1 F1 F2) : NwL w F F2 := fun i hi => by
  rcases k i hi with h1 | h1
  · exact h i h1
  · exact Or.inr (Nat.le_trans hs h1)
theorem FrL.trans {F F1 : List Nat} {w w1 w2 : World} (h : FrL F w w1) (hn : NwL w F F1) (k : FrL F1 w1 w2) : FrL F w w2 :=
  ⟨k.os.trans h.os, k.tape.trans h.tape, k.output.trans h.output, Nat.le_trans h.size k.size, fun i hi hF =>
    (k.block i (Nat.lt_of_lt_of_le hi h.size) (fun e => by
      rcases hn i e with h1 | h1
      · exact hF h1
      · omega)).trans (h.block i hi hF)⟩
theorem FrL.trans' {F : List Nat} {w w1 w2 : World} (h : FrL F w w1) (k : FrL F w1 w2) : FrL F w w2 := h.trans (NwL.refl _ _) k
theorem FrL.ofBelow {F : List Nat} {w w' : World} (h : Below w.heap.size w w') : FrL F w w' := ⟨h.os, h.tape, h.output, h.size, fun k hk _ => h.block k hk⟩
theorem FrL.ofGrown {F : List Nat} {w w' : World} {row : Option Nat} (h : w.grownBy w' row) (hr : ∀ k, row = some k → k ∈ F) : FrL F w w' :=
  ⟨h.os, h.tape, h.output, h.size, fun k hk hF => h.block k hk (fun e => hF (hr k e.symm))⟩
theorem FrL.drew {F : List Nat} {w w' : World} (h : FrL F w w') : FrL F w w'.drew := ⟨h.os, h.tape, h.output, h.size, h.block⟩
theorem FrL.set {F : List Nat} {w w' : World} (h : FrL F w w') {b o : Nat} (hb : b ∈ F) (u : Value) : FrL F w (w'.setCell ⟨b, o, none⟩ u) :=
  h.trans' ⟨rfl, rfl, rfl, by simp, fun k hk hF => heap_setCell_other w' ⟨b, o, none⟩ k u (fun e => hF (by rw [e]; exact hb))⟩
theorem FrL.below {F : List Nat} {w w' : World} (h : FrL F w w') {B : Nat} (hB : B ≤ w.heap.size) (hF : ∀ k ∈ F, B ≤ k) : Below B w w' :=
  ⟨h.os, h.tape, h.output, h.size, fun k hk => h.block k (by omega) (fun e => by have := hF k e; omega)⟩
theorem FrL.grown {F : List Nat} {w w' : World} (h : FrL F w w') {row : Option Nat} (hr : ∀ k, row = some k → k ∉ F) : ∀ k, row = some k → k < w.heap.size → w'.heap[k]? = w.heap[k]? := fun k e hk => h.block k hk (hr k e)
theorem FrL.mono {F G : List Nat} {w w' : World} (h : FrL F w w') (hs : ∀ k ∈ F, k ∈ G) : FrL G w w' := ⟨h.os, h.tape, h.output, h.size, fun k hk hG => h.block k hk (fun e => hG (hs k e))⟩

theorem row_frl {F : List Nat} {w w' : World} {B : Nat} {E : TypeId} {size : Nat} {nv : Value} {n : Nat} {xs : List Value} (h : w.ownsRow B E size nv n xs) (hF : FrL F w w') (hs : ∀ k, nv.ownBlock = some k → k ∉ F) : w'.ownsRow B E size nv n xs := by
  refine ⟨h.1, ?_⟩
  rcases h.2 with hn | ⟨g, cap, cur, rfl, hb, hgg, rest⟩
  · exact .inl hn
  · refine .inr ⟨g, cap, cur, rfl, hb, ?_, rest⟩
    rw [hF.block g (Array.getElem?_eq_some_iff.1 hgg).1 (hs g rfl)]
    exact hgg

/-- Block b is a map with the keys ks, each with its place's number, from off on. -/
def MapK (P : Program) (K E : TypeId) (off : Int) (w : World) (b : Nat) (ks : List Lit) : Prop :=
  ∃ (n : Nat) (D : DataW Unit), n ≤ ks.length ∧ w.ownsMap P K (plainElem P E) b n D ∧ (∀ l, Maps.has D l = true ↔ l ∈ ks) ∧ ∀ (i : Nat) (l : Lit), ks[i]? = some l → D.atKey l (.lit (.int .i64 0)) = .lit (.int .i64 (off + i))

section
variable {P : Program} {K E : TypeId} {off : Int} {w w' : World} {b : Nat} {ks : List Lit}

theorem MapK.lt (h : MapK P K E off w b ks) : b < w.heap.size := by
  obtain ⟨n, D, _, ho, _⟩ := h
  exact ho.lt
theorem MapK.isMap (h : MapK P K E off w b ks) : ∃ es c, w.heap[b]? = some (.map es c) := by
  obtain ⟨n, D, _, ⟨es, c, hb, _⟩, _⟩ := h
  exact ⟨es, c, hb⟩
theorem MapK.keep (h : MapK P K E off w b ks) (hb : w'.heap[b]? = w.heap[b]?) : MapK P K E off w' b ks := by
  obtain ⟨n, D, hn, ⟨es, c, h1, h2⟩, h3, h4⟩ := h
  exact ⟨n, D, hn, ⟨es, c, hb.trans h1, h2⟩, h3, h4⟩
theorem MapK.made (P : Program) (K E : TypeId) (off : Int) (w : World) : MapK P K E off (w.alloc (.map #[] 0)) w.heap.size [] :=
  ⟨0, .map [], Nat.le_refl _, World.ownsMap_made _ _ _ _, fun l => by simp [Maps.has], fun i l h => by simp at h⟩

theorem atKey_not_has {D : DataW Unit} {l : Lit} (h : Maps.has D l = false) (hD : Maps.IsMap D) (z : DataW Unit) : D.atKey l z = z := by
  obtain ⟨es, rfl⟩ := hD
  have hn : es.find? (fun p => p.1.sameKey l) = none := by
    rw [List.find?_eq_none]
    intro p hp hs
    rw [Maps.has_eq, List.any_eq_false] at h
    exact h p hp hs
  unfold DataW.atKey
  simp only [hn]

theorem MapK.put (h : MapK P K E off w b ks) (KY : Keyed P K) {t : TypeId} (ht : P.underlying t = some (.map K E)) (he : P.underlying E = some (.int .i64)) {key : Value} {l : Lit} (hkey : keyOf P K key = some l) (hl : l ∉ ks) (hn : ks.length < maxLen) {v : Int} (hv : v = off + ks.length) (hw : (Lit.int .i64 v).wf = true) :
    ∃ w', (Instr.mapUpdate t (.map (some b)) key (.int .i64 v)).run P w = .ok () w' ∧ MapK P K E off w' b (ks ++ [l]) ∧ w.grownBy w' (some b) := by
  obtain ⟨n, D, hn1, ho, hh, ha⟩ := h
  obtain ⟨w', hrun, ho', hg⟩ := ho.update KY ht (by omega) hkey (plainElem_int he hw)
  have hm := ho.isMap
  have hk := KY.key hkey
  refine ⟨w', hrun, ⟨n + 1, _, by simp; omega, ho', ?_, ?_⟩, hg⟩
  · intro x
    by_cases e : x = l
    · subst e
      rw [Maps.has_put_same hm hk]
      simp
    · rw [Maps.has_put_other e, hh x]
      simp [e]
  · intro i x hx
    by_cases hi : i < ks.length
    · rw [List.getElem?_append_left hi] at hx
      have hne : x ≠ l := fun e => hl (by rw [← e]; exact List.mem_of_getElem? hx)
      rw [Maps.atKey_put_other hne]
      exact ha i x hx
    · rw [List.getElem?_append_right (by omega)] at hx
      have hi0 : i - ks.length = 0 := by
        by_cases h0 : i - ks.length = 0
        · exact h0
        · rw [List.getElem?_eq_none (by simp; omega)] at hx; cases hx
      rw [hi0] at hx
      simp at hx
      subst hx
      rw [Maps.atKey_put_same hm hk, hv, show i = ks.length by omega]

theorem MapK.look (h : MapK P K E off w b ks) (KY : Keyed P K) {t : TypeId} (ht : P.underlying t = some (.map K E)) (he : P.underlying E = some (.int .i64)) (hz : ∀ w, (zeroValue E).run P w = .ok (.int .i64 0) w) {key : Value} {l : Lit} (hkey : keyOf P K key = some l) :
    (l ∉ ks → (Instr.lookup t (.map (some b)) key true).run P w = .ok (.tuple #[.int .i64 0, .bool false]) w) ∧ (∀ i : Nat, ks[i]? = some l → (Instr.lookup t (.map (some b)) key true).run P w = .ok (.tuple #[.int .i64 (off + i), .bool true]) w) := by
  obtain ⟨n, D, hn1, ho, hh, ha⟩ := h
  obtain ⟨v, ps, hrun, hR⟩ := ho.look_ok KY ht (hz w) (plainElem_int he (by decide)) hkey
  obtain ⟨a, rfl, e, _⟩ := plainElem_int_inv he hR
  simp only [Prod.mk.injEq] at e
  constructor
  · intro hl
    have hf : Maps.has D l = false := by
      cases hb : Maps.has D l with
      | false => rfl
      | true => exact absurd ((hh l).1 hb) hl
    rw [atKey_not_has hf ho.isMap] at e
    rw [hf] at hrun
    have : a = 0 := by
      have := e.1
      simp at this
      omega
    rw [this] at hrun
    exact hrun
  · intro i hi
    have ht' : Maps.has D l = true := (hh l).2 (List.mem_of_getElem? hi)
    rw [ha i l hi] at e
    rw [ht'] at hrun
    have : a = off + i := by
      have := e.1
      simp at this
      omega
    rw [this] at hrun
    exact hrun
end

end Go.Proofs.Ytadbffphmmkljaa
