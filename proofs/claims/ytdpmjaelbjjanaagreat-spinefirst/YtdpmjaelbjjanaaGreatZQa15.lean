/- A heap of things as it lies in memory: a struct of a slice and a turn, and the slice's own row; what a call on it leaves alone. Nothing of the program is named. More of a heap in memory. Nothing of the program is named. -/
import Derived.Test.YtdpmjaelbjjanaaGreatZQa12
import Derived.WalkKit
import Derived.WalkSpells
import Derived.WalkLawsBesides
import Derived.WalkSmall
import Derived.Laws.OwnMore
import Derived.Deep.AppendLies
import Derived.Deep.RegionHeld3
import Derived.Deep.DrawnRows
import Derived.Deep.QuietTactic
import Derived.BigQuiet
import Derived.Lib.SliceRun
namespace Go.Proofs.YtdpmjaelbjjanaaGreat.Hq
open Go.RowKit Go.Proofs.YtdpmjaelbjjanaaGreat
set_option linter.unusedVariables false
set_option linter.unusedSimpArgs false

/-- All but the block p, and the row of v, is as it was. -/
structure Fr (p : Nat) (v : Value) (w w' : World) : Prop where
  os : w'.os = w.os
  tape : w'.tape = w.tape
  output : w'.output = w.output
  size : w.heap.size ≤ w'.heap.size
  block : ∀ k, k < w.heap.size → k ≠ p → some k ≠ v.ownBlock → w'.heap[k]? = w.heap[k]?

/-- The row of v' is that of v, or new since w. -/
def Nw (w : World) (v v' : Value) : Prop := v'.ownBlock = v.ownBlock ∨ ∃ g, v'.ownBlock = some g ∧ w.heap.size ≤ g

theorem Nw.refl (w : World) (v : Value) : Nw w v v := Or.inl rfl
theorem Nw.trans {w w1 : World} {v v1 v2 : Value} (h : Nw w v v1) (hs : w.heap.size ≤ w1.heap.size) (k : Nw w1 v1 v2) : Nw w v v2 := by
  rcases k with k | ⟨g, k, hg⟩
  · rcases h with h | ⟨g, h, hg⟩
    · exact Or.inl (k.trans h)
    · exact Or.inr ⟨g, k.trans h, hg⟩
  · exact Or.inr ⟨g, k, Nat.le_trans hs hg⟩

theorem Fr.refl (p : Nat) (v : Value) (w : World) : Fr p v w w := ⟨rfl, rfl, rfl, Nat.le_refl _, fun _ _ _ _ => rfl⟩
theorem Fr.trans {p : Nat} {v v1 : Value} {w w1 w2 : World} (h : Fr p v w w1) (hn : Nw w v v1) (k : Fr p v1 w1 w2) : Fr p v w w2 :=
  ⟨k.os.trans h.os, k.tape.trans h.tape, k.output.trans h.output, Nat.le_trans h.size k.size, fun i hi hp hv =>
    (k.block i (Nat.lt_of_lt_of_le hi h.size) hp (fun e => by
      rcases hn with hn | ⟨g, hn, hg⟩
      · exact hv (by rw [e, hn])
      · rw [hn] at e
        have := Option.some.inj e
        omega)).trans (h.block i hi hp hv)⟩
theorem Fr.trans' {p : Nat} {v : Value} {w w1 w2 : World} (h : Fr p v w w1) (k : Fr p v w1 w2) : Fr p v w w2 := h.trans (Nw.refl _ _) k
theorem Fr.ofBelow {p : Nat} {v : Value} {w w' : World} (h : Below w.heap.size w w') : Fr p v w w' := ⟨h.os, h.tape, h.output, h.size, fun k hk _ _ => h.block k hk⟩
theorem Fr.ofGrown {p : Nat} {v : Value} {w w' : World} {row : Option Nat} (h : w.grownBy w' row) (hr : row = none ∨ row = some p ∨ row = v.ownBlock) : Fr p v w w' :=
  ⟨h.os, h.tape, h.output, h.size, fun k hk hp hv => h.block k hk (fun e => by
    rcases hr with hr | hr | hr
    · rw [hr] at e; cases e
    · rw [hr] at e; exact hp (Option.some.inj e)
    · rw [hr] at e; exact hv e)⟩
theorem Fr.drew {p : Nat} {v : Value} {w w' : World} (h : Fr p v w w') : Fr p v w w'.drew := ⟨h.os, h.tape, h.output, h.size, h.block⟩
theorem Fr.setP {p o : Nat} {v : Value} {w w' : World} (h : Fr p v w w') (u : Value) : Fr p v w (w'.setCell ⟨p, o, none⟩ u) :=
  h.trans' ⟨rfl, rfl, rfl, by simp, fun k hk hp hv => heap_setCell_other w' ⟨p, o, none⟩ k u hp⟩
theorem Fr.setG {p o g : Nat} {v : Value} {w w' : World} (h : Fr p v w w') (hg : v.ownBlock = some g) (u : Value) : Fr p v w (w'.setCell ⟨g, o, none⟩ u) :=
  h.trans' ⟨rfl, rfl, rfl, by simp, fun k hk hp hv => heap_setCell_other w' ⟨g, o, none⟩ k u (fun e => hv (by rw [hg, e]))⟩
theorem Fr.below {p B : Nat} {v : Value} {w w' : World} (h : Fr p v w w') (hB : B ≤ w.heap.size) (hp : B ≤ p) (hv : ∀ g, v.ownBlock = some g → B ≤ g) : Below B w w' :=
  ⟨h.os, h.tape, h.output, h.size, fun k hk => h.block k (by omega) (by omega) (fun e => by have := hv k e.symm; omega)⟩

theorem bcells {W w1 : World} (hb : Below W.heap.size W w1) : (∀ b o, b < W.heap.size → w1.cell? ⟨b, o, none⟩ = W.cell? ⟨b, o, none⟩) ∧ (∀ b o, b < W.heap.size → w1.frozen? ⟨b, o, none⟩ = W.frozen? ⟨b, o, none⟩) :=
  ⟨fun b o h => hb.cell (p := ⟨b, o, none⟩) h, fun b o h => hb.frozen (p := ⟨b, o, none⟩) h⟩
theorem bcell {B : Nat} {w w' : World} (h : Below B w w') {b o : Nat} (hb : b < B) : w'.cell? ⟨b, o, none⟩ = w.cell? ⟨b, o, none⟩ := h.cell hb
theorem bfrozen {B : Nat} {w w' : World} (h : Below B w w') {b o : Nat} (hb : b < B) : w'.frozen? ⟨b, o, none⟩ = w.frozen? ⟨b, o, none⟩ := h.frozen hb
theorem below_drew (w : World) : Below w.heap.size w w.drew := (Below.refl _ _).drew
theorem below_via {a b c : World} (h : Below b.heap.size b c) (k : Below a.heap.size a b) : Below a.heap.size a c := k.trans (h.mono k.size)

/-- The heap at p: its slice v, its turn, and its things, in their row. -/
structure HAt (T E : TypeId) (base p : Nat) (v : Value) (tn : Int) (l : List It) (w : World) : Prop where
  st : w.heap[p]? = some (.cells #[v, .int .i64 tn] T (0, 0))
  row : w.ownsRow base E 7 v l.length (flat l)
  ne : v.ownBlock ≠ some p
  bp : base ≤ p

section
variable {T E : TypeId} {base p : Nat} {v : Value} {tn : Int} {l : List It} {w w' : World}

theorem HAt.lt (h : HAt T E base p v tn l w) : p < w.heap.size := (Array.getElem?_eq_some_iff.1 h.st).1
theorem HAt.cell0 (h : HAt T E base p v tn l w) : w.cell? ⟨p, 0, none⟩ = some v := by simp [World.cell?, h.st]
theorem HAt.cell1 (h : HAt T E base p v tn l w) : w.cell? ⟨p, 1, none⟩ = some (.int .i64 tn) := by simp [World.cell?, h.st]
theorem HAt.fr (h : HAt T E base p v tn l w) (o : Nat) : w.frozen? ⟨p, o, none⟩ = false := by simp [World.frozen?, h.st]
theorem HAt.kept (h : HAt T E base p v tn l w) (hb : Below w.heap.size w w') : HAt T E base p v tn l w' :=
  ⟨(hb.block p h.lt).trans h.st, h.row.kept (row := none) ⟨hb.os, hb.tape, hb.output, hb.size, fun k hk _ => hb.block k hk⟩ (by cases v.ownBlock <;> simp), h.ne, h.bp⟩
theorem HAt.drew (h : HAt T E base p v tn l w) : HAt T E base p v tn l w.drew := ⟨h.st, h.row, h.ne, h.bp⟩
theorem HAt.form (h : HAt T E base p v tn l w) : ∃ ao cap, v = .slice ao l.length cap ∧ (ao = none → l = [] ∧ cap = 0) ∧ (∀ a, ao = some a → ∃ g, a = ⟨g, 0, none⟩ ∧ g < w.heap.size ∧ base ≤ g ∧ g ≠ p) ∧ l.length ≤ cap ∧ cap ≤ maxLen := by
  have hne := h.ne
  rcases h.row.2 with ⟨rfl, h0⟩ | ⟨g, cap, cur, rfl, hb, hg, hc, hm, _⟩
  · exact ⟨none, 0, by rw [h0], fun _ => ⟨List.eq_nil_of_length_eq_zero h0, rfl⟩, fun a e => (by cases e), (by omega), (by simp [maxLen])⟩
  · exact ⟨some ⟨g, 0, none⟩, cap, rfl, fun e => (by cases e), fun a e => (by cases e; exact ⟨g, rfl, (Array.getElem?_eq_some_iff.1 hg).1, hb, fun e => hne (by simp [Value.ownBlock, e])⟩), hc, hm⟩
theorem HAt.pos (h : HAt T E base p v tn l w) (h0 : 0 < l.length) : ∃ g cap, v = .slice (some ⟨g, 0, none⟩) l.length cap ∧ g < w.heap.size ∧ base ≤ g ∧ g ≠ p ∧ l.length ≤ cap ∧ cap ≤ maxLen := by
  obtain ⟨ao, cap, rfl, h1, h2, h3, h4⟩ := h.form
  cases ao with
  | none => have := (h1 rfl).1; subst this; simp at h0
  | some a => obtain ⟨g, rfl, a1, a2, a3⟩ := h2 a rfl; exact ⟨g, cap, rfl, a1, a2, a3, h3, h4⟩
theorem HAt.at {g cap : Nat} (h : HAt T E base p (.slice (some ⟨g, 0, none⟩) l.length cap) tn l w) {i : Nat} (hi : i < l.length) :
    w.cell? ⟨g, i * 7, none⟩ = some (.int .i64 (gi l i).r) ∧ w.cell? ⟨g, i * 7 + 1, none⟩ = some (.int .i64 (gi l i).p) ∧ w.cell? ⟨g, i * 7 + 2, none⟩ = some (.int .i64 (gi l i).t) ∧ w.cell? ⟨g, i * 7 + 3, none⟩ = some (.int .i64 (gi l i).x1) ∧ w.cell? ⟨g, i * 7 + 4, none⟩ = some (.int .i64 (gi l i).x2) ∧ w.cell? ⟨g, i * 7 + 5, none⟩ = some (.int .i64 (gi l i).x3) ∧ w.cell? ⟨g, i * 7 + 6, none⟩ = some (.int .i64 (gi l i).x4) := by
  have hf := flat_get l i hi
  have hc := h.row.cellAt
  refine ⟨?_, ?_, ?_, ?_, ?_, ?_, ?_⟩
  · rw [hc _ (by omega)]; exact hf.1
  · rw [hc _ (by omega)]; exact hf.2.1
  · rw [hc _ (by omega)]; exact hf.2.2.1
  · rw [hc _ (by omega)]; exact hf.2.2.2.1
  · rw [hc _ (by omega)]; exact hf.2.2.2.2.1
  · rw [hc _ (by omega)]; exact hf.2.2.2.2.2.1
  · rw [hc _ (by omega)]; exact hf.2.2.2.2.2.2

def putW (w : World) (g o : Nat) (a : It) : World := ((((((w.setCell ⟨g, o, none⟩ (.int .i64 a.r)).setCell ⟨g, o + 1, none⟩ (.int .i64 a.p)).setCell ⟨g, o + 2, none⟩ (.int .i64 a.t)).setCell ⟨g, o + 3, none⟩ (.int .i64 a.x1)).setCell ⟨g, o + 4, none⟩ (.int .i64 a.x2)).setCell ⟨g, o + 5, none⟩ (.int .i64 a.x3)).setCell ⟨g, o + 6, none⟩ (.int .i64 a.x4)
/-- A thing is put at a place that is there. -/
theorem HAt.put {g cap n : Nat} (h : HAt T E base p (.slice (some ⟨g, 0, none⟩) n cap) tn l w) {i : Nat} (hi : i < l.length) (a : It) :
    HAt T E base p (.slice (some ⟨g, 0, none⟩) n cap) tn (l.set i a) (putW w g (i * 7) a) := by
  have hne : g ≠ p := fun e => h.ne (by simp [Value.ownBlock, e])
  have hn : n = l.length := by
    obtain ⟨ao, c, e, _⟩ := h.form
    simp only [Value.slice.injEq] at e
    exact e.2.1
  subst hn
  obtain ⟨r1, _⟩ := h.row.stored (i * 7) (.int .i64 a.r)
  obtain ⟨r2, _⟩ := r1.stored (i * 7 + 1) (.int .i64 a.p)
  obtain ⟨r3, _⟩ := r2.stored (i * 7 + 2) (.int .i64 a.t)
  obtain ⟨r4, _⟩ := r3.stored (i * 7 + 3) (.int .i64 a.x1)
  obtain ⟨r5, _⟩ := r4.stored (i * 7 + 4) (.int .i64 a.x2)
  obtain ⟨r6, _⟩ := r5.stored (i * 7 + 5) (.int .i64 a.x3)
  obtain ⟨r7, _⟩ := r6.stored (i * 7 + 6) (.int .i64 a.x4)
  refine ⟨?_, ?_, h.ne, h.bp⟩
  · unfold putW
    rw [heap_setCell_other _ _ _ _ (Ne.symm hne), heap_setCell_other _ _ _ _ (Ne.symm hne), heap_setCell_other _ _ _ _ (Ne.symm hne), heap_setCell_other _ _ _ _ (Ne.symm hne), heap_setCell_other _ _ _ _ (Ne.symm hne), heap_setCell_other _ _ _ _ (Ne.symm hne), heap_setCell_other _ _ _ _ (Ne.symm hne)]
    exact h.st
  · rw [List.length_set, flat_set l i hi a]; exact r7
theorem Fr.put {p g o : Nat} {v : Value} {w w' : World} (h : Fr p v w w') (hg : v.ownBlock = some g) (a : It) : Fr p v w (putW w' g o a) := ((((((h.setG hg _).setG hg _).setG hg _).setG hg _).setG hg _).setG hg _).setG hg _

/-- Cells of a row, set one by one from a place on. -/
theorem setCells_row (e : TypeId) (g : Nat) : ∀ (vs : List Value) (o : Nat) (w : World) (cur : Array Value), w.heap[g]? = some (.cells cur e (0, 0)) → o + vs.length ≤ cur.size →
    ∃ cur', (w.setCells g o vs).heap[g]? = some (.cells cur' e (0, 0)) ∧ cur'.size = cur.size ∧ cur'.toList.take o = cur.toList.take o ∧ w.grownBy (w.setCells g o vs) (some g) := by
  intro vs
  induction vs with
  | nil => intro o w cur hw _; exact ⟨cur, hw, rfl, rfl, ⟨rfl, rfl, rfl, Nat.le_refl _, fun _ _ _ => rfl⟩⟩
  | cons v r ih =>
    intro o w cur hw hlen
    simp only [List.length_cons] at hlen
    obtain ⟨cur', e1, e2, e3, e5⟩ := ih (o + 1) (w.setCell ⟨g, o, none⟩ v) (cur.setIfInBounds o v) (heap_setCell_same w g o cur e v hw) (by simp; omega)
    refine ⟨cur', e1, by rw [e2]; simp, ?_, ?_⟩
    · have := congrArg (List.take o) e3
      rw [List.take_take, List.take_take, Nat.min_eq_left (by omega)] at this
      rw [this, Array.toList_setIfInBounds, List.take_set_of_le (Nat.le_refl _)]
    · exact ⟨e5.os, e5.tape, e5.output, by have := e5.size; simp at this; exact this, fun k hk hne => (e5.block k (by simpa using hk) hne).trans (heap_setCell_other w ⟨g, o, none⟩ k v (fun e => hne (by simp [e])))⟩

/-- Clearing from a place on, then cutting ahead of it. -/
theorem HAt.cut {g cap n : Nat} (h : HAt T E base p (.slice (some ⟨g, 0, none⟩) n cap) tn l w) (m o : Nat) (vs : List Value) (hm : m ≤ l.length) (ho : m * 7 ≤ o) (hv : o + vs.length ≤ cap * 7) :
    HAt T E base p (.slice (some ⟨g, 0, none⟩) m cap) tn (l.take m) ((w.setCells g o vs).setCell ⟨p, 0, none⟩ (.slice (some ⟨g, 0, none⟩) m cap)) ∧ w.grownBy (w.setCells g o vs) (some g) := by
  have hne : g ≠ p := fun e => h.ne (by simp [Value.ownBlock, e])
  rcases h.row.2 with ⟨h0, _⟩ | ⟨g', cap', cur, hvv, hb, hg, hc, hmx, hsz, ht⟩
  · cases h0
  simp only [Value.slice.injEq, Option.some.injEq, Addr.mk.injEq, and_true, true_and] at hvv
  obtain ⟨rfl, rfl, rfl⟩ := hvv
  obtain ⟨cur', e1, e2, e3, e5⟩ := setCells_row E g vs o w cur hg (by omega)
  refine ⟨⟨?_, ?_, h.ne, h.bp⟩, e5⟩
  · have hp : (w.setCells g o vs).heap[p]? = some (.cells #[.slice (some ⟨g, 0, none⟩) l.length cap, .int .i64 tn] T (0, 0)) := (e5.block p h.lt (by simp; omega)).trans h.st
    rw [heap_setCell_same _ p 0 _ T _ hp]
    rfl
  · refine ⟨by rw [flat_len], .inr ⟨g, cap, cur', by rw [List.length_take, Nat.min_eq_left hm], hb, ?_, by simp; omega, hmx, by omega, ?_⟩⟩
    · rw [heap_setCell_other _ _ _ _ hne]; exact e1
    · rw [flat_take, ← ht, List.length_take, Nat.min_eq_left hm, List.take_take, Nat.min_eq_left (by omega)]
      have := congrArg (List.take (m * 7)) e3
      rw [List.take_take, List.take_take, Nat.min_eq_left ho] at this
      exact this

theorem HAt.room {g cap n : Nat} (h : HAt T E base p (.slice (some ⟨g, 0, none⟩) n cap) tn l w) {o : Nat} (ho : o < cap * 7) : (w.cell? ⟨g, o, none⟩).isSome = true ∧ w.frozen? ⟨g, o, none⟩ = false := by
  rcases h.row.2 with ⟨h0, _⟩ | ⟨g', cap', cur, hvv, hb, hg, hc, hmx, hsz, ht⟩
  · cases h0
  simp only [Value.slice.injEq, Option.some.injEq, Addr.mk.injEq, and_true, true_and] at hvv
  obtain ⟨rfl, rfl, rfl⟩ := hvv
  constructor
  · simp [World.cell?, hg, show o < cur.size by omega]
  · simp [World.frozen?, hg]
end

end Go.Proofs.YtdpmjaelbjjanaaGreat.Hq

namespace Go.Proofs.YtdpmjaelbjjanaaGreat.Hq
open Go.RowKit Go.Proofs.YtdpmjaelbjjanaaGreat
set_option linter.unusedVariables false
set_option linter.unusedSimpArgs false
section
variable {T E : TypeId} {base p : Nat} {v : Value} {tn : Int} {l : List It} {w w' : World}
theorem HAt.fz {g cap n : Nat} (h : HAt T E base p (.slice (some ⟨g, 0, none⟩) n cap) tn l w) (o : Nat) : w.frozen? ⟨g, o, none⟩ = false := by
  rcases h.row.2 with ⟨h0, _⟩ | ⟨g', cap', cur, hvv, hb, hg, hc, hmx, hsz, ht⟩
  · cases h0
  simp only [Value.slice.injEq, Option.some.injEq, Addr.mk.injEq, and_true, true_and] at hvv
  obtain ⟨rfl, rfl, rfl⟩ := hvv
  simp [World.frozen?, hg]

/-- A thing is put at the first place. -/
theorem HAt.put0 {g cap n : Nat} (h : HAt T E base p (.slice (some ⟨g, 0, none⟩) n cap) tn l w) (hi : 0 < l.length) (a : It) :
    ∃ W, W = (((((((w.setCell ⟨g, 0, none⟩ (.int .i64 a.r)).setCell ⟨g, 1, none⟩ (.int .i64 a.p)).setCell ⟨g, 2, none⟩ (.int .i64 a.t)).setCell ⟨g, 3, none⟩ (.int .i64 a.x1)).setCell ⟨g, 4, none⟩ (.int .i64 a.x2)).setCell ⟨g, 5, none⟩ (.int .i64 a.x3)).setCell ⟨g, 6, none⟩ (.int .i64 a.x4)).drew ∧ HAt T E base p (.slice (some ⟨g, 0, none⟩) n cap) tn (l.set 0 a) W ∧ Fr p (.slice (some ⟨g, 0, none⟩) n cap) w W := by
  have h1 := h.put hi a
  unfold putW at h1
  simp only [Nat.zero_mul, Nat.zero_add] at h1
  exact ⟨_, rfl, h1.drew, ((((((((Fr.refl _ _ _).setG rfl _).setG rfl _).setG rfl _).setG rfl _).setG rfl _).setG rfl _).setG rfl _).drew⟩
/-- One more thing, behind the append. -/
theorem HAt.pushed {ao : Option Addr} {n cap g cap1 : Nat} (h : HAt T E base p (.slice ao n cap) tn l w) (hn : l.length = n) (a : It) (o : Obj) {w1 : World} (hown : w1.ownsRow base E 7 (.slice (some ⟨g, 0, none⟩) (n + 1) cap1) (n + 1) (flat l ++ a.cells)) (hgrow : (w.alloc o).drew.grownBy w1 (Value.slice ao n cap).ownBlock) (hat : (Value.slice ao n cap).ownBlock = some g ∨ g = w.heap.size + 1) (tn' : Int) :
    HAt T E base p (.slice (some ⟨g, 0, none⟩) (n + 1) cap1) tn' (l ++ [a]) ((w1.setCell ⟨p, 0, none⟩ (.slice (some ⟨g, 0, none⟩) (n + 1) cap1)).setCell ⟨p, 1, none⟩ (.int .i64 tn')) ∧ Fr p (.slice ao n cap) w ((w1.setCell ⟨p, 0, none⟩ (.slice (some ⟨g, 0, none⟩) (n + 1) cap1)).setCell ⟨p, 1, none⟩ (.int .i64 tn')) ∧ Nw w (.slice ao n cap) (.slice (some ⟨g, 0, none⟩) (n + 1) cap1) := by
  have hlt := h.lt
  have hsz : (w.alloc o).drew.heap.size = w.heap.size + 1 := by simp
  have hb0 : (w.alloc o).drew.heap[p]? = w.heap[p]? := Below.heap_alloc w o p hlt
  have hp1 : w1.heap[p]? = some (.cells #[.slice ao n cap, .int .i64 tn] T (0, 0)) := by
    rw [hgrow.block p (by omega) (fun e => h.ne e.symm), hb0]
    exact h.st
  have hgp : g ≠ p := by
    rcases hat with e | e
    · intro e2; exact h.ne (by rw [e, e2])
    · omega
  have hFr : Fr p (.slice ao n cap) w w1 := ⟨hgrow.os, hgrow.tape, hgrow.output, by have := hgrow.size; omega, fun k hk hkp hkv => (hgrow.block k (by omega) hkv).trans (Below.heap_alloc w o k hk)⟩
  refine ⟨⟨?_, ?_, ?_, h.bp⟩, (hFr.setP _).setP _, ?_⟩
  · have e1 := heap_setCell_same w1 p 0 _ T (.slice (some ⟨g, 0, none⟩) (n + 1) cap1) hp1
    have e2 := heap_setCell_same _ p 1 _ T (.int .i64 tn') e1
    rw [e2]
    rfl
  · have e : (l ++ [a]).length = n + 1 := by simp [hn]
    rw [e, flat_append]
    have r1 := hown.2
    rcases r1 with ⟨h0, _⟩ | ⟨g', cap', cur, hvv, hb, hg, hc, hmx, hs, ht⟩
    · cases h0
    simp only [Value.slice.injEq, Option.some.injEq, Addr.mk.injEq, and_true, true_and] at hvv
    obtain ⟨rfl, rfl⟩ := hvv
    refine ⟨by have := hown.1; simpa [flat] using this, .inr ⟨g, cap1, cur, rfl, hb, ?_, hc, hmx, hs, by simpa [flat] using ht⟩⟩
    rw [heap_setCell_other _ _ _ _ hgp, heap_setCell_other _ _ _ _ hgp]
    exact hg
  · intro e; exact hgp (by simpa [Value.ownBlock] using e)
  · rcases hat with e | e
    · exact Or.inl e.symm
    · exact Or.inr ⟨g, rfl, by omega⟩
end

/-- clear of some elements of a slice. -/
theorem run_clear_all {P : Program} (w : World) (t e : TypeId) (z : Value) (size : Nat) (ht : P.underlying t = some (.slice e)) (hv : ∀ w, (zeroValue e).run P w = .ok z w) (hz : z.cells.size = size) (h1 : ∀ u ∈ z.cells, u.oneCell' = true) (hs : 0 < size) (b o n : Nat) (hn : 0 < n)
    (hc : ∀ j, j < n * size → (w.cell? ⟨b, o + j, none⟩).isSome = true) (hf : ∀ j, j < n * size → w.frozen? ⟨b, o + j, none⟩ = false) :
    ∃ vs : List Value, vs.length = n * size ∧ ∀ ty c, (Builtin.clear_ #[t] ty #[.slice (some ⟨b, o, none⟩) n c]).run P w = .ok (.tuple #[]) (w.setCells b o vs) := by
  have hl : (Builtin.zeroCells z.cells n).toList.length = n * size := by simp [Builtin.zeroCells, hz]
  refine ⟨(Builtin.zeroCells z.cells n).toList, hl, ?_⟩
  have h2 : ∀ v ∈ (Builtin.zeroCells z.cells n).toList, v.oneCell' = true := by
    intro v hv'
    simp only [Builtin.zeroCells, Array.toList_map, List.mem_map] at hv'
    obtain ⟨i, _, rfl⟩ := hv'
    have hi : i % z.cells.size < z.cells.size := Nat.mod_lt _ (by omega)
    rw [getElem!_pos z.cells _ hi]
    exact h1 _ (Array.getElem_mem hi)
  have hst := run_storeCells_cells (P := P) b o (Builtin.zeroCells z.cells n).toList 0 w (by rw [hl]; simpa using hc) (by rw [hl]; simpa using hf) h2
  simp only [Nat.add_zero] at hst
  obtain ⟨m, rfl⟩ : ∃ m, n = m + 1 := ⟨n - 1, by omega⟩
  intro ty c
  simp [Builtin.clear_, run_underlying ht, hv, hst]

end Go.Proofs.YtdpmjaelbjjanaaGreat.Hq
