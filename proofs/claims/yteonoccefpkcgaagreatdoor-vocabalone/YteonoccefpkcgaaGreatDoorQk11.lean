/- The reader in memory. Contracts: spec.add at each kind of element. Contracts: slices.Clone of a spec's five lists. Contract: vocab.copied: a spec with lists of its own. -/
import Derived.Test.YteonoccefpkcgaaGreatDoorQk10
import Derived.Deep.AppendLies
import Derived.Deep.RegionLaw
import Derived.Laws.OwnMore
import Derived.Lib.OwnKind
import Derived.Lib.SliceRun
import Derived.Lib.BufferMore
import Derived.Maps.AppendAt
namespace Go.Proofs.YteonoccefpkcgaaGreatDoor.Wf
open Go.RowKit
set_option linter.unusedVariables false
set_option linter.unusedSimpArgs false

def eM (m : Int × Int) : List Value := [.int .i64 m.1, .int .i64 m.2]
def eT (m : ByteArray) : List Value := [.string m]
def eS (m : Int × ByteArray) : List Value := [.int .i64 m.1, .string m.2]
def eC (m : Int × Int × Int) : List Value := [.int .i64 m.1, .int .i64 m.2.1, .int .i64 m.2.2]
def flat {α : Type} (e : α → List Value) (l : List α) : List Value := l.flatMap e
theorem flat_snoc {α : Type} (e : α → List Value) (l : List α) (m : α) : flat e (l ++ [m]) = flat e l ++ e m := by simp [flat]
theorem flat_get {α : Type} (e : α → List Value) (k : Nat) (hk : ∀ a, (e a).length = k) : ∀ (l : List α) (i j : Nat) (d : α), i < l.length → j < k → (flat e l)[i * k + j]? = (e (l.getD i d))[j]?
  | [], i, j, d, hi, hj => by cases hi
  | a :: r, 0, j, d, hi, hj => by
    simp only [flat, List.flatMap_cons, Nat.zero_mul, Nat.zero_add]
    rw [List.getElem?_append_left (by rw [hk]; exact hj)]
    rfl
  | a :: r, i + 1, j, d, hi, hj => by
    have ih := flat_get e k hk r i j d (by simpa using hi) hj
    simp only [flat, List.flatMap_cons]
    rw [List.getElem?_append_right (by rw [hk, Nat.succ_mul]; omega), hk, show (i + 1) * k + j - k = i * k + j by rw [Nat.succ_mul]; omega]
    exact ih
/-- A row of elements that the reader owns. -/
structure Row {α : Type} (B E k : Nat) (e : α → List Value) (ao : Option Addr) (n cap : Nat) (l : List α) (W : World) : Prop where
  len : l.length = n
  own : W.ownsRow B E k (.slice ao n cap) n (flat e l)
theorem Row.nil {α : Type} (B E k : Nat) (e : α → List Value) (W : World) : Row B E k e none 0 0 ([] : List α) W := ⟨rfl, World.ownsRow_nil _ _ _ _⟩
theorem Row.low {α : Type} {B E k : Nat} {e : α → List Value} {ao : Option Addr} {n cap : Nat} {l : List α} {W W' : World} (h : Row B E k e ao n cap l W) (hb : Below W.heap.size W W') : Row B E k e ao n cap l W' :=
  ⟨h.len, h.own.kept (row := none) ⟨hb.os, hb.tape, hb.output, hb.size, fun k hk _ => hb.block k hk⟩ (by cases (Value.slice ao n cap).ownBlock <;> simp)⟩
theorem Row.ne {α : Type} {B E k : Nat} {e : α → List Value} {ao : Option Addr} {n cap : Nat} {l : List α} {W : World} (h : Row B E k e ao n cap l W) {q T : Nat} {cs : Array Value} {fr : Nat × Nat} (hq : W.heap[q]? = some (.cells cs T fr)) (hT : T ≠ E) : (Value.slice ao n cap).ownBlock ≠ some q := by
  intro e
  obtain ⟨c, f, h1⟩ := Lib.ownsRow_kind h.own q e
  rw [h1] at hq
  simp only [Option.some.injEq, Obj.cells.injEq] at hq
  exact hT hq.2.1.symm
theorem Row.past {α β : Type} {B E E' k k' : Nat} {e : α → List Value} {e' : β → List Value} {ao ao' : Option Addr} {n cap n' cap' : Nat} {l : List α} {l' : List β} {W W' : World} (h : Row B E k e ao n cap l W) (h' : Row B E' k' e' ao' n' cap' l' W) (hE : E ≠ E') (hg : W.grownBy W' (Value.slice ao' n' cap').ownBlock) : Row B E k e ao n cap l W' := by
  refine ⟨h.len, h.own.kept hg ?_⟩
  cases hv : (Value.slice ao n cap).ownBlock with
  | none => exact Or.inl rfl
  | some g =>
    refine Or.inr fun e => ?_
    obtain ⟨c, f, h1⟩ := Lib.ownsRow_kind h.own g hv
    obtain ⟨c', f', h2⟩ := Lib.ownsRow_kind h'.own g e.symm
    rw [h1] at h2
    simp only [Option.some.injEq, Obj.cells.injEq] at h2
    exact hE h2.2.1
theorem grown_setCell (w : World) (g j : Nat) (v : Value) : w.grownBy (w.setCell ⟨g, j, none⟩ v) (some g) := grownBy_setCell w g j v
theorem Row.set {α : Type} {B E k : Nat} {e : α → List Value} {ao : Option Addr} {n cap : Nat} {l : List α} {W : World} (h : Row B E k e ao n cap l W) {q T : Nat} {cs : Array Value} {fr : Nat × Nat} (hq : W.heap[q]? = some (.cells cs T fr)) (hT : T ≠ E) (j : Nat) (v : Value) : Row B E k e ao n cap l (W.setCell ⟨q, j, none⟩ v) :=
  ⟨h.len, h.own.kept (grown_setCell W q j v) (Or.inr (h.ne hq hT))⟩
theorem Row.cell {α : Type} {B E k : Nat} {e : α → List Value} {ao : Option Addr} {n cap : Nat} {l : List α} {W : World} (h : Row B E k e ao n cap l W) (hk : ∀ a, (e a).length = k) (h0 : 0 < n) (d : α) : ∃ g, ao = some ⟨g, 0, none⟩ ∧ g < W.heap.size ∧ ∀ i j, i < n → j < k → W.cell? ⟨g, 0 + i * k + j, none⟩ = (e (l.getD i d))[j]? := by
  obtain ⟨g, c, hv, _, hg⟩ := h.own.form h0
  simp only [Value.slice.injEq] at hv
  obtain ⟨rfl, -, rfl⟩ := hv
  refine ⟨g, rfl, hg, fun i j hi hj => ?_⟩
  rw [Nat.zero_add, h.own.cellAt (i * k + j) (by
    have : i * k + k ≤ n * k := by rw [← Nat.succ_mul]; exact Nat.mul_le_mul_right k hi
    omega), flat_get e k hk l i j d (by rw [h.len]; exact hi) hj]

/-- The reader's cells. -/
abbrev rdC (x : Sv) (n k : Nat) : Array Value := #[.bool x.r, .slice x.a1 x.n1 x.c1, .slice x.a2 x.n2 x.c2, .slice x.a3 x.n3 x.c3, .slice x.a4 x.n4 x.c4, .slice x.a5 x.n5 x.c5, .int .i64 n, .int .i64 k]
structure RAt (w0 : World) (p : Nat) (x : Sv) (s : Sp) (n k : Nat) (W : World) : Prop where
  bel : Below w0.heap.size w0 W
  hB : w0.heap.size ≤ p
  blk : W.heap[p]? = some (.cells (rdC x n k) 157 (0, 0))
  r : x.r = s.ranked
  m1 : Row w0.heap.size 117 2 eM x.a1 x.n1 x.c1 s.merges W
  m2 : Row w0.heap.size 9 1 eT x.a2 x.n2 x.c2 s.tokens W
  m3 : Row w0.heap.size 57 2 eS x.a3 x.n3 x.c3 s.specials W
  m4 : Row w0.heap.size 64 3 eC x.a4 x.n4 x.c4 s.classes W
  m5 : Row w0.heap.size 66 2 eM x.a5 x.n5 x.c5 s.joins W
theorem RAt.lt {w0 : World} {p : Nat} {x : Sv} {s : Sp} {n k : Nat} {W : World} (h : RAt w0 p x s n k W) : p < W.heap.size := (Array.getElem?_eq_some_iff.1 h.blk).1
theorem RAt.low {w0 : World} {p : Nat} {x : Sv} {s : Sp} {n k : Nat} {W W' : World} (h : RAt w0 p x s n k W) (hb : Below W.heap.size W W') : RAt w0 p x s n k W' :=
  ⟨h.bel.trans (hb.mono h.bel.size), h.hB, by rw [hb.block p h.lt]; exact h.blk, h.r, h.m1.low hb, h.m2.low hb, h.m3.low hb, h.m4.low hb, h.m5.low hb⟩
theorem RAt.cell {w0 : World} {p : Nat} {x : Sv} {s : Sp} {n k : Nat} {W : World} (h : RAt w0 p x s n k W) (j : Nat) : W.cell? ⟨p, j, none⟩ = (rdC x n k)[j]? := Lib.cell_of_heap h.blk j
theorem RAt.free {w0 : World} {p : Nat} {x : Sv} {s : Sp} {n k : Nat} {W : World} (h : RAt w0 p x s n k W) (j : Nat) : W.frozen? ⟨p, j, none⟩ = false := Lib.frozen_of_heap h.blk j
theorem set_block {W : World} {p : Nat} {cs : Array Value} {T : TypeId} {fr : Nat × Nat} (h : W.heap[p]? = some (.cells cs T fr)) (j : Nat) (v : Value) : (W.setCell ⟨p, j, none⟩ v).heap[p]? = some (.cells (cs.setIfInBounds j v) T fr) := by
  simp [World.setCell, Array.getElem?_modify, h]
theorem RAt.spec {w0 : World} {p : Nat} {x : Sv} {s : Sp} {n k : Nat} {W : World} (h : RAt w0 p x s n k W) : SpAt W x s := by
  refine ⟨h.r, ⟨h.m1.len, ?_⟩, ⟨h.m2.len, ?_⟩, ⟨h.m3.len, ?_⟩, ⟨h.m4.len, ?_⟩, ⟨h.m5.len, ?_⟩⟩
  · rcases Nat.eq_zero_or_pos x.n1 with h0 | h0
    · exact Or.inl h0
    · obtain ⟨g, hg, hl, hc⟩ := h.m1.cell (fun _ => rfl) h0 (0, 0)
      exact Or.inr ⟨g, 0, hg, hl, fun i hi => ⟨hc i 0 hi (by omega), hc i 1 hi (by omega)⟩⟩
  · rcases Nat.eq_zero_or_pos x.n2 with h0 | h0
    · exact Or.inl h0
    · obtain ⟨g, hg, hl, hc⟩ := h.m2.cell (fun _ => rfl) h0 ⟨#[]⟩
      exact Or.inr ⟨g, 0, hg, hl, fun i hi => by have := hc i 0 hi (by omega); rw [Nat.mul_one] at this; exact this⟩
  · rcases Nat.eq_zero_or_pos x.n3 with h0 | h0
    · exact Or.inl h0
    · obtain ⟨g, hg, hl, hc⟩ := h.m3.cell (fun _ => rfl) h0 (0, ⟨#[]⟩)
      exact Or.inr ⟨g, 0, hg, hl, fun i hi => ⟨hc i 0 hi (by omega), hc i 1 hi (by omega)⟩⟩
  · rcases Nat.eq_zero_or_pos x.n4 with h0 | h0
    · exact Or.inl h0
    · obtain ⟨g, hg, hl, hc⟩ := h.m4.cell (fun _ => rfl) h0 (0, 0, 0)
      exact Or.inr ⟨g, 0, hg, hl, fun i hi => ⟨hc i 0 hi (by omega), hc i 1 hi (by omega), hc i 2 hi (by omega)⟩⟩
  · rcases Nat.eq_zero_or_pos x.n5 with h0 | h0
    · exact Or.inl h0
    · obtain ⟨g, hg, hl, hc⟩ := h.m5.cell (fun _ => rfl) h0 (0, 0)
      exact Or.inr ⟨g, 0, hg, hl, fun i hi => ⟨hc i 0 hi (by omega), hc i 1 hi (by omega)⟩⟩
/-- The three plain cells. -/
theorem RAt.setN {w0 : World} {p : Nat} {x : Sv} {s : Sp} {n k : Nat} {W : World} (h : RAt w0 p x s n k W) (n' : Nat) : RAt w0 p x s n' k (W.setCell ⟨p, 6, none⟩ (.int .i64 n')) :=
  ⟨h.bel.setCell (p := ⟨p, 6, none⟩) h.hB _, h.hB, set_block h.blk 6 _, h.r, h.m1.set h.blk (by decide) _ _, h.m2.set h.blk (by decide) _ _, h.m3.set h.blk (by decide) _ _, h.m4.set h.blk (by decide) _ _, h.m5.set h.blk (by decide) _ _⟩
theorem RAt.setK {w0 : World} {p : Nat} {x : Sv} {s : Sp} {n k : Nat} {W : World} (h : RAt w0 p x s n k W) (k' : Nat) : RAt w0 p x s n k' (W.setCell ⟨p, 7, none⟩ (.int .i64 k')) :=
  ⟨h.bel.setCell (p := ⟨p, 7, none⟩) h.hB _, h.hB, set_block h.blk 7 _, h.r, h.m1.set h.blk (by decide) _ _, h.m2.set h.blk (by decide) _ _, h.m3.set h.blk (by decide) _ _, h.m4.set h.blk (by decide) _ _, h.m5.set h.blk (by decide) _ _⟩
theorem RAt.setR {w0 : World} {p : Nat} {x : Sv} {s : Sp} {n k : Nat} {W : World} (h : RAt w0 p x s n k W) (r : Bool) : RAt w0 p { x with r := r } { s with ranked := r } n k (W.setCell ⟨p, 0, none⟩ (.bool r)) :=
  ⟨h.bel.setCell (p := ⟨p, 0, none⟩) h.hB _, h.hB, set_block h.blk 0 _, rfl, h.m1.set h.blk (by decide) _ _, h.m2.set h.blk (by decide) _ _, h.m3.set h.blk (by decide) _ _, h.m4.set h.blk (by decide) _ _, h.m5.set h.blk (by decide) _ _⟩
theorem RAt.addMerge {w0 : World} {p : Nat} {x : Sv} {s : Sp} {n k : Nat} {W W' : World} {g cap : Nat} (m : Int × Int) (h : RAt w0 p x s n k W) (hg : W.grownBy W' (Value.slice x.a1 x.n1 x.c1).ownBlock) (hown : W'.ownsRow w0.heap.size 117 2 (.slice (some ⟨g, 0, none⟩) (x.n1 + 1) cap) (x.n1 + 1) (flat eM s.merges ++ eM m)) :
    RAt w0 p { x with a1 := some ⟨g, 0, none⟩, n1 := x.n1 + 1, c1 := cap } { s with merges := s.merges ++ [m] } n k (W'.setCell ⟨p, 1, none⟩ (.slice (some ⟨g, 0, none⟩) (x.n1 + 1 : Nat) cap)) := by
  have hblk : W'.heap[p]? = some (.cells (rdC x n k) 157 (0, 0)) := by rw [hg.block p h.lt (fun e => h.m1.ne h.blk (by decide) e.symm)]; exact h.blk
  exact ⟨(h.bel.grown hg h.bel.size (fun q hq => (h.m1.own.lt q hq).1)).setCell (p := ⟨p, 1, none⟩) h.hB _, h.hB, set_block hblk 1 _, h.r, (⟨by simp [h.m1.len], by rw [flat_snoc]; exact hown⟩ : Row w0.heap.size 117 2 eM (some ⟨g, 0, none⟩) (x.n1 + 1) cap (s.merges ++ [m]) W').set hblk (by decide) _ _, (h.m2.past h.m1 (by decide) hg).set hblk (by decide) _ _, (h.m3.past h.m1 (by decide) hg).set hblk (by decide) _ _, (h.m4.past h.m1 (by decide) hg).set hblk (by decide) _ _, (h.m5.past h.m1 (by decide) hg).set hblk (by decide) _ _⟩
theorem RAt.addToken {w0 : World} {p : Nat} {x : Sv} {s : Sp} {n k : Nat} {W W' : World} {g cap : Nat} (m : ByteArray) (h : RAt w0 p x s n k W) (hg : W.grownBy W' (Value.slice x.a2 x.n2 x.c2).ownBlock) (hown : W'.ownsRow w0.heap.size 9 1 (.slice (some ⟨g, 0, none⟩) (x.n2 + 1) cap) (x.n2 + 1) (flat eT s.tokens ++ eT m)) :
    RAt w0 p { x with a2 := some ⟨g, 0, none⟩, n2 := x.n2 + 1, c2 := cap } { s with tokens := s.tokens ++ [m] } n k (W'.setCell ⟨p, 2, none⟩ (.slice (some ⟨g, 0, none⟩) (x.n2 + 1 : Nat) cap)) := by
  have hblk : W'.heap[p]? = some (.cells (rdC x n k) 157 (0, 0)) := by rw [hg.block p h.lt (fun e => h.m2.ne h.blk (by decide) e.symm)]; exact h.blk
  exact ⟨(h.bel.grown hg h.bel.size (fun q hq => (h.m2.own.lt q hq).1)).setCell (p := ⟨p, 2, none⟩) h.hB _, h.hB, set_block hblk 2 _, h.r, (h.m1.past h.m2 (by decide) hg).set hblk (by decide) _ _, (⟨by simp [h.m2.len], by rw [flat_snoc]; exact hown⟩ : Row w0.heap.size 9 1 eT (some ⟨g, 0, none⟩) (x.n2 + 1) cap (s.tokens ++ [m]) W').set hblk (by decide) _ _, (h.m3.past h.m2 (by decide) hg).set hblk (by decide) _ _, (h.m4.past h.m2 (by decide) hg).set hblk (by decide) _ _, (h.m5.past h.m2 (by decide) hg).set hblk (by decide) _ _⟩
theorem RAt.addSpecial {w0 : World} {p : Nat} {x : Sv} {s : Sp} {n k : Nat} {W W' : World} {g cap : Nat} (m : Int × ByteArray) (h : RAt w0 p x s n k W) (hg : W.grownBy W' (Value.slice x.a3 x.n3 x.c3).ownBlock) (hown : W'.ownsRow w0.heap.size 57 2 (.slice (some ⟨g, 0, none⟩) (x.n3 + 1) cap) (x.n3 + 1) (flat eS s.specials ++ eS m)) :
    RAt w0 p { x with a3 := some ⟨g, 0, none⟩, n3 := x.n3 + 1, c3 := cap } { s with specials := s.specials ++ [m] } n k (W'.setCell ⟨p, 3, none⟩ (.slice (some ⟨g, 0, none⟩) (x.n3 + 1 : Nat) cap)) := by
  have hblk : W'.heap[p]? = some (.cells (rdC x n k) 157 (0, 0)) := by rw [hg.block p h.lt (fun e => h.m3.ne h.blk (by decide) e.symm)]; exact h.blk
  exact ⟨(h.bel.grown hg h.bel.size (fun q hq => (h.m3.own.lt q hq).1)).setCell (p := ⟨p, 3, none⟩) h.hB _, h.hB, set_block hblk 3 _, h.r, (h.m1.past h.m3 (by decide) hg).set hblk (by decide) _ _, (h.m2.past h.m3 (by decide) hg).set hblk (by decide) _ _, (⟨by simp [h.m3.len], by rw [flat_snoc]; exact hown⟩ : Row w0.heap.size 57 2 eS (some ⟨g, 0, none⟩) (x.n3 + 1) cap (s.specials ++ [m]) W').set hblk (by decide) _ _, (h.m4.past h.m3 (by decide) hg).set hblk (by decide) _ _, (h.m5.past h.m3 (by decide) hg).set hblk (by decide) _ _⟩
theorem RAt.addClass {w0 : World} {p : Nat} {x : Sv} {s : Sp} {n k : Nat} {W W' : World} {g cap : Nat} (m : Int × Int × Int) (h : RAt w0 p x s n k W) (hg : W.grownBy W' (Value.slice x.a4 x.n4 x.c4).ownBlock) (hown : W'.ownsRow w0.heap.size 64 3 (.slice (some ⟨g, 0, none⟩) (x.n4 + 1) cap) (x.n4 + 1) (flat eC s.classes ++ eC m)) :
    RAt w0 p { x with a4 := some ⟨g, 0, none⟩, n4 := x.n4 + 1, c4 := cap } { s with classes := s.classes ++ [m] } n k (W'.setCell ⟨p, 4, none⟩ (.slice (some ⟨g, 0, none⟩) (x.n4 + 1 : Nat) cap)) := by
  have hblk : W'.heap[p]? = some (.cells (rdC x n k) 157 (0, 0)) := by rw [hg.block p h.lt (fun e => h.m4.ne h.blk (by decide) e.symm)]; exact h.blk
  exact ⟨(h.bel.grown hg h.bel.size (fun q hq => (h.m4.own.lt q hq).1)).setCell (p := ⟨p, 4, none⟩) h.hB _, h.hB, set_block hblk 4 _, h.r, (h.m1.past h.m4 (by decide) hg).set hblk (by decide) _ _, (h.m2.past h.m4 (by decide) hg).set hblk (by decide) _ _, (h.m3.past h.m4 (by decide) hg).set hblk (by decide) _ _, (⟨by simp [h.m4.len], by rw [flat_snoc]; exact hown⟩ : Row w0.heap.size 64 3 eC (some ⟨g, 0, none⟩) (x.n4 + 1) cap (s.classes ++ [m]) W').set hblk (by decide) _ _, (h.m5.past h.m4 (by decide) hg).set hblk (by decide) _ _⟩
theorem RAt.addJoin {w0 : World} {p : Nat} {x : Sv} {s : Sp} {n k : Nat} {W W' : World} {g cap : Nat} (m : Int × Int) (h : RAt w0 p x s n k W) (hg : W.grownBy W' (Value.slice x.a5 x.n5 x.c5).ownBlock) (hown : W'.ownsRow w0.heap.size 66 2 (.slice (some ⟨g, 0, none⟩) (x.n5 + 1) cap) (x.n5 + 1) (flat eM s.joins ++ eM m)) :
    RAt w0 p { x with a5 := some ⟨g, 0, none⟩, n5 := x.n5 + 1, c5 := cap } { s with joins := s.joins ++ [m] } n k (W'.setCell ⟨p, 5, none⟩ (.slice (some ⟨g, 0, none⟩) (x.n5 + 1 : Nat) cap)) := by
  have hblk : W'.heap[p]? = some (.cells (rdC x n k) 157 (0, 0)) := by rw [hg.block p h.lt (fun e => h.m5.ne h.blk (by decide) e.symm)]; exact h.blk
  exact ⟨(h.bel.grown hg h.bel.size (fun q hq => (h.m5.own.lt q hq).1)).setCell (p := ⟨p, 5, none⟩) h.hB _, h.hB, set_block hblk 5 _, h.r, (h.m1.past h.m5 (by decide) hg).set hblk (by decide) _ _, (h.m2.past h.m5 (by decide) hg).set hblk (by decide) _ _, (h.m3.past h.m5 (by decide) hg).set hblk (by decide) _ _, (h.m4.past h.m5 (by decide) hg).set hblk (by decide) _ _, (⟨by simp [h.m5.len], by rw [flat_snoc]; exact hown⟩ : Row w0.heap.size 66 2 eM (some ⟨g, 0, none⟩) (x.n5 + 1) cap (s.joins ++ [m]) W').set hblk (by decide) _ _⟩
end Go.Proofs.YteonoccefpkcgaaGreatDoor.Wf

namespace Go.Proofs.YteonoccefpkcgaaGreatDoor.Wf
open Go.RowKit
set_option linter.unusedVariables false
set_option linter.unusedSimpArgs false


set_option maxHeartbeats 4000000 in
set_option maxRecDepth 20000 in
theorem addMerge_no (w0 : World) (p : Nat) (x : Sv) (s : Sp) (n k : Nat) (W : World) (h : RAt w0 p x s n k W) (room : Int) (m : Int × Int) (hno : ¬ ((x.n1 : Int) < room ∧ okM m = true)) :
    Calls Tryz.prog 143 #[.pointer (some ⟨p, 1, none⟩), .int .i64 room, .agg #[.int .i64 m.1, .int .i64 m.2], .func (.func 49) #[] #[]] W fun e w' => e = .returned (.bool false) ∧ RAt w0 p x s n k w' ∧ Below W.heap.size W w' := by
  have HR0 := hide (h.low (low_alloc W (.cells #[.int .i64 m.1, .int .i64 m.2] 117)))
  clear h
  have c0 : (W.alloc (.cells #[.int .i64 m.1, .int .i64 m.2] 117)).cell? ⟨p, 1, none⟩ = some (.slice x.a1 x.n1 x.c1) := HR0.out.cell 1
  by_cases hroom : (x.n1 : Int) < room
  · have hok : okM m = false := by cases he : okM m with | false => rfl | true => exact absurd ⟨hroom, he⟩ hno
    have hr1 : ¬ room ≤ (x.n1 : Int) := by omega
    have K := rightMerge_any m (W.alloc (.cells #[.int .i64 m.1, .int .i64 m.2] 117))
    rw [hok] at K
    clear hok hno
    go_enter Tryz.func143, Tryz.ntmps143
    go_wp2_with fail
    refine K.mono ?_
    rintro e w1 ⟨rfl, hb1⟩
    have HR1 := hide (HR0.out.low (hb1))
    have HBB := hide ((low_alloc W _).trans (hb1.mono (low_alloc W _).size))
    clear hb1
    go_wp2
    go_ret
    exact ⟨rfl, HR1.out, HBB.out⟩
  · have hr1 : room ≤ (x.n1 : Int) := by omega
    go_enter Tryz.func143, Tryz.ntmps143
    go_wp2
    go_ret
    exact ⟨rfl, HR0.out, low_alloc W _⟩

theorem info_M : (Tryz.prog.info? 117).map (fun i => (i.zero, i.size, i.bytes)) = some (some (.agg #[.int .i64 0, .int .i64 0]), 2, 16) := by kernel_rfl
theorem one_M (m : Int × Int) : ∀ u ∈ eM m, u.oneCell' = true := by
  intro u hu
  simp only [eM, List.mem_cons, List.not_mem_nil, or_false] at hu
  rcases hu with rfl | rfl <;> rfl

set_option maxHeartbeats 8000000 in
set_option maxRecDepth 20000 in
theorem addMerge_yes (w0 : World) (p : Nat) (x : Sv) (s : Sp) (n k : Nat) (W : World) (h : RAt w0 p x s n k W) (room : Int) (m : Int × Int) (hroom : (x.n1 : Int) < room) (hrm : room ≤ 1000) (hok : okM m = true) :
    Calls Tryz.prog 143 #[.pointer (some ⟨p, 1, none⟩), .int .i64 room, .agg #[.int .i64 m.1, .int .i64 m.2], .func (.func 49) #[] #[]] W fun e w' => e = .returned (.bool true) ∧ (∃ x', RAt w0 p x' { s with merges := s.merges ++ [m] } n k w') ∧ ∀ q, q < W.heap.size → q ≠ p → some q ≠ (Value.slice x.a1 x.n1 x.c1).ownBlock → w'.heap[q]? = W.heap[q]? := by
  have HR0 := hide (h.low (low_alloc W (.cells #[.int .i64 m.1, .int .i64 m.2] 117)))
  clear h
  have c0 : (W.alloc (.cells #[.int .i64 m.1, .int .i64 m.2] 117)).cell? ⟨p, 1, none⟩ = some (.slice x.a1 x.n1 x.c1) := HR0.out.cell 1
  have hr1 : ¬ room ≤ (x.n1 : Int) := by omega
  have hbx : (W.alloc (.cells #[.int .i64 m.1, .int .i64 m.2] 117)).heap[W.heap.size]? = some (.cells #[.int .i64 m.1, .int .i64 m.2] 117 (0, 0)) := heap_alloc_new W _
  have K := rightMerge_any m (W.alloc (.cells #[.int .i64 m.1, .int .i64 m.2] 117))
  rw [hok] at K
  obtain ⟨i0, hii, hz0, hz1, hz2⟩ := info_parts info_M
  have HBX := hide hbx
  have hlt0 : W.heap.size < (W.alloc (.cells #[.int .i64 m.1, .int .i64 m.2] 117)).heap.size := by simp
  clear hok hbx
  go_enter Tryz.func143, Tryz.ntmps143
  go_wp2_with fail
  refine K.mono ?_
  rintro e w1 ⟨rfl, hb1⟩
  have HR1 := hide (HR0.out.low (hb1))
  have HFR := hide (fun (q : Nat) (hq : q < W.heap.size) => (hb1.block q (by simp; omega)).trans (Below.heap_alloc W (.cells #[.int .i64 m.1, .int .i64 m.2] 117) q hq))
  have hs1 : W.heap.size ≤ w1.heap.size := Nat.le_trans (low_alloc W _).size hb1.size
  have hbx1 : w1.heap[W.heap.size]? = some (.cells #[.int .i64 m.1, .int .i64 m.2] 117 (0, 0)) := by rw [hb1.block _ hlt0]; exact HBX.out
  have b0 : w1.cell? ⟨W.heap.size, 0, none⟩ = some (.int .i64 m.1) := by simp [World.cell?, hbx1]
  have b1 : w1.cell? ⟨W.heap.size, 1, none⟩ = some (.int .i64 m.2) := by simp [World.cell?, hbx1]
  have c1 : w1.cell? ⟨p, 1, none⟩ = some (.slice x.a1 x.n1 x.c1) := HR1.out.cell 1
  have f1 := HR1.out.free 1
  have tlt := HR1.out.lt
  have hown1 := HR1.out.m1.own
  have hs0 : w0.heap.size ≤ w1.heap.size := HR1.out.bel.size
  have hpne : some p ≠ (Value.slice x.a1 x.n1 x.c1).ownBlock := fun e => HR1.out.m1.ne HR1.out.blk (by decide) e.symm
  have hbne : W.heap.size < w1.heap.size := Nat.lt_of_lt_of_le hlt0 hb1.size
  have hlo := low_alloc w1 (.cells #[.int .i64 m.1, .int .i64 m.2] 117)
  have HR2 := hide ((HR1.out.low hlo).low (below_drew (Below.refl _ _)))
  clear hb1 K HR0 HBX hlo hbx1 c0 hlt0
  go_wp2
  go_region_law ((refine step_append_lies _ (by rfl) _ _ _ (by rfl) w0.heap.size 117 i0 _ 2 16 Tryz.underlying29 hii hz0 hz1 hz2 (by rfl) (by omega) _ x.n1 (flat eM s.merges) (by rfl) (by first | exact (hown1.alloc _).drew | exact hown1.drew.alloc _) _ 1 _ (eM m) (by rfl) (by rfl) (by first | exact World.news_of_block (heap_alloc_new w1 _) | exact World.news_of_block (heap_alloc_new w1.drew _)) (one_M m) (by omega) (by unfold maxLen; omega) (by omega) (by simp; omega) (w1.heap.size + 1) (by simp) ?_; intro g cap1 w3 hown hgrow hat hlt3; have e1 : w3.cell? ⟨p, 1, none⟩ = some (.slice x.a1 x.n1 x.c1) := (hgrow.cell_far ⟨p, 1, none⟩ (by simp; omega) hpne).trans (by first | exact (cell_old w1 _ tlt).trans c1 | exact (cell_old w1.drew _ tlt).trans c1); have ef : w3.frozen? ⟨p, 1, none⟩ = false := (hgrow.frozen_far ⟨p, 1, none⟩ (by simp; omega) hpne).trans (by first | exact (frozen_old w1 _ tlt).trans f1 | exact (frozen_old w1.drew _ tlt).trans f1)))
  all_goals
    have hgrow' : (w1.alloc (.cells #[.int .i64 m.1, .int .i64 m.2] 117)).drew.grownBy w3 (Value.slice x.a1 x.n1 x.c1).ownBlock := hgrow
    have HRF := hide (RAt.addMerge m HR2.out hgrow' hown)
    have HFF := hide (fun (q : Nat) (hq : q < W.heap.size) (hp : q ≠ p) (ho : some q ≠ (Value.slice x.a1 x.n1 x.c1).ownBlock) => (Below.heap_setCell w3 ⟨p, 1, none⟩ (.slice (some ⟨g, 0, none⟩) (x.n1 + 1 : Nat) cap1) q (fun e => hp e)).trans ((hgrow'.block q (by simp; omega) ho).trans ((Below.heap_alloc w1 (.cells #[.int .i64 m.1, .int .i64 m.2] 117) q (by omega)).trans (HFR.out q hq))))
    clear hgrow hgrow' hown hat
    go_wp2
    go_ret
    exact ⟨rfl, ⟨_, HRF.out⟩, HFF.out⟩

set_option maxHeartbeats 4000000 in
set_option maxRecDepth 20000 in
theorem addToken_no (w0 : World) (p : Nat) (x : Sv) (s : Sp) (n k : Nat) (W : World) (h : RAt w0 p x s n k W) (room : Int) (m : ByteArray) (hno : ¬ ((x.n2 : Int) < room ∧ okT m = true)) :
    Calls Tryz.prog 146 #[.pointer (some ⟨p, 2, none⟩), .int .i64 room, .string m, .func (.func 51) #[] #[]] W fun e w' => e = .returned (.bool false) ∧ RAt w0 p x s n k w' ∧ Below W.heap.size W w' := by
  have HR0 := hide h
  clear h
  have c0 : W.cell? ⟨p, 2, none⟩ = some (.slice x.a2 x.n2 x.c2) := HR0.out.cell 2
  by_cases hroom : (x.n2 : Int) < room
  · have hok : okT m = false := by cases he : okT m with | false => rfl | true => exact absurd ⟨hroom, he⟩ hno
    have hr1 : ¬ room ≤ (x.n2 : Int) := by omega
    have K := rightToken_any m W
    rw [hok] at K
    clear hok hno
    go_enter Tryz.func146, Tryz.ntmps146
    go_wp2_with fail
    refine K.mono ?_
    rintro e w1 ⟨rfl, hb1⟩
    have HR1 := hide (HR0.out.low (show Below W.heap.size W w1 by rw [hb1]; exact Below.refl _ _))
    have HBB := hide (show Below W.heap.size W w1 by rw [hb1]; exact Below.refl _ _)
    clear hb1
    go_wp2
    go_ret
    exact ⟨rfl, HR1.out, HBB.out⟩
  · have hr1 : room ≤ (x.n2 : Int) := by omega
    go_enter Tryz.func146, Tryz.ntmps146
    go_wp2
    go_ret
    exact ⟨rfl, HR0.out, Below.refl _ _⟩

theorem info_T : (Tryz.prog.info? 9).map (fun i => (i.zero, i.size, i.bytes)) = some (some (.string ⟨#[]⟩), 1, 16) := by kernel_rfl

set_option maxHeartbeats 8000000 in
set_option maxRecDepth 20000 in
theorem addToken_yes (w0 : World) (p : Nat) (x : Sv) (s : Sp) (n k : Nat) (W : World) (h : RAt w0 p x s n k W) (room : Int) (m : ByteArray) (hroom : (x.n2 : Int) < room) (hrm : room ≤ 1000) (hok : okT m = true) :
    Calls Tryz.prog 146 #[.pointer (some ⟨p, 2, none⟩), .int .i64 room, .string m, .func (.func 51) #[] #[]] W fun e w' => e = .returned (.bool true) ∧ (∃ x', RAt w0 p x' { s with tokens := s.tokens ++ [m] } n k w') ∧ ∀ q, q < W.heap.size → q ≠ p → some q ≠ (Value.slice x.a2 x.n2 x.c2).ownBlock → w'.heap[q]? = W.heap[q]? := by
  have HR0 := hide h
  have c0 : W.cell? ⟨p, 2, none⟩ = some (.slice x.a2 x.n2 x.c2) := h.cell 2
  have f0 := h.free 2
  have tlt := h.lt
  have hown1 := h.m2.own
  have hs0 : w0.heap.size ≤ W.heap.size := h.bel.size
  have hpne : some p ≠ (Value.slice x.a2 x.n2 x.c2).ownBlock := fun e => h.m2.ne h.blk (by decide) e.symm
  have hr1 : ¬ room ≤ (x.n2 : Int) := by omega
  have K := rightToken_any m W
  rw [hok] at K
  obtain ⟨i0, hii, hz0, hz1, hz2⟩ := info_parts info_T
  have HR2 := hide (h.low (low_alloc W (.cells #[.string m] 9)))
  clear hok h
  go_enter Tryz.func146, Tryz.ntmps146
  go_wp2_with fail
  refine K.mono ?_
  rintro e w1 ⟨rfl, rfl⟩
  clear K
  go_wp2_with (at_builtin; refine wpList_append_own _ rfl _ _ 30 rfl w0.heap.size 9 i0 (.string ⟨#[]⟩) 1 16 Tryz.underlying30 hii hz0 hz1 hz2 rfl (by decide) _ _ _ rfl (hown1.alloc _) ⟨w1.heap.size, 0, none⟩ 1 1 [.string m] rfl rfl ?c1 ?c2 ?c3 ?c4 ?c5 ?_)
  case c1 =>
    intro j u hj
    match j, hj with
    | 0, hj => simp at hj; subst hj; simp [Addr.add]
  case c2 => intro u hu; simp at hu; subst hu; rfl
  case c3 => unfold maxLen; omega
  case c4 => omega
  case c5 => simp; omega
  intro v' w3 hown hgrow _
  obtain ⟨g, cap1, rfl, _, _⟩ := hown.form (by omega)
  have e1 : w3.cell? ⟨p, 2, none⟩ = some (.slice x.a2 x.n2 x.c2) := (hgrow.cell_far ⟨p, 2, none⟩ (by simp; omega) hpne).trans ((cell_old w1 _ tlt).trans c0)
  have ef : w3.frozen? ⟨p, 2, none⟩ = false := (hgrow.frozen_far ⟨p, 2, none⟩ (by simp; omega) hpne).trans ((frozen_old w1 _ tlt).trans f0)
  have HRF := hide (RAt.addToken m HR2.out hgrow hown)
  have HFF := hide (fun (q : Nat) (hq : q < w1.heap.size) (hp : q ≠ p) (ho : some q ≠ (Value.slice x.a2 x.n2 x.c2).ownBlock) => (Below.heap_setCell w3 ⟨p, 2, none⟩ (.slice (some ⟨g, 0, none⟩) (x.n2 + 1 : Nat) cap1) q (fun e => hp e)).trans ((hgrow.block q (by simp; omega) ho).trans (Below.heap_alloc w1 (.cells #[.string m] 9) q hq)))
  clear hgrow hown
  go_wp2
  go_ret
  exact ⟨rfl, ⟨_, HRF.out⟩, HFF.out⟩

set_option maxHeartbeats 4000000 in
set_option maxRecDepth 20000 in
theorem addSpecial_no (w0 : World) (p : Nat) (x : Sv) (s : Sp) (n k : Nat) (W : World) (h : RAt w0 p x s n k W) (room : Int) (m : Int × ByteArray) (hno : ¬ ((x.n3 : Int) < room ∧ okS m = true)) :
    Calls Tryz.prog 148 #[.pointer (some ⟨p, 3, none⟩), .int .i64 room, .agg #[.int .i64 m.1, .string m.2], .func (.func 53) #[] #[]] W fun e w' => e = .returned (.bool false) ∧ RAt w0 p x s n k w' ∧ Below W.heap.size W w' := by
  have HR0 := hide (h.low (low_alloc W (.cells #[.int .i64 m.1, .string m.2] 57)))
  clear h
  have c0 : (W.alloc (.cells #[.int .i64 m.1, .string m.2] 57)).cell? ⟨p, 3, none⟩ = some (.slice x.a3 x.n3 x.c3) := HR0.out.cell 3
  by_cases hroom : (x.n3 : Int) < room
  · have hok : okS m = false := by cases he : okS m with | false => rfl | true => exact absurd ⟨hroom, he⟩ hno
    have hr1 : ¬ room ≤ (x.n3 : Int) := by omega
    have K := rightSpecial_any m (W.alloc (.cells #[.int .i64 m.1, .string m.2] 57))
    rw [hok] at K
    clear hok hno
    go_enter Tryz.func148, Tryz.ntmps148
    go_wp2_with fail
    refine K.mono ?_
    rintro e w1 ⟨rfl, hb1⟩
    have HR1 := hide (HR0.out.low (hb1))
    have HBB := hide ((low_alloc W _).trans (hb1.mono (low_alloc W _).size))
    clear hb1
    go_wp2
    go_ret
    exact ⟨rfl, HR1.out, HBB.out⟩
  · have hr1 : room ≤ (x.n3 : Int) := by omega
    go_enter Tryz.func148, Tryz.ntmps148
    go_wp2
    go_ret
    exact ⟨rfl, HR0.out, low_alloc W _⟩

theorem info_S : (Tryz.prog.info? 57).map (fun i => (i.zero, i.size, i.bytes)) = some (some (.agg #[.int .i64 0, .string ⟨#[]⟩]), 2, 24) := by kernel_rfl
theorem one_S (m : Int × ByteArray) : ∀ u ∈ eS m, u.oneCell' = true := by
  intro u hu
  simp only [eS, List.mem_cons, List.not_mem_nil, or_false] at hu
  rcases hu with rfl | rfl <;> rfl

set_option maxHeartbeats 8000000 in
set_option maxRecDepth 20000 in
theorem addSpecial_yes (w0 : World) (p : Nat) (x : Sv) (s : Sp) (n k : Nat) (W : World) (h : RAt w0 p x s n k W) (room : Int) (m : Int × ByteArray) (hroom : (x.n3 : Int) < room) (hrm : room ≤ 1000) (hok : okS m = true) :
    Calls Tryz.prog 148 #[.pointer (some ⟨p, 3, none⟩), .int .i64 room, .agg #[.int .i64 m.1, .string m.2], .func (.func 53) #[] #[]] W fun e w' => e = .returned (.bool true) ∧ (∃ x', RAt w0 p x' { s with specials := s.specials ++ [m] } n k w') ∧ ∀ q, q < W.heap.size → q ≠ p → some q ≠ (Value.slice x.a3 x.n3 x.c3).ownBlock → w'.heap[q]? = W.heap[q]? := by
  have HR0 := hide (h.low (low_alloc W (.cells #[.int .i64 m.1, .string m.2] 57)))
  clear h
  have c0 : (W.alloc (.cells #[.int .i64 m.1, .string m.2] 57)).cell? ⟨p, 3, none⟩ = some (.slice x.a3 x.n3 x.c3) := HR0.out.cell 3
  have hr1 : ¬ room ≤ (x.n3 : Int) := by omega
  have hbx : (W.alloc (.cells #[.int .i64 m.1, .string m.2] 57)).heap[W.heap.size]? = some (.cells #[.int .i64 m.1, .string m.2] 57 (0, 0)) := heap_alloc_new W _
  have K := rightSpecial_any m (W.alloc (.cells #[.int .i64 m.1, .string m.2] 57))
  rw [hok] at K
  obtain ⟨i0, hii, hz0, hz1, hz2⟩ := info_parts info_S
  have HBX := hide hbx
  have hlt0 : W.heap.size < (W.alloc (.cells #[.int .i64 m.1, .string m.2] 57)).heap.size := by simp
  clear hok hbx
  go_enter Tryz.func148, Tryz.ntmps148
  go_wp2_with fail
  refine K.mono ?_
  rintro e w1 ⟨rfl, hb1⟩
  have HR1 := hide (HR0.out.low (hb1))
  have HFR := hide (fun (q : Nat) (hq : q < W.heap.size) => (hb1.block q (by simp; omega)).trans (Below.heap_alloc W (.cells #[.int .i64 m.1, .string m.2] 57) q hq))
  have hs1 : W.heap.size ≤ w1.heap.size := Nat.le_trans (low_alloc W _).size hb1.size
  have hbx1 : w1.heap[W.heap.size]? = some (.cells #[.int .i64 m.1, .string m.2] 57 (0, 0)) := by rw [hb1.block _ hlt0]; exact HBX.out
  have b0 : w1.cell? ⟨W.heap.size, 0, none⟩ = some (.int .i64 m.1) := by simp [World.cell?, hbx1]
  have b1 : w1.cell? ⟨W.heap.size, 1, none⟩ = some (.string m.2) := by simp [World.cell?, hbx1]
  have c1 : w1.cell? ⟨p, 3, none⟩ = some (.slice x.a3 x.n3 x.c3) := HR1.out.cell 3
  have f1 := HR1.out.free 3
  have tlt := HR1.out.lt
  have hown1 := HR1.out.m3.own
  have hs0 : w0.heap.size ≤ w1.heap.size := HR1.out.bel.size
  have hpne : some p ≠ (Value.slice x.a3 x.n3 x.c3).ownBlock := fun e => HR1.out.m3.ne HR1.out.blk (by decide) e.symm
  have hbne : W.heap.size < w1.heap.size := Nat.lt_of_lt_of_le hlt0 hb1.size
  have hlo := low_alloc w1 (.cells #[.int .i64 m.1, .string m.2] 57)
  have HR2 := hide ((HR1.out.low hlo).low (below_drew (Below.refl _ _)))
  clear hb1 K HR0 HBX hlo hbx1 c0 hlt0
  go_wp2
  go_region_law ((refine step_append_lies _ (by rfl) _ _ _ (by rfl) w0.heap.size 57 i0 _ 2 24 Tryz.underlying25 hii hz0 hz1 hz2 (by rfl) (by omega) _ x.n3 (flat eS s.specials) (by rfl) (by first | exact (hown1.alloc _).drew | exact hown1.drew.alloc _) _ 1 _ (eS m) (by rfl) (by rfl) (by first | exact World.news_of_block (heap_alloc_new w1 _) | exact World.news_of_block (heap_alloc_new w1.drew _)) (one_S m) (by omega) (by unfold maxLen; omega) (by omega) (by simp; omega) (w1.heap.size + 1) (by simp) ?_; intro g cap1 w3 hown hgrow hat hlt3; have e1 : w3.cell? ⟨p, 3, none⟩ = some (.slice x.a3 x.n3 x.c3) := (hgrow.cell_far ⟨p, 3, none⟩ (by simp; omega) hpne).trans (by first | exact (cell_old w1 _ tlt).trans c1 | exact (cell_old w1.drew _ tlt).trans c1); have ef : w3.frozen? ⟨p, 3, none⟩ = false := (hgrow.frozen_far ⟨p, 3, none⟩ (by simp; omega) hpne).trans (by first | exact (frozen_old w1 _ tlt).trans f1 | exact (frozen_old w1.drew _ tlt).trans f1)))
  all_goals
    have hgrow' : (w1.alloc (.cells #[.int .i64 m.1, .string m.2] 57)).drew.grownBy w3 (Value.slice x.a3 x.n3 x.c3).ownBlock := hgrow
    have HRF := hide (RAt.addSpecial m HR2.out hgrow' hown)
    have HFF := hide (fun (q : Nat) (hq : q < W.heap.size) (hp : q ≠ p) (ho : some q ≠ (Value.slice x.a3 x.n3 x.c3).ownBlock) => (Below.heap_setCell w3 ⟨p, 3, none⟩ (.slice (some ⟨g, 0, none⟩) (x.n3 + 1 : Nat) cap1) q (fun e => hp e)).trans ((hgrow'.block q (by simp; omega) ho).trans ((Below.heap_alloc w1 (.cells #[.int .i64 m.1, .string m.2] 57) q (by omega)).trans (HFR.out q hq))))
    clear hgrow hgrow' hown hat
    go_wp2
    go_ret
    exact ⟨rfl, ⟨_, HRF.out⟩, HFF.out⟩

set_option maxHeartbeats 4000000 in
set_option maxRecDepth 20000 in
theorem addClass_no (w0 : World) (p : Nat) (x : Sv) (s : Sp) (n k : Nat) (W : World) (h : RAt w0 p x s n k W) (room : Int) (m : Int × Int × Int) (hno : ¬ ((x.n4 : Int) < room ∧ okC m = true)) :
    Calls Tryz.prog 149 #[.pointer (some ⟨p, 4, none⟩), .int .i64 room, .agg #[.int .i64 m.1, .int .i64 m.2.1, .int .i64 m.2.2], .func (.func 55) #[] #[]] W fun e w' => e = .returned (.bool false) ∧ RAt w0 p x s n k w' ∧ Below W.heap.size W w' := by
  have HR0 := hide (h.low (low_alloc W (.cells #[.int .i64 m.1, .int .i64 m.2.1, .int .i64 m.2.2] 64)))
  clear h
  have c0 : (W.alloc (.cells #[.int .i64 m.1, .int .i64 m.2.1, .int .i64 m.2.2] 64)).cell? ⟨p, 4, none⟩ = some (.slice x.a4 x.n4 x.c4) := HR0.out.cell 4
  by_cases hroom : (x.n4 : Int) < room
  · have hok : okC m = false := by cases he : okC m with | false => rfl | true => exact absurd ⟨hroom, he⟩ hno
    have hr1 : ¬ room ≤ (x.n4 : Int) := by omega
    have K := rightClass_any m (W.alloc (.cells #[.int .i64 m.1, .int .i64 m.2.1, .int .i64 m.2.2] 64))
    rw [hok] at K
    clear hok hno
    go_enter Tryz.func149, Tryz.ntmps149
    go_wp2_with fail
    refine K.mono ?_
    rintro e w1 ⟨rfl, hb1⟩
    have HR1 := hide (HR0.out.low (hb1))
    have HBB := hide ((low_alloc W _).trans (hb1.mono (low_alloc W _).size))
    clear hb1
    go_wp2
    go_ret
    exact ⟨rfl, HR1.out, HBB.out⟩
  · have hr1 : room ≤ (x.n4 : Int) := by omega
    go_enter Tryz.func149, Tryz.ntmps149
    go_wp2
    go_ret
    exact ⟨rfl, HR0.out, low_alloc W _⟩

theorem info_C : (Tryz.prog.info? 64).map (fun i => (i.zero, i.size, i.bytes)) = some (some (.agg #[.int .i64 0, .int .i64 0, .int .i64 0]), 3, 24) := by kernel_rfl
theorem one_C (m : Int × Int × Int) : ∀ u ∈ eC m, u.oneCell' = true := by
  intro u hu
  simp only [eC, List.mem_cons, List.not_mem_nil, or_false] at hu
  rcases hu with rfl | rfl | rfl <;> rfl

set_option maxHeartbeats 8000000 in
set_option maxRecDepth 20000 in
theorem addClass_yes (w0 : World) (p : Nat) (x : Sv) (s : Sp) (n k : Nat) (W : World) (h : RAt w0 p x s n k W) (room : Int) (m : Int × Int × Int) (hroom : (x.n4 : Int) < room) (hrm : room ≤ 1000) (hok : okC m = true) :
    Calls Tryz.prog 149 #[.pointer (some ⟨p, 4, none⟩), .int .i64 room, .agg #[.int .i64 m.1, .int .i64 m.2.1, .int .i64 m.2.2], .func (.func 55) #[] #[]] W fun e w' => e = .returned (.bool true) ∧ (∃ x', RAt w0 p x' { s with classes := s.classes ++ [m] } n k w') ∧ ∀ q, q < W.heap.size → q ≠ p → some q ≠ (Value.slice x.a4 x.n4 x.c4).ownBlock → w'.heap[q]? = W.heap[q]? := by
  have HR0 := hide (h.low (low_alloc W (.cells #[.int .i64 m.1, .int .i64 m.2.1, .int .i64 m.2.2] 64)))
  clear h
  have c0 : (W.alloc (.cells #[.int .i64 m.1, .int .i64 m.2.1, .int .i64 m.2.2] 64)).cell? ⟨p, 4, none⟩ = some (.slice x.a4 x.n4 x.c4) := HR0.out.cell 4
  have hr1 : ¬ room ≤ (x.n4 : Int) := by omega
  have hbx : (W.alloc (.cells #[.int .i64 m.1, .int .i64 m.2.1, .int .i64 m.2.2] 64)).heap[W.heap.size]? = some (.cells #[.int .i64 m.1, .int .i64 m.2.1, .int .i64 m.2.2] 64 (0, 0)) := heap_alloc_new W _
  have K := rightClass_any m (W.alloc (.cells #[.int .i64 m.1, .int .i64 m.2.1, .int .i64 m.2.2] 64))
  rw [hok] at K
  obtain ⟨i0, hii, hz0, hz1, hz2⟩ := info_parts info_C
  have HBX := hide hbx
  have hlt0 : W.heap.size < (W.alloc (.cells #[.int .i64 m.1, .int .i64 m.2.1, .int .i64 m.2.2] 64)).heap.size := by simp
  clear hok hbx
  go_enter Tryz.func149, Tryz.ntmps149
  go_wp2_with fail
  refine K.mono ?_
  rintro e w1 ⟨rfl, hb1⟩
  have HR1 := hide (HR0.out.low (hb1))
  have HFR := hide (fun (q : Nat) (hq : q < W.heap.size) => (hb1.block q (by simp; omega)).trans (Below.heap_alloc W (.cells #[.int .i64 m.1, .int .i64 m.2.1, .int .i64 m.2.2] 64) q hq))
  have hs1 : W.heap.size ≤ w1.heap.size := Nat.le_trans (low_alloc W _).size hb1.size
  have hbx1 : w1.heap[W.heap.size]? = some (.cells #[.int .i64 m.1, .int .i64 m.2.1, .int .i64 m.2.2] 64 (0, 0)) := by rw [hb1.block _ hlt0]; exact HBX.out
  have b0 : w1.cell? ⟨W.heap.size, 0, none⟩ = some (.int .i64 m.1) := by simp [World.cell?, hbx1]
  have b1 : w1.cell? ⟨W.heap.size, 1, none⟩ = some (.int .i64 m.2.1) := by simp [World.cell?, hbx1]
  have b2 : w1.cell? ⟨W.heap.size, 2, none⟩ = some (.int .i64 m.2.2) := by simp [World.cell?, hbx1]
  have c1 : w1.cell? ⟨p, 4, none⟩ = some (.slice x.a4 x.n4 x.c4) := HR1.out.cell 4
  have f1 := HR1.out.free 4
  have tlt := HR1.out.lt
  have hown1 := HR1.out.m4.own
  have hs0 : w0.heap.size ≤ w1.heap.size := HR1.out.bel.size
  have hpne : some p ≠ (Value.slice x.a4 x.n4 x.c4).ownBlock := fun e => HR1.out.m4.ne HR1.out.blk (by decide) e.symm
  have hbne : W.heap.size < w1.heap.size := Nat.lt_of_lt_of_le hlt0 hb1.size
  have hlo := low_alloc w1 (.cells #[.int .i64 m.1, .int .i64 m.2.1, .int .i64 m.2.2] 64)
  have HR2 := hide ((HR1.out.low hlo).low (below_drew (Below.refl _ _)))
  clear hb1 K HR0 HBX hlo hbx1 c0 hlt0
  go_wp2
  go_region_law ((refine step_append_lies _ (by rfl) _ _ _ (by rfl) w0.heap.size 64 i0 _ 3 24 Tryz.underlying23 hii hz0 hz1 hz2 (by rfl) (by omega) _ x.n4 (flat eC s.classes) (by rfl) (by first | exact (hown1.alloc _).drew | exact hown1.drew.alloc _) _ 1 _ (eC m) (by rfl) (by rfl) (by first | exact World.news_of_block (heap_alloc_new w1 _) | exact World.news_of_block (heap_alloc_new w1.drew _)) (one_C m) (by omega) (by unfold maxLen; omega) (by omega) (by simp; omega) (w1.heap.size + 1) (by simp) ?_; intro g cap1 w3 hown hgrow hat hlt3; have e1 : w3.cell? ⟨p, 4, none⟩ = some (.slice x.a4 x.n4 x.c4) := (hgrow.cell_far ⟨p, 4, none⟩ (by simp; omega) hpne).trans (by first | exact (cell_old w1 _ tlt).trans c1 | exact (cell_old w1.drew _ tlt).trans c1); have ef : w3.frozen? ⟨p, 4, none⟩ = false := (hgrow.frozen_far ⟨p, 4, none⟩ (by simp; omega) hpne).trans (by first | exact (frozen_old w1 _ tlt).trans f1 | exact (frozen_old w1.drew _ tlt).trans f1)))
  all_goals
    have hgrow' : (w1.alloc (.cells #[.int .i64 m.1, .int .i64 m.2.1, .int .i64 m.2.2] 64)).drew.grownBy w3 (Value.slice x.a4 x.n4 x.c4).ownBlock := hgrow
    have HRF := hide (RAt.addClass m HR2.out hgrow' hown)
    have HFF := hide (fun (q : Nat) (hq : q < W.heap.size) (hp : q ≠ p) (ho : some q ≠ (Value.slice x.a4 x.n4 x.c4).ownBlock) => (Below.heap_setCell w3 ⟨p, 4, none⟩ (.slice (some ⟨g, 0, none⟩) (x.n4 + 1 : Nat) cap1) q (fun e => hp e)).trans ((hgrow'.block q (by simp; omega) ho).trans ((Below.heap_alloc w1 (.cells #[.int .i64 m.1, .int .i64 m.2.1, .int .i64 m.2.2] 64) q (by omega)).trans (HFR.out q hq))))
    clear hgrow hgrow' hown hat
    go_wp2
    go_ret
    exact ⟨rfl, ⟨_, HRF.out⟩, HFF.out⟩

set_option maxHeartbeats 4000000 in
set_option maxRecDepth 20000 in
theorem addJoin_no (w0 : World) (p : Nat) (x : Sv) (s : Sp) (n k : Nat) (W : World) (h : RAt w0 p x s n k W) (room : Int) (m : Int × Int) (hno : ¬ ((x.n5 : Int) < room ∧ okJ m = true)) :
    Calls Tryz.prog 150 #[.pointer (some ⟨p, 5, none⟩), .int .i64 room, .agg #[.int .i64 m.1, .int .i64 m.2], .func (.func 57) #[] #[]] W fun e w' => e = .returned (.bool false) ∧ RAt w0 p x s n k w' ∧ Below W.heap.size W w' := by
  have HR0 := hide (h.low (low_alloc W (.cells #[.int .i64 m.1, .int .i64 m.2] 66)))
  clear h
  have c0 : (W.alloc (.cells #[.int .i64 m.1, .int .i64 m.2] 66)).cell? ⟨p, 5, none⟩ = some (.slice x.a5 x.n5 x.c5) := HR0.out.cell 5
  by_cases hroom : (x.n5 : Int) < room
  · have hok : okJ m = false := by cases he : okJ m with | false => rfl | true => exact absurd ⟨hroom, he⟩ hno
    have hr1 : ¬ room ≤ (x.n5 : Int) := by omega
    have K := rightJoin_any m (W.alloc (.cells #[.int .i64 m.1, .int .i64 m.2] 66))
    rw [hok] at K
    clear hok hno
    go_enter Tryz.func150, Tryz.ntmps150
    go_wp2_with fail
    refine K.mono ?_
    rintro e w1 ⟨rfl, hb1⟩
    have HR1 := hide (HR0.out.low (hb1))
    have HBB := hide ((low_alloc W _).trans (hb1.mono (low_alloc W _).size))
    clear hb1
    go_wp2
    go_ret
    exact ⟨rfl, HR1.out, HBB.out⟩
  · have hr1 : room ≤ (x.n5 : Int) := by omega
    go_enter Tryz.func150, Tryz.ntmps150
    go_wp2
    go_ret
    exact ⟨rfl, HR0.out, low_alloc W _⟩

theorem info_J : (Tryz.prog.info? 66).map (fun i => (i.zero, i.size, i.bytes)) = some (some (.agg #[.int .i64 0, .int .i64 0]), 2, 16) := by kernel_rfl
theorem one_J (m : Int × Int) : ∀ u ∈ eM m, u.oneCell' = true := by
  intro u hu
  simp only [eM, List.mem_cons, List.not_mem_nil, or_false] at hu
  rcases hu with rfl | rfl <;> rfl

set_option maxHeartbeats 8000000 in
set_option maxRecDepth 20000 in
theorem addJoin_yes (w0 : World) (p : Nat) (x : Sv) (s : Sp) (n k : Nat) (W : World) (h : RAt w0 p x s n k W) (room : Int) (m : Int × Int) (hroom : (x.n5 : Int) < room) (hrm : room ≤ 1000) (hok : okJ m = true) :
    Calls Tryz.prog 150 #[.pointer (some ⟨p, 5, none⟩), .int .i64 room, .agg #[.int .i64 m.1, .int .i64 m.2], .func (.func 57) #[] #[]] W fun e w' => e = .returned (.bool true) ∧ (∃ x', RAt w0 p x' { s with joins := s.joins ++ [m] } n k w') ∧ ∀ q, q < W.heap.size → q ≠ p → some q ≠ (Value.slice x.a5 x.n5 x.c5).ownBlock → w'.heap[q]? = W.heap[q]? := by
  have HR0 := hide (h.low (low_alloc W (.cells #[.int .i64 m.1, .int .i64 m.2] 66)))
  clear h
  have c0 : (W.alloc (.cells #[.int .i64 m.1, .int .i64 m.2] 66)).cell? ⟨p, 5, none⟩ = some (.slice x.a5 x.n5 x.c5) := HR0.out.cell 5
  have hr1 : ¬ room ≤ (x.n5 : Int) := by omega
  have hbx : (W.alloc (.cells #[.int .i64 m.1, .int .i64 m.2] 66)).heap[W.heap.size]? = some (.cells #[.int .i64 m.1, .int .i64 m.2] 66 (0, 0)) := heap_alloc_new W _
  have K := rightJoin_any m (W.alloc (.cells #[.int .i64 m.1, .int .i64 m.2] 66))
  rw [hok] at K
  obtain ⟨i0, hii, hz0, hz1, hz2⟩ := info_parts info_J
  have HBX := hide hbx
  have hlt0 : W.heap.size < (W.alloc (.cells #[.int .i64 m.1, .int .i64 m.2] 66)).heap.size := by simp
  clear hok hbx
  go_enter Tryz.func150, Tryz.ntmps150
  go_wp2_with fail
  refine K.mono ?_
  rintro e w1 ⟨rfl, hb1⟩
  have HR1 := hide (HR0.out.low (hb1))
  have HFR := hide (fun (q : Nat) (hq : q < W.heap.size) => (hb1.block q (by simp; omega)).trans (Below.heap_alloc W (.cells #[.int .i64 m.1, .int .i64 m.2] 66) q hq))
  have hs1 : W.heap.size ≤ w1.heap.size := Nat.le_trans (low_alloc W _).size hb1.size
  have hbx1 : w1.heap[W.heap.size]? = some (.cells #[.int .i64 m.1, .int .i64 m.2] 66 (0, 0)) := by rw [hb1.block _ hlt0]; exact HBX.out
  have b0 : w1.cell? ⟨W.heap.size, 0, none⟩ = some (.int .i64 m.1) := by simp [World.cell?, hbx1]
  have b1 : w1.cell? ⟨W.heap.size, 1, none⟩ = some (.int .i64 m.2) := by simp [World.cell?, hbx1]
  have c1 : w1.cell? ⟨p, 5, none⟩ = some (.slice x.a5 x.n5 x.c5) := HR1.out.cell 5
  have f1 := HR1.out.free 5
  have tlt := HR1.out.lt
  have hown1 := HR1.out.m5.own
  have hs0 : w0.heap.size ≤ w1.heap.size := HR1.out.bel.size
  have hpne : some p ≠ (Value.slice x.a5 x.n5 x.c5).ownBlock := fun e => HR1.out.m5.ne HR1.out.blk (by decide) e.symm
  have hbne : W.heap.size < w1.heap.size := Nat.lt_of_lt_of_le hlt0 hb1.size
  have hlo := low_alloc w1 (.cells #[.int .i64 m.1, .int .i64 m.2] 66)
  have HR2 := hide ((HR1.out.low hlo).low (below_drew (Below.refl _ _)))
  clear hb1 K HR0 HBX hlo hbx1 c0 hlt0
  go_wp2
  go_region_law ((refine step_append_lies _ (by rfl) _ _ _ (by rfl) w0.heap.size 66 i0 _ 2 16 Tryz.underlying24 hii hz0 hz1 hz2 (by rfl) (by omega) _ x.n5 (flat eM s.joins) (by rfl) (by first | exact (hown1.alloc _).drew | exact hown1.drew.alloc _) _ 1 _ (eM m) (by rfl) (by rfl) (by first | exact World.news_of_block (heap_alloc_new w1 _) | exact World.news_of_block (heap_alloc_new w1.drew _)) (one_J m) (by omega) (by unfold maxLen; omega) (by omega) (by simp; omega) (w1.heap.size + 1) (by simp) ?_; intro g cap1 w3 hown hgrow hat hlt3; have e1 : w3.cell? ⟨p, 5, none⟩ = some (.slice x.a5 x.n5 x.c5) := (hgrow.cell_far ⟨p, 5, none⟩ (by simp; omega) hpne).trans (by first | exact (cell_old w1 _ tlt).trans c1 | exact (cell_old w1.drew _ tlt).trans c1); have ef : w3.frozen? ⟨p, 5, none⟩ = false := (hgrow.frozen_far ⟨p, 5, none⟩ (by simp; omega) hpne).trans (by first | exact (frozen_old w1 _ tlt).trans f1 | exact (frozen_old w1.drew _ tlt).trans f1)))
  all_goals
    have hgrow' : (w1.alloc (.cells #[.int .i64 m.1, .int .i64 m.2] 66)).drew.grownBy w3 (Value.slice x.a5 x.n5 x.c5).ownBlock := hgrow
    have HRF := hide (RAt.addJoin m HR2.out hgrow' hown)
    have HFF := hide (fun (q : Nat) (hq : q < W.heap.size) (hp : q ≠ p) (ho : some q ≠ (Value.slice x.a5 x.n5 x.c5).ownBlock) => (Below.heap_setCell w3 ⟨p, 5, none⟩ (.slice (some ⟨g, 0, none⟩) (x.n5 + 1 : Nat) cap1) q (fun e => hp e)).trans ((hgrow'.block q (by simp; omega) ho).trans ((Below.heap_alloc w1 (.cells #[.int .i64 m.1, .int .i64 m.2] 66) q (by omega)).trans (HFR.out q hq))))
    clear hgrow hgrow' hown hat
    go_wp2
    go_ret
    exact ⟨rfl, ⟨_, HRF.out⟩, HFF.out⟩
end Go.Proofs.YteonoccefpkcgaaGreatDoor.Wf

namespace Go.Proofs.YteonoccefpkcgaaGreatDoor.Wf
open Go.RowKit
set_option linter.unusedVariables false
set_option linter.unusedSimpArgs false

theorem flat_len {α : Type} (e : α → List Value) (k : Nat) (hk : ∀ a, (e a).length = k) : ∀ l : List α, (flat e l).length = l.length * k
  | [] => by simp [flat]
  | a :: r => by
    have := flat_len e k hk r
    simp only [flat, List.flatMap_cons, List.length_append, hk, List.length_cons] at this ⊢
    rw [this, Nat.succ_mul]
    omega
theorem flat_one {α : Type} (e : α → List Value) (h : ∀ a, ∀ u ∈ e a, u.oneCell' = true) (l : List α) : ∀ u ∈ flat e l, u.oneCell' = true := by
  intro u hu
  obtain ⟨a, _, h1⟩ := List.mem_flatMap.1 hu
  exact h a u h1
theorem addr_addk (b off k : Nat) : (⟨b, off, none⟩ : Addr).add k = ⟨b, off + k, none⟩ := by
  unfold Addr.add; split <;> simp_all
theorem flat_news {α : Type} (e : α → List Value) (k : Nat) (hk : ∀ a, (e a).length = k) (hk0 : 0 < k) (l : List α) (d : α) (W : World) (b off : Nat) (h : ∀ i j, i < l.length → j < k → W.cell? ⟨b, off + i * k + j, none⟩ = (e (l.getD i d))[j]?) : ∀ (j : Nat) (u : Value), (flat e l)[j]? = some u → W.cell? (Addr.add ⟨b, off, none⟩ j) = some u := by
  intro j u hj
  have hjl : j < (flat e l).length := (List.getElem?_eq_some_iff.1 hj).1
  rw [flat_len e k hk] at hjl
  have hr : j % k < k := Nat.mod_lt _ hk0
  have hi : j / k < l.length := (Nat.div_lt_iff_lt_mul hk0).2 hjl
  have hjj : j / k * k + j % k = j := Nat.div_add_mod' j k
  rw [addr_addk, show off + j = off + j / k * k + j % k by omega, h _ _ hi hr, ← flat_get e k hk l (j / k) (j % k) d hi hr, hjj]
  exact hj
theorem one_T (m : ByteArray) : ∀ u ∈ eT m, u.oneCell' = true := by
  intro u hu
  simp only [eT, List.mem_cons, List.not_mem_nil, or_false] at hu
  subst hu
  rfl
theorem low_empty (w : World) (T : TypeId) : Below w.heap.size w (w.alloc (.cells #[] T)) := low_alloc _ _

set_option maxRecDepth 20000 in
set_option maxHeartbeats 2000000 in
theorem cloneM_any (w : World) (ao : Option Addr) (n cap : Nat) (l : List (Int × Int)) (h : RdM w ao n l) (hn : n ≤ 1000) :
    Calls Tryz.prog 82 #[.slice ao n cap] w fun e w' => (∃ a1 c1, e = .returned (.slice a1 n c1) ∧ Row w.heap.size 117 2 eM a1 n c1 l w') ∧ Below w.heap.size w w' := by
  have heq : ∀ (w : World) (a : Option Addr) (n c n' c' : Nat), (binOp .eql 29 (.slice a n c) (.slice none n' c')).run Tryz.prog w = .ok (.bool a.isNone) w := fun w a n c n' c' => Lib.run_eql_slice_nil w _ _ a n c n' c' Tryz.underlying29
  obtain ⟨hl, hc⟩ := h
  cases ao with
  | none =>
    obtain rfl : n = 0 := by
      rcases hc with h | ⟨b, off, h, _⟩
      · exact h
      · cases h
    obtain rfl : l = [] := List.eq_nil_of_length_eq_zero hl
    clear hc hl
    go_enter Tryz.func82, Tryz.ntmps82
    go_wp2
    go_ret
    exact ⟨⟨none, 0, rfl, Row.nil _ _ _ _ _⟩, Below.refl _ _⟩
  | some a =>
    obtain ⟨i0, hi, hz0, hz1, hz2⟩ := info_parts info_M
    have hnews : ∀ (j : Nat) (u : Value), (flat eM l)[j]? = some u → (w.alloc (.cells #[] 117)).cell? (Addr.add a j) = some u := by
      rcases hc with h0 | ⟨b, off, h, hlt, hcc⟩
      · subst h0
        obtain rfl : l = [] := List.eq_nil_of_length_eq_zero hl
        intro j u hj
        simp [flat] at hj
      · cases h
        refine flat_news eM 2 (fun _ => rfl) (by omega) l (0, 0) _ b off (fun i j hi hj => ?_)
        rw [(low_empty w _).cell hlt]
        rw [hl] at hi
        have hci := hcc i hi
        rcases (show j = 0 ∨ j = 1 by omega) with rfl | rfl
        · exact hci.1
        · exact hci.2
    obtain ⟨v', w1, hrun, hown, hgrow, hrest⟩ := run_append_own_at (P := Tryz.prog) (w.alloc (.cells #[] 117)) w.heap.size 29 29 117 i0 _ 2 16 Tryz.underlying29 hi hz0 hz1 hz2 rfl (by omega) (.slice (some ⟨w.heap.size, 0, none⟩) 0 0) 0 [] (World.ownsRow_made w #[] 0 (Nat.le_refl _) (Nat.zero_le _) rfl) a n cap (flat eM l) (by rw [flat_len eM 2 (fun _ => rfl), hl]) hnews (flat_one eM one_M l) (by unfold maxLen; omega) (by omega) (by simp)
    rw [Nat.zero_add, List.nil_append] at hown
    have hv : ∃ a1 c1, v' = .slice a1 n c1 := by
      rcases hown.2 with ⟨rfl, h0⟩ | ⟨g, c, cur, rfl, _⟩
      · exact ⟨none, 0, by rw [h0]⟩
      · exact ⟨_, c, rfl⟩
    obtain ⟨a1, c1, rfl⟩ := hv
    have HR : Hid (Row w.heap.size 117 2 eM a1 n c1 l w1) := hide ⟨hl, hown⟩
    have HB : Hid (Below w.heap.size w w1) := hide ((low_empty w 117).trans ⟨hgrow.os, hgrow.tape, hgrow.output, hgrow.size, fun k hk => hgrow.block k (by simp; omega) (fun e => by simp [Value.ownBlock] at e; omega)⟩)
    have HRUN := hide hrun
    clear hrun hown hgrow hrest hc hl hnews hi hz0 hz1 hz2
    go_enter Tryz.func82, Tryz.ntmps82
    go_wp2_with (at_builtin; refine Lib.wpList_append_run _ rfl _ _ _ _ rfl _ _ rfl rfl _ _ HRUN.out ?_)
    go_ret
    exact ⟨⟨_, _, rfl, HR.out⟩, HB.out⟩

set_option maxRecDepth 20000 in
set_option maxHeartbeats 2000000 in
theorem cloneT_any (w : World) (ao : Option Addr) (n cap : Nat) (l : List ByteArray) (h : RdT w ao n l) (hn : n ≤ 1000) :
    Calls Tryz.prog 83 #[.slice ao n cap] w fun e w' => (∃ a1 c1, e = .returned (.slice a1 n c1) ∧ Row w.heap.size 9 1 eT a1 n c1 l w') ∧ Below w.heap.size w w' := by
  have heq : ∀ (w : World) (a : Option Addr) (n c n' c' : Nat), (binOp .eql 30 (.slice a n c) (.slice none n' c')).run Tryz.prog w = .ok (.bool a.isNone) w := fun w a n c n' c' => Lib.run_eql_slice_nil w _ _ a n c n' c' Tryz.underlying30
  obtain ⟨hl, hc⟩ := h
  cases ao with
  | none =>
    obtain rfl : n = 0 := by
      rcases hc with h | ⟨b, off, h, _⟩
      · exact h
      · cases h
    obtain rfl : l = [] := List.eq_nil_of_length_eq_zero hl
    clear hc hl
    go_enter Tryz.func83, Tryz.ntmps83
    go_wp2
    go_ret
    exact ⟨⟨none, 0, rfl, Row.nil _ _ _ _ _⟩, Below.refl _ _⟩
  | some a =>
    obtain ⟨i0, hi, hz0, hz1, hz2⟩ := info_parts info_T
    have hnews : ∀ (j : Nat) (u : Value), (flat eT l)[j]? = some u → (w.alloc (.cells #[] 9)).cell? (Addr.add a j) = some u := by
      rcases hc with h0 | ⟨b, off, h, hlt, hcc⟩
      · subst h0
        obtain rfl : l = [] := List.eq_nil_of_length_eq_zero hl
        intro j u hj
        simp [flat] at hj
      · cases h
        refine flat_news eT 1 (fun _ => rfl) (by omega) l ⟨#[]⟩ _ b off (fun i j hi hj => ?_)
        rw [(low_empty w _).cell hlt]
        rw [hl] at hi
        have hci := hcc i hi
        obtain rfl : j = 0 := by omega
        rw [Nat.mul_one]
        exact hci
    obtain ⟨v', w1, hrun, hown, hgrow, hrest⟩ := run_append_own_at (P := Tryz.prog) (w.alloc (.cells #[] 9)) w.heap.size 30 30 9 i0 _ 1 16 Tryz.underlying30 hi hz0 hz1 hz2 rfl (by omega) (.slice (some ⟨w.heap.size, 0, none⟩) 0 0) 0 [] (World.ownsRow_made w #[] 0 (Nat.le_refl _) (Nat.zero_le _) rfl) a n cap (flat eT l) (by rw [flat_len eT 1 (fun _ => rfl), hl]) hnews (flat_one eT one_T l) (by unfold maxLen; omega) (by omega) (by simp)
    rw [Nat.zero_add, List.nil_append] at hown
    have hv : ∃ a1 c1, v' = .slice a1 n c1 := by
      rcases hown.2 with ⟨rfl, h0⟩ | ⟨g, c, cur, rfl, _⟩
      · exact ⟨none, 0, by rw [h0]⟩
      · exact ⟨_, c, rfl⟩
    obtain ⟨a1, c1, rfl⟩ := hv
    have HR : Hid (Row w.heap.size 9 1 eT a1 n c1 l w1) := hide ⟨hl, hown⟩
    have HB : Hid (Below w.heap.size w w1) := hide ((low_empty w 9).trans ⟨hgrow.os, hgrow.tape, hgrow.output, hgrow.size, fun k hk => hgrow.block k (by simp; omega) (fun e => by simp [Value.ownBlock] at e; omega)⟩)
    have HRUN := hide hrun
    clear hrun hown hgrow hrest hc hl hnews hi hz0 hz1 hz2
    go_enter Tryz.func83, Tryz.ntmps83
    go_wp2_with (at_builtin; refine Lib.wpList_append_run _ rfl _ _ _ _ rfl _ _ rfl rfl _ _ HRUN.out ?_)
    go_ret
    exact ⟨⟨_, _, rfl, HR.out⟩, HB.out⟩

set_option maxRecDepth 20000 in
set_option maxHeartbeats 2000000 in
theorem cloneS_any (w : World) (ao : Option Addr) (n cap : Nat) (l : List (Int × ByteArray)) (h : RdS w ao n l) (hn : n ≤ 1000) :
    Calls Tryz.prog 84 #[.slice ao n cap] w fun e w' => (∃ a1 c1, e = .returned (.slice a1 n c1) ∧ Row w.heap.size 57 2 eS a1 n c1 l w') ∧ Below w.heap.size w w' := by
  have heq : ∀ (w : World) (a : Option Addr) (n c n' c' : Nat), (binOp .eql 25 (.slice a n c) (.slice none n' c')).run Tryz.prog w = .ok (.bool a.isNone) w := fun w a n c n' c' => Lib.run_eql_slice_nil w _ _ a n c n' c' Tryz.underlying25
  obtain ⟨hl, hc⟩ := h
  cases ao with
  | none =>
    obtain rfl : n = 0 := by
      rcases hc with h | ⟨b, off, h, _⟩
      · exact h
      · cases h
    obtain rfl : l = [] := List.eq_nil_of_length_eq_zero hl
    clear hc hl
    go_enter Tryz.func84, Tryz.ntmps84
    go_wp2
    go_ret
    exact ⟨⟨none, 0, rfl, Row.nil _ _ _ _ _⟩, Below.refl _ _⟩
  | some a =>
    obtain ⟨i0, hi, hz0, hz1, hz2⟩ := info_parts info_S
    have hnews : ∀ (j : Nat) (u : Value), (flat eS l)[j]? = some u → (w.alloc (.cells #[] 57)).cell? (Addr.add a j) = some u := by
      rcases hc with h0 | ⟨b, off, h, hlt, hcc⟩
      · subst h0
        obtain rfl : l = [] := List.eq_nil_of_length_eq_zero hl
        intro j u hj
        simp [flat] at hj
      · cases h
        refine flat_news eS 2 (fun _ => rfl) (by omega) l (0, ⟨#[]⟩) _ b off (fun i j hi hj => ?_)
        rw [(low_empty w _).cell hlt]
        rw [hl] at hi
        have hci := hcc i hi
        rcases (show j = 0 ∨ j = 1 by omega) with rfl | rfl
        · exact hci.1
        · exact hci.2
    obtain ⟨v', w1, hrun, hown, hgrow, hrest⟩ := run_append_own_at (P := Tryz.prog) (w.alloc (.cells #[] 57)) w.heap.size 25 25 57 i0 _ 2 24 Tryz.underlying25 hi hz0 hz1 hz2 rfl (by omega) (.slice (some ⟨w.heap.size, 0, none⟩) 0 0) 0 [] (World.ownsRow_made w #[] 0 (Nat.le_refl _) (Nat.zero_le _) rfl) a n cap (flat eS l) (by rw [flat_len eS 2 (fun _ => rfl), hl]) hnews (flat_one eS one_S l) (by unfold maxLen; omega) (by omega) (by simp)
    rw [Nat.zero_add, List.nil_append] at hown
    have hv : ∃ a1 c1, v' = .slice a1 n c1 := by
      rcases hown.2 with ⟨rfl, h0⟩ | ⟨g, c, cur, rfl, _⟩
      · exact ⟨none, 0, by rw [h0]⟩
      · exact ⟨_, c, rfl⟩
    obtain ⟨a1, c1, rfl⟩ := hv
    have HR : Hid (Row w.heap.size 57 2 eS a1 n c1 l w1) := hide ⟨hl, hown⟩
    have HB : Hid (Below w.heap.size w w1) := hide ((low_empty w 57).trans ⟨hgrow.os, hgrow.tape, hgrow.output, hgrow.size, fun k hk => hgrow.block k (by simp; omega) (fun e => by simp [Value.ownBlock] at e; omega)⟩)
    have HRUN := hide hrun
    clear hrun hown hgrow hrest hc hl hnews hi hz0 hz1 hz2
    go_enter Tryz.func84, Tryz.ntmps84
    go_wp2_with (at_builtin; refine Lib.wpList_append_run _ rfl _ _ _ _ rfl _ _ rfl rfl _ _ HRUN.out ?_)
    go_ret
    exact ⟨⟨_, _, rfl, HR.out⟩, HB.out⟩

set_option maxRecDepth 20000 in
set_option maxHeartbeats 2000000 in
theorem cloneC_any (w : World) (ao : Option Addr) (n cap : Nat) (l : List (Int × Int × Int)) (h : RdC w ao n l) (hn : n ≤ 1000) :
    Calls Tryz.prog 85 #[.slice ao n cap] w fun e w' => (∃ a1 c1, e = .returned (.slice a1 n c1) ∧ Row w.heap.size 64 3 eC a1 n c1 l w') ∧ Below w.heap.size w w' := by
  have heq : ∀ (w : World) (a : Option Addr) (n c n' c' : Nat), (binOp .eql 23 (.slice a n c) (.slice none n' c')).run Tryz.prog w = .ok (.bool a.isNone) w := fun w a n c n' c' => Lib.run_eql_slice_nil w _ _ a n c n' c' Tryz.underlying23
  obtain ⟨hl, hc⟩ := h
  cases ao with
  | none =>
    obtain rfl : n = 0 := by
      rcases hc with h | ⟨b, off, h, _⟩
      · exact h
      · cases h
    obtain rfl : l = [] := List.eq_nil_of_length_eq_zero hl
    clear hc hl
    go_enter Tryz.func85, Tryz.ntmps85
    go_wp2
    go_ret
    exact ⟨⟨none, 0, rfl, Row.nil _ _ _ _ _⟩, Below.refl _ _⟩
  | some a =>
    obtain ⟨i0, hi, hz0, hz1, hz2⟩ := info_parts info_C
    have hnews : ∀ (j : Nat) (u : Value), (flat eC l)[j]? = some u → (w.alloc (.cells #[] 64)).cell? (Addr.add a j) = some u := by
      rcases hc with h0 | ⟨b, off, h, hlt, hcc⟩
      · subst h0
        obtain rfl : l = [] := List.eq_nil_of_length_eq_zero hl
        intro j u hj
        simp [flat] at hj
      · cases h
        refine flat_news eC 3 (fun _ => rfl) (by omega) l (0, 0, 0) _ b off (fun i j hi hj => ?_)
        rw [(low_empty w _).cell hlt]
        rw [hl] at hi
        have hci := hcc i hi
        rcases (show j = 0 ∨ j = 1 ∨ j = 2 by omega) with rfl | rfl | rfl
        · exact hci.1
        · exact hci.2.1
        · exact hci.2.2
    obtain ⟨v', w1, hrun, hown, hgrow, hrest⟩ := run_append_own_at (P := Tryz.prog) (w.alloc (.cells #[] 64)) w.heap.size 23 23 64 i0 _ 3 24 Tryz.underlying23 hi hz0 hz1 hz2 rfl (by omega) (.slice (some ⟨w.heap.size, 0, none⟩) 0 0) 0 [] (World.ownsRow_made w #[] 0 (Nat.le_refl _) (Nat.zero_le _) rfl) a n cap (flat eC l) (by rw [flat_len eC 3 (fun _ => rfl), hl]) hnews (flat_one eC one_C l) (by unfold maxLen; omega) (by omega) (by simp)
    rw [Nat.zero_add, List.nil_append] at hown
    have hv : ∃ a1 c1, v' = .slice a1 n c1 := by
      rcases hown.2 with ⟨rfl, h0⟩ | ⟨g, c, cur, rfl, _⟩
      · exact ⟨none, 0, by rw [h0]⟩
      · exact ⟨_, c, rfl⟩
    obtain ⟨a1, c1, rfl⟩ := hv
    have HR : Hid (Row w.heap.size 64 3 eC a1 n c1 l w1) := hide ⟨hl, hown⟩
    have HB : Hid (Below w.heap.size w w1) := hide ((low_empty w 64).trans ⟨hgrow.os, hgrow.tape, hgrow.output, hgrow.size, fun k hk => hgrow.block k (by simp; omega) (fun e => by simp [Value.ownBlock] at e; omega)⟩)
    have HRUN := hide hrun
    clear hrun hown hgrow hrest hc hl hnews hi hz0 hz1 hz2
    go_enter Tryz.func85, Tryz.ntmps85
    go_wp2_with (at_builtin; refine Lib.wpList_append_run _ rfl _ _ _ _ rfl _ _ rfl rfl _ _ HRUN.out ?_)
    go_ret
    exact ⟨⟨_, _, rfl, HR.out⟩, HB.out⟩

set_option maxRecDepth 20000 in
set_option maxHeartbeats 2000000 in
theorem cloneJ_any (w : World) (ao : Option Addr) (n cap : Nat) (l : List (Int × Int)) (h : RdM w ao n l) (hn : n ≤ 1000) :
    Calls Tryz.prog 86 #[.slice ao n cap] w fun e w' => (∃ a1 c1, e = .returned (.slice a1 n c1) ∧ Row w.heap.size 66 2 eM a1 n c1 l w') ∧ Below w.heap.size w w' := by
  have heq : ∀ (w : World) (a : Option Addr) (n c n' c' : Nat), (binOp .eql 24 (.slice a n c) (.slice none n' c')).run Tryz.prog w = .ok (.bool a.isNone) w := fun w a n c n' c' => Lib.run_eql_slice_nil w _ _ a n c n' c' Tryz.underlying24
  obtain ⟨hl, hc⟩ := h
  cases ao with
  | none =>
    obtain rfl : n = 0 := by
      rcases hc with h | ⟨b, off, h, _⟩
      · exact h
      · cases h
    obtain rfl : l = [] := List.eq_nil_of_length_eq_zero hl
    clear hc hl
    go_enter Tryz.func86, Tryz.ntmps86
    go_wp2
    go_ret
    exact ⟨⟨none, 0, rfl, Row.nil _ _ _ _ _⟩, Below.refl _ _⟩
  | some a =>
    obtain ⟨i0, hi, hz0, hz1, hz2⟩ := info_parts info_J
    have hnews : ∀ (j : Nat) (u : Value), (flat eM l)[j]? = some u → (w.alloc (.cells #[] 66)).cell? (Addr.add a j) = some u := by
      rcases hc with h0 | ⟨b, off, h, hlt, hcc⟩
      · subst h0
        obtain rfl : l = [] := List.eq_nil_of_length_eq_zero hl
        intro j u hj
        simp [flat] at hj
      · cases h
        refine flat_news eM 2 (fun _ => rfl) (by omega) l (0, 0) _ b off (fun i j hi hj => ?_)
        rw [(low_empty w _).cell hlt]
        rw [hl] at hi
        have hci := hcc i hi
        rcases (show j = 0 ∨ j = 1 by omega) with rfl | rfl
        · exact hci.1
        · exact hci.2
    obtain ⟨v', w1, hrun, hown, hgrow, hrest⟩ := run_append_own_at (P := Tryz.prog) (w.alloc (.cells #[] 66)) w.heap.size 24 24 66 i0 _ 2 16 Tryz.underlying24 hi hz0 hz1 hz2 rfl (by omega) (.slice (some ⟨w.heap.size, 0, none⟩) 0 0) 0 [] (World.ownsRow_made w #[] 0 (Nat.le_refl _) (Nat.zero_le _) rfl) a n cap (flat eM l) (by rw [flat_len eM 2 (fun _ => rfl), hl]) hnews (flat_one eM one_M l) (by unfold maxLen; omega) (by omega) (by simp)
    rw [Nat.zero_add, List.nil_append] at hown
    have hv : ∃ a1 c1, v' = .slice a1 n c1 := by
      rcases hown.2 with ⟨rfl, h0⟩ | ⟨g, c, cur, rfl, _⟩
      · exact ⟨none, 0, by rw [h0]⟩
      · exact ⟨_, c, rfl⟩
    obtain ⟨a1, c1, rfl⟩ := hv
    have HR : Hid (Row w.heap.size 66 2 eM a1 n c1 l w1) := hide ⟨hl, hown⟩
    have HB : Hid (Below w.heap.size w w1) := hide ((low_empty w 66).trans ⟨hgrow.os, hgrow.tape, hgrow.output, hgrow.size, fun k hk => hgrow.block k (by simp; omega) (fun e => by simp [Value.ownBlock] at e; omega)⟩)
    have HRUN := hide hrun
    clear hrun hown hgrow hrest hc hl hnews hi hz0 hz1 hz2
    go_enter Tryz.func86, Tryz.ntmps86
    go_wp2_with (at_builtin; refine Lib.wpList_append_run _ rfl _ _ _ _ rfl _ _ rfl rfl _ _ HRUN.out ?_)
    go_ret
    exact ⟨⟨_, _, rfl, HR.out⟩, HB.out⟩
end Go.Proofs.YteonoccefpkcgaaGreatDoor.Wf

namespace Go.Proofs.YteonoccefpkcgaaGreatDoor.Wf
open Go.RowKit
set_option linter.unusedVariables false
set_option linter.unusedSimpArgs false

/-- A spec whose lists are rows of the call's own, above B. -/
structure SpRw (B : Nat) (y : Sv) (s : Sp) (W : World) : Prop where
  r : y.r = s.ranked
  m1 : Row B 117 2 eM y.a1 y.n1 y.c1 s.merges W
  m2 : Row B 9 1 eT y.a2 y.n2 y.c2 s.tokens W
  m3 : Row B 57 2 eS y.a3 y.n3 y.c3 s.specials W
  m4 : Row B 64 3 eC y.a4 y.n4 y.c4 s.classes W
  m5 : Row B 66 2 eM y.a5 y.n5 y.c5 s.joins W
theorem Row.mono {α : Type} {B B' E k : Nat} {e : α → List Value} {ao : Option Addr} {n cap : Nat} {l : List α} {W : World} (h : Row B' E k e ao n cap l W) (hB : B ≤ B') : Row B E k e ao n cap l W := by
  refine ⟨h.len, h.own.1, ?_⟩
  rcases h.own.2 with h1 | ⟨g, c, cur, h1, h2, h3⟩
  · exact Or.inl h1
  · exact Or.inr ⟨g, c, cur, h1, by omega, h3⟩
theorem SpRw.low {B : Nat} {y : Sv} {s : Sp} {W W' : World} (h : SpRw B y s W) (hb : Below W.heap.size W W') : SpRw B y s W' :=
  ⟨h.r, h.m1.low hb, h.m2.low hb, h.m3.low hb, h.m4.low hb, h.m5.low hb⟩
theorem SpRw.mono {B B' : Nat} {y : Sv} {s : Sp} {W : World} (h : SpRw B' y s W) (hB : B ≤ B') : SpRw B y s W :=
  ⟨h.r, h.m1.mono hB, h.m2.mono hB, h.m3.mono hB, h.m4.mono hB, h.m5.mono hB⟩
theorem SpRw.spec {B : Nat} {y : Sv} {s : Sp} {W : World} (h : SpRw B y s W) : SpAt W y s := by
  refine ⟨h.r, ⟨h.m1.len, ?_⟩, ⟨h.m2.len, ?_⟩, ⟨h.m3.len, ?_⟩, ⟨h.m4.len, ?_⟩, ⟨h.m5.len, ?_⟩⟩
  · rcases Nat.eq_zero_or_pos y.n1 with h0 | h0
    · exact Or.inl h0
    · obtain ⟨g, hg, hl, hc⟩ := h.m1.cell (fun _ => rfl) h0 (0, 0)
      exact Or.inr ⟨g, 0, hg, hl, fun i hi => ⟨hc i 0 hi (by omega), hc i 1 hi (by omega)⟩⟩
  · rcases Nat.eq_zero_or_pos y.n2 with h0 | h0
    · exact Or.inl h0
    · obtain ⟨g, hg, hl, hc⟩ := h.m2.cell (fun _ => rfl) h0 ⟨#[]⟩
      exact Or.inr ⟨g, 0, hg, hl, fun i hi => by have := hc i 0 hi (by omega); rw [Nat.mul_one] at this; exact this⟩
  · rcases Nat.eq_zero_or_pos y.n3 with h0 | h0
    · exact Or.inl h0
    · obtain ⟨g, hg, hl, hc⟩ := h.m3.cell (fun _ => rfl) h0 (0, ⟨#[]⟩)
      exact Or.inr ⟨g, 0, hg, hl, fun i hi => ⟨hc i 0 hi (by omega), hc i 1 hi (by omega)⟩⟩
  · rcases Nat.eq_zero_or_pos y.n4 with h0 | h0
    · exact Or.inl h0
    · obtain ⟨g, hg, hl, hc⟩ := h.m4.cell (fun _ => rfl) h0 (0, 0, 0)
      exact Or.inr ⟨g, 0, hg, hl, fun i hi => ⟨hc i 0 hi (by omega), hc i 1 hi (by omega), hc i 2 hi (by omega)⟩⟩
  · rcases Nat.eq_zero_or_pos y.n5 with h0 | h0
    · exact Or.inl h0
    · obtain ⟨g, hg, hl, hc⟩ := h.m5.cell (fun _ => rfl) h0 (0, 0)
      exact Or.inr ⟨g, 0, hg, hl, fun i hi => ⟨hc i 0 hi (by omega), hc i 1 hi (by omega)⟩⟩
theorem SpRw.set {B : Nat} {y : Sv} {s : Sp} {W : World} {q : Nat} {cs : Array Value} {T : TypeId} {fr : Nat × Nat} (h : SpRw B y s W) (hb : W.heap[q]? = some (.cells cs T fr)) (h1 : T ≠ 117) (h2 : T ≠ 9) (h3 : T ≠ 57) (h4 : T ≠ 64) (h5 : T ≠ 66) (j : Nat) (v : Value) : SpRw B y s (W.setCell ⟨q, j, none⟩ v) :=
  ⟨h.r, h.m1.set hb h1 j v, h.m2.set hb h2 j v, h.m3.set hb h3 j v, h.m4.set hb h4 j v, h.m5.set hb h5 j v⟩
theorem SpRw.setS {B : Nat} {y : Sv} {s : Sp} {W : World} {q : Nat} {cs : Array Value} {fr : Nat × Nat} (h : SpRw B y s W) (hb : W.heap[q]? = some (.cells cs 32 fr)) (j : Nat) (v : Value) : SpRw B y s (W.setCell ⟨q, j, none⟩ v) :=
  h.set hb (by decide) (by decide) (by decide) (by decide) (by decide) j v
/-- It is put into a result's box. -/
theorem put_spec {B : Nat} {r : Bool} {b1 b2 b3 b4 b5 : Option Addr} {n1 e1 n2 e2 n3 e3 n4 e4 n5 e5 : Nat} {s : Sp} {w W : World} {q : Nat} (h : SpRw B (Sv.mk r b1 n1 e1 b2 n2 e2 b3 n3 e3 b4 n4 e4 b5 n5 e5) s W) (hB : Below w.heap.size w W) (hz : W.heap[q]? = some (.cells #[.bool false, .slice none 0 0, .slice none 0 0, .slice none 0 0, .slice none 0 0, .slice none 0 0] 32 (0, 0))) (hq : w.heap.size ≤ q) :
    SpRw B (Sv.mk r b1 n1 e1 b2 n2 e2 b3 n3 e3 b4 n4 e4 b5 n5 e5) s ((((((W.setCell ⟨q, 0, none⟩ (.bool r)).setCell ⟨q, 1, none⟩ (.slice b1 n1 e1)).setCell ⟨q, 2, none⟩ (.slice b2 n2 e2)).setCell ⟨q, 3, none⟩ (.slice b3 n3 e3)).setCell ⟨q, 4, none⟩ (.slice b4 n4 e4)).setCell ⟨q, 5, none⟩ (.slice b5 n5 e5)) ∧
    Below w.heap.size w ((((((W.setCell ⟨q, 0, none⟩ (.bool r)).setCell ⟨q, 1, none⟩ (.slice b1 n1 e1)).setCell ⟨q, 2, none⟩ (.slice b2 n2 e2)).setCell ⟨q, 3, none⟩ (.slice b3 n3 e3)).setCell ⟨q, 4, none⟩ (.slice b4 n4 e4)).setCell ⟨q, 5, none⟩ (.slice b5 n5 e5)) ∧
    ((((((W.setCell ⟨q, 0, none⟩ (.bool r)).setCell ⟨q, 1, none⟩ (.slice b1 n1 e1)).setCell ⟨q, 2, none⟩ (.slice b2 n2 e2)).setCell ⟨q, 3, none⟩ (.slice b3 n3 e3)).setCell ⟨q, 4, none⟩ (.slice b4 n4 e4)).setCell ⟨q, 5, none⟩ (.slice b5 n5 e5)).heap[q]? = some (.cells #[.bool r, .slice b1 n1 e1, .slice b2 n2 e2, .slice b3 n3 e3, .slice b4 n4 e4, .slice b5 n5 e5] 32 (0, 0)) := by
  have z1 := set_block hz 0 (.bool r)
  have z2 := set_block z1 1 (.slice b1 n1 e1)
  have z3 := set_block z2 2 (.slice b2 n2 e2)
  have z4 := set_block z3 3 (.slice b3 n3 e3)
  have z5 := set_block z4 4 (.slice b4 n4 e4)
  have z6 := set_block z5 5 (.slice b5 n5 e5)
  refine ⟨(((((h.setS hz 0 _).setS z1 1 _).setS z2 2 _).setS z3 3 _).setS z4 4 _).setS z5 5 _, ?_, by simpa using z6⟩
  exact (((((hB.setCell (p := ⟨q, 0, none⟩) hq _).setCell (p := ⟨q, 1, none⟩) hq _).setCell (p := ⟨q, 2, none⟩) hq _).setCell (p := ⟨q, 3, none⟩) hq _).setCell (p := ⟨q, 4, none⟩) hq _).setCell (p := ⟨q, 5, none⟩) hq _
/-- How long its lists are at most. -/
structure NLe (x : Sv) (m : Nat) : Prop where
  n1 : x.n1 ≤ m
  n2 : x.n2 ≤ m
  n3 : x.n3 ≤ m
  n4 : x.n4 ≤ m
  n5 : x.n5 ≤ m
/-- The box that is filled, list by list: what lies in it. -/
structure CpI (w : World) (q r : Nat) (cs : Array Value) (W : World) : Prop where
  blk : W.heap[q]? = some (.cells cs 32 (0, 0))
  res : W.heap[r]? = some (.cells #[.bool false, .slice none 0 0, .slice none 0 0, .slice none 0 0, .slice none 0 0, .slice none 0 0] 32 (0, 0))
  hq : w.heap.size ≤ q
  hr : w.heap.size ≤ r
  ne : q ≠ r
  bel : Below w.heap.size w W
section
variable {w : World} {q r : Nat} {cs : Array Value} {W W' : World}
theorem CpI.ltq (h : CpI w q r cs W) : q < W.heap.size := (Array.getElem?_eq_some_iff.1 h.blk).1
theorem CpI.ltr (h : CpI w q r cs W) : r < W.heap.size := (Array.getElem?_eq_some_iff.1 h.res).1
theorem CpI.low (h : CpI w q r cs W) (hb : Below W.heap.size W W') : CpI w q r cs W' :=
  ⟨by rw [hb.block _ h.ltq]; exact h.blk, by rw [hb.block _ h.ltr]; exact h.res, h.hq, h.hr, h.ne, h.bel.trans (hb.mono h.bel.size)⟩
theorem CpI.set (h : CpI w q r cs W) (j : Nat) (v : Value) : CpI w q r (cs.setIfInBounds j v) (W.setCell ⟨q, j, none⟩ v) :=
  ⟨set_block h.blk j v, by rw [heap_setCell_other W ⟨q, j, none⟩ r v (fun e => h.ne e.symm)]; exact h.res, h.hq, h.hr, h.ne, h.bel.setCell (p := ⟨q, j, none⟩) h.hq _⟩
theorem CpI.cell (h : CpI w q r cs W) (j : Nat) : W.cell? ⟨q, j, none⟩ = cs[j]? := Lib.cell_of_heap h.blk j
theorem CpI.free (h : CpI w q r cs W) (j : Nat) : W.frozen? ⟨q, j, none⟩ = false := Lib.frozen_of_heap h.blk j
end

set_option maxRecDepth 20000 in
set_option maxHeartbeats 8000000 in
theorem copied_any (x : Sv) (s : Sp) (w : World) (h : SpAt w x s) (hn : NLe x 1000) :
    Calls Tryz.prog 58 #[.agg x.cs] w fun e w' => (∃ y : Sv, e = .returned (.agg y.cs) ∧ SpRw w.heap.size y s w' ∧ NLe y 1000) ∧ Below w.heap.size w w' := by
  have hI : CpI w w.heap.size (w.heap.size + 1) x.cs ((w.alloc (.cells x.cs 32)).alloc (.cells #[.bool false, .slice none 0 0, .slice none 0 0, .slice none 0 0, .slice none 0 0, .slice none 0 0] 32)) := by
    refine ⟨?_, ?_, Nat.le_refl _, by omega, by omega, (low_alloc _ _).trans ((low_alloc _ _).mono (by simp))⟩
    · rw [(low_alloc (w.alloc (.cells x.cs 32)) _).block _ (by simp)]
      exact heap_alloc_new w _
    · have := heap_alloc_new (w.alloc (.cells x.cs 32)) (.cells #[.bool false, .slice none 0 0, .slice none 0 0, .slice none 0 0, .slice none 0 0, .slice none 0 0] 32)
      simpa using this
  have HI := hide hI
  have HS := hide h
  have HN := hide hn
  have hr := h.r
  clear hI h hn
  obtain ⟨r, a1, n1, c1, a2, n2, c2, a3, n3, c3, a4, n4, c4, a5, n5, c5⟩ := x
  have HRR : Hid (r = s.ranked) := hide hr
  clear hr
  have d1 : ((w.alloc (.cells (Sv.mk r a1 n1 c1 a2 n2 c2 a3 n3 c3 a4 n4 c4 a5 n5 c5).cs 32)).alloc (.cells #[.bool false, .slice none 0 0, .slice none 0 0, .slice none 0 0, .slice none 0 0, .slice none 0 0] 32)).cell? ⟨w.heap.size, 1, none⟩ = some (.slice a1 n1 c1) := HI.out.cell 1
  have hq : w.heap.size < ((w.alloc (.cells (Sv.mk r a1 n1 c1 a2 n2 c2 a3 n3 c3 a4 n4 c4 a5 n5 c5).cs 32)).alloc (.cells #[.bool false, .slice none 0 0, .slice none 0 0, .slice none 0 0, .slice none 0 0, .slice none 0 0] 32)).heap.size := HI.out.ltq
  go_enter Tryz.func58, Tryz.ntmps58
  go_wp2_with fail
  generalize (w.alloc (.cells (Sv.mk r a1 n1 c1 a2 n2 c2 a3 n3 c3 a4 n4 c4 a5 n5 c5).cs 32)).alloc (.cells #[.bool false, .slice none 0 0, .slice none 0 0, .slice none 0 0, .slice none 0 0, .slice none 0 0] 32) = W0 at *
  have HK := hide (cloneM_any W0 a1 n1 c1 s.merges (HS.out.kept HI.out.bel).ms HN.out.n1)
  refine (unhide HK).mono ?_
  rintro e V1 ⟨⟨b1, e1, rfl, hR⟩, hb⟩
  have hs0 := HI.out.bel.size
  replace HI := hide (HI.out.low hb)
  have HM1 := hide (hR.mono (B := w.heap.size) hs0)
  clear hR hb HK hs0 d1 hq
  have d1 : V1.cell? ⟨w.heap.size, 1, none⟩ = some (.slice a1 n1 c1) := HI.out.cell 1
  have g1 : V1.frozen? ⟨w.heap.size, 1, none⟩ = false := HI.out.free 1
  replace HM1 := hide (HM1.out.set HI.out.blk (by decide) 1 (.slice b1 n1 e1))
  have HI2 : Hid (CpI w w.heap.size (w.heap.size + 1) #[.bool r, .slice b1 n1 e1, .slice a2 n2 c2, .slice a3 n3 c3, .slice a4 n4 c4, .slice a5 n5 c5] (V1.setCell ⟨w.heap.size, 1, none⟩ (.slice b1 n1 e1))) := hide (HI.out.set 1 _)
  have x2 : (V1.setCell ⟨w.heap.size, 1, none⟩ (.slice b1 n1 e1)).cell? ⟨w.heap.size, 2, none⟩ = some (.slice a2 n2 c2) := HI2.out.cell 2
  clear HI
  go_wp2_with fail
  generalize V1.setCell ⟨w.heap.size, 1, none⟩ (.slice b1 n1 e1) = W1 at *
  clear d1 g1
  have d2 := x2
  have hq : w.heap.size < W1.heap.size := HI2.out.ltq
  have HI := HI2
  clear HI2 x2
  have HK := hide (cloneT_any W1 a2 n2 c2 s.tokens (HS.out.kept HI.out.bel).ts HN.out.n2)
  refine (unhide HK).mono ?_
  rintro e V2 ⟨⟨b2, e2, rfl, hR⟩, hb⟩
  have HM1 := hide (HM1.out.low hb)
  have hs1 := HI.out.bel.size
  replace HI := hide (HI.out.low hb)
  have HM2 := hide (hR.mono (B := w.heap.size) hs1)
  clear hR hb HK hs1 d2 hq
  have d2 : V2.cell? ⟨w.heap.size, 2, none⟩ = some (.slice a2 n2 c2) := HI.out.cell 2
  have g2 : V2.frozen? ⟨w.heap.size, 2, none⟩ = false := HI.out.free 2
  replace HM1 := hide (HM1.out.set HI.out.blk (by decide) 2 (.slice b2 n2 e2))
  replace HM2 := hide (HM2.out.set HI.out.blk (by decide) 2 (.slice b2 n2 e2))
  have HI2 : Hid (CpI w w.heap.size (w.heap.size + 1) #[.bool r, .slice b1 n1 e1, .slice b2 n2 e2, .slice a3 n3 c3, .slice a4 n4 c4, .slice a5 n5 c5] (V2.setCell ⟨w.heap.size, 2, none⟩ (.slice b2 n2 e2))) := hide (HI.out.set 2 _)
  have x3 : (V2.setCell ⟨w.heap.size, 2, none⟩ (.slice b2 n2 e2)).cell? ⟨w.heap.size, 3, none⟩ = some (.slice a3 n3 c3) := HI2.out.cell 3
  clear HI
  go_wp2_with fail
  generalize V2.setCell ⟨w.heap.size, 2, none⟩ (.slice b2 n2 e2) = W2 at *
  clear d2 g2
  have d3 := x3
  have hq : w.heap.size < W2.heap.size := HI2.out.ltq
  have HI := HI2
  clear HI2 x3
  have HK := hide (cloneS_any W2 a3 n3 c3 s.specials (HS.out.kept HI.out.bel).ss HN.out.n3)
  refine (unhide HK).mono ?_
  rintro e V3 ⟨⟨b3, e3, rfl, hR⟩, hb⟩
  have HM1 := hide (HM1.out.low hb)
  have HM2 := hide (HM2.out.low hb)
  have hs2 := HI.out.bel.size
  replace HI := hide (HI.out.low hb)
  have HM3 := hide (hR.mono (B := w.heap.size) hs2)
  clear hR hb HK hs2 d3 hq
  have d3 : V3.cell? ⟨w.heap.size, 3, none⟩ = some (.slice a3 n3 c3) := HI.out.cell 3
  have g3 : V3.frozen? ⟨w.heap.size, 3, none⟩ = false := HI.out.free 3
  replace HM1 := hide (HM1.out.set HI.out.blk (by decide) 3 (.slice b3 n3 e3))
  replace HM2 := hide (HM2.out.set HI.out.blk (by decide) 3 (.slice b3 n3 e3))
  replace HM3 := hide (HM3.out.set HI.out.blk (by decide) 3 (.slice b3 n3 e3))
  have HI2 : Hid (CpI w w.heap.size (w.heap.size + 1) #[.bool r, .slice b1 n1 e1, .slice b2 n2 e2, .slice b3 n3 e3, .slice a4 n4 c4, .slice a5 n5 c5] (V3.setCell ⟨w.heap.size, 3, none⟩ (.slice b3 n3 e3))) := hide (HI.out.set 3 _)
  have x4 : (V3.setCell ⟨w.heap.size, 3, none⟩ (.slice b3 n3 e3)).cell? ⟨w.heap.size, 4, none⟩ = some (.slice a4 n4 c4) := HI2.out.cell 4
  clear HI
  go_wp2_with fail
  generalize V3.setCell ⟨w.heap.size, 3, none⟩ (.slice b3 n3 e3) = W3 at *
  clear d3 g3
  have d4 := x4
  have hq : w.heap.size < W3.heap.size := HI2.out.ltq
  have HI := HI2
  clear HI2 x4
  have HK := hide (cloneC_any W3 a4 n4 c4 s.classes (HS.out.kept HI.out.bel).cs HN.out.n4)
  refine (unhide HK).mono ?_
  rintro e V4 ⟨⟨b4, e4, rfl, hR⟩, hb⟩
  have HM1 := hide (HM1.out.low hb)
  have HM2 := hide (HM2.out.low hb)
  have HM3 := hide (HM3.out.low hb)
  have hs3 := HI.out.bel.size
  replace HI := hide (HI.out.low hb)
  have HM4 := hide (hR.mono (B := w.heap.size) hs3)
  clear hR hb HK hs3 d4 hq
  have d4 : V4.cell? ⟨w.heap.size, 4, none⟩ = some (.slice a4 n4 c4) := HI.out.cell 4
  have g4 : V4.frozen? ⟨w.heap.size, 4, none⟩ = false := HI.out.free 4
  replace HM1 := hide (HM1.out.set HI.out.blk (by decide) 4 (.slice b4 n4 e4))
  replace HM2 := hide (HM2.out.set HI.out.blk (by decide) 4 (.slice b4 n4 e4))
  replace HM3 := hide (HM3.out.set HI.out.blk (by decide) 4 (.slice b4 n4 e4))
  replace HM4 := hide (HM4.out.set HI.out.blk (by decide) 4 (.slice b4 n4 e4))
  have HI2 : Hid (CpI w w.heap.size (w.heap.size + 1) #[.bool r, .slice b1 n1 e1, .slice b2 n2 e2, .slice b3 n3 e3, .slice b4 n4 e4, .slice a5 n5 c5] (V4.setCell ⟨w.heap.size, 4, none⟩ (.slice b4 n4 e4))) := hide (HI.out.set 4 _)
  have x5 : (V4.setCell ⟨w.heap.size, 4, none⟩ (.slice b4 n4 e4)).cell? ⟨w.heap.size, 5, none⟩ = some (.slice a5 n5 c5) := HI2.out.cell 5
  clear HI
  go_wp2_with fail
  generalize V4.setCell ⟨w.heap.size, 4, none⟩ (.slice b4 n4 e4) = W4 at *
  clear d4 g4
  have d5 := x5
  have hq : w.heap.size < W4.heap.size := HI2.out.ltq
  have HI := HI2
  clear HI2 x5
  have HK := hide (cloneJ_any W4 a5 n5 c5 s.joins (HS.out.kept HI.out.bel).js HN.out.n5)
  refine (unhide HK).mono ?_
  rintro e V5 ⟨⟨b5, e5, rfl, hR⟩, hb⟩
  have HM1 := hide (HM1.out.low hb)
  have HM2 := hide (HM2.out.low hb)
  have HM3 := hide (HM3.out.low hb)
  have HM4 := hide (HM4.out.low hb)
  have hs4 := HI.out.bel.size
  replace HI := hide (HI.out.low hb)
  have HM5 := hide (hR.mono (B := w.heap.size) hs4)
  clear hR hb HK hs4 d5 hq
  have d5 : V5.cell? ⟨w.heap.size, 5, none⟩ = some (.slice a5 n5 c5) := HI.out.cell 5
  have g5 : V5.frozen? ⟨w.heap.size, 5, none⟩ = false := HI.out.free 5
  replace HM1 := hide (HM1.out.set HI.out.blk (by decide) 5 (.slice b5 n5 e5))
  replace HM2 := hide (HM2.out.set HI.out.blk (by decide) 5 (.slice b5 n5 e5))
  replace HM3 := hide (HM3.out.set HI.out.blk (by decide) 5 (.slice b5 n5 e5))
  replace HM4 := hide (HM4.out.set HI.out.blk (by decide) 5 (.slice b5 n5 e5))
  replace HM5 := hide (HM5.out.set HI.out.blk (by decide) 5 (.slice b5 n5 e5))
  have HI2 : Hid (CpI w w.heap.size (w.heap.size + 1) #[.bool r, .slice b1 n1 e1, .slice b2 n2 e2, .slice b3 n3 e3, .slice b4 n4 e4, .slice b5 n5 e5] (V5.setCell ⟨w.heap.size, 5, none⟩ (.slice b5 n5 e5))) := hide (HI.out.set 5 _)
  have HR : Hid (SpRw w.heap.size (Sv.mk r b1 n1 e1 b2 n2 e2 b3 n3 e3 b4 n4 e4 b5 n5 e5) s (V5.setCell ⟨w.heap.size, 5, none⟩ (.slice b5 n5 e5))) := hide ⟨HRR.out, HM1.out, HM2.out, HM3.out, HM4.out, HM5.out⟩
  have x0 : (V5.setCell ⟨w.heap.size, 5, none⟩ (.slice b5 n5 e5)).cell? ⟨w.heap.size, 0, none⟩ = some (.bool r) := HI2.out.cell 0
  have x1 : (V5.setCell ⟨w.heap.size, 5, none⟩ (.slice b5 n5 e5)).cell? ⟨w.heap.size, 1, none⟩ = some (.slice b1 n1 e1) := HI2.out.cell 1
  have x2 : (V5.setCell ⟨w.heap.size, 5, none⟩ (.slice b5 n5 e5)).cell? ⟨w.heap.size, 2, none⟩ = some (.slice b2 n2 e2) := HI2.out.cell 2
  have x3 : (V5.setCell ⟨w.heap.size, 5, none⟩ (.slice b5 n5 e5)).cell? ⟨w.heap.size, 3, none⟩ = some (.slice b3 n3 e3) := HI2.out.cell 3
  have x4 : (V5.setCell ⟨w.heap.size, 5, none⟩ (.slice b5 n5 e5)).cell? ⟨w.heap.size, 4, none⟩ = some (.slice b4 n4 e4) := HI2.out.cell 4
  have x5 : (V5.setCell ⟨w.heap.size, 5, none⟩ (.slice b5 n5 e5)).cell? ⟨w.heap.size, 5, none⟩ = some (.slice b5 n5 e5) := HI2.out.cell 5
  have z0 : (V5.setCell ⟨w.heap.size, 5, none⟩ (.slice b5 n5 e5)).heap[w.heap.size + 1]? = some (.cells #[.bool false, .slice none 0 0, .slice none 0 0, .slice none 0 0, .slice none 0 0, .slice none 0 0] 32 (0, 0)) := HI2.out.res
  have y0 : (V5.setCell ⟨w.heap.size, 5, none⟩ (.slice b5 n5 e5)).cell? ⟨w.heap.size + 1, 0, none⟩ = some (.bool false) := Lib.cell_of_heap z0 0
  have y1 : (V5.setCell ⟨w.heap.size, 5, none⟩ (.slice b5 n5 e5)).cell? ⟨w.heap.size + 1, 1, none⟩ = some (.slice none 0 0) := Lib.cell_of_heap z0 1
  have y2 : (V5.setCell ⟨w.heap.size, 5, none⟩ (.slice b5 n5 e5)).cell? ⟨w.heap.size + 1, 2, none⟩ = some (.slice none 0 0) := Lib.cell_of_heap z0 2
  have y3 : (V5.setCell ⟨w.heap.size, 5, none⟩ (.slice b5 n5 e5)).cell? ⟨w.heap.size + 1, 3, none⟩ = some (.slice none 0 0) := Lib.cell_of_heap z0 3
  have y4 : (V5.setCell ⟨w.heap.size, 5, none⟩ (.slice b5 n5 e5)).cell? ⟨w.heap.size + 1, 4, none⟩ = some (.slice none 0 0) := Lib.cell_of_heap z0 4
  have y5 : (V5.setCell ⟨w.heap.size, 5, none⟩ (.slice b5 n5 e5)).cell? ⟨w.heap.size + 1, 5, none⟩ = some (.slice none 0 0) := Lib.cell_of_heap z0 5
  have q0 : ∀ j, (V5.setCell ⟨w.heap.size, 5, none⟩ (.slice b5 n5 e5)).frozen? ⟨w.heap.size + 1, j, none⟩ = false := fun j => Lib.frozen_of_heap z0 j
  have q1 := q0 0
  have q2 := q0 1
  have q3 := q0 2
  have q4 := q0 3
  have q5 := q0 4
  have q6 := q0 5
  have HZ := hide z0
  have HB := hide HI2.out.bel
  clear q0 z0 HI HM1 HM2 HM3 HM4 HM5 HI2
  go_wp2_with fail
  generalize V5.setCell ⟨w.heap.size, 5, none⟩ (.slice b5 n5 e5) = W5 at *
  obtain ⟨HR6, HB6, HZ6⟩ := put_spec HR.out HB.out HZ.out (by omega)
  have g0 := Lib.cell_of_heap HZ6 0
  have g1 := Lib.cell_of_heap HZ6 1
  have g2 := Lib.cell_of_heap HZ6 2
  have g3 := Lib.cell_of_heap HZ6 3
  have g4 := Lib.cell_of_heap HZ6 4
  have g5 := Lib.cell_of_heap HZ6 5
  generalize ((((((W5.setCell ⟨w.heap.size + 1, 0, none⟩ (.bool r)).setCell ⟨w.heap.size + 1, 1, none⟩ (.slice b1 n1 e1)).setCell ⟨w.heap.size + 1, 2, none⟩ (.slice b2 n2 e2)).setCell ⟨w.heap.size + 1, 3, none⟩ (.slice b3 n3 e3)).setCell ⟨w.heap.size + 1, 4, none⟩ (.slice b4 n4 e4)).setCell ⟨w.heap.size + 1, 5, none⟩ (.slice b5 n5 e5)) = W6 at *
  refine bodyPost_ret (v := .agg #[.bool r, .slice b1 n1 e1, .slice b2 n2 e2, .slice b3 n3 e3, .slice b4 n4 e4, .slice b5 n5 e5]) (by simp [results, Tryz.results58, go_sem, g0, g1, g2, g3, g4, g5]) rfl ?_
  exact ⟨⟨⟨r, b1, n1, e1, b2, n2, e2, b3, n3, e3, b4, n4, e4, b5, n5, e5⟩, rfl, HR6, ⟨HN.out.n1, HN.out.n2, HN.out.n3, HN.out.n4, HN.out.n5⟩⟩, HB6⟩
end Go.Proofs.YteonoccefpkcgaaGreatDoor.Wf
