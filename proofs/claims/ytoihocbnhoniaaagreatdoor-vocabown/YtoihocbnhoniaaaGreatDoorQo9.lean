/- The reader in memory. Contracts: spec.add at each kind of element. -/
import Derived.Test.YtoihocbnhoniaaaGreatDoorQo8
import Derived.Deep.AppendLies
import Derived.Deep.RegionLaw
import Derived.Laws.OwnMore
import Derived.Lib.OwnKind
namespace Go.Proofs.YtoihocbnhoniaaaGreatDoor.Wf
open Go.RowKit
set_option linter.unusedVariables false
set_option linter.unusedSimpArgs false

def eM (m : Int × Int) : List Value := [.int .i64 m.1, .int .i64 m.2]
def eT (m : ByteArray) : List Value := [.string m]
def eS (m : Int × ByteArray) : List Value := [.int .i64 m.1, .string m.2]
def eC (m : Int × Int × Int) : List Value := [.int .i64 m.1, .int .i64 m.2.1, .int .i64 m.2.2]
def flat {α : Type} (e : α → List Value) (l : List α) : List Value := l.flatMap e
theorem flat_snoc {α : Type} (e : α → List Value) (l : List α) (m : α) : flat e (l ++ [m]) = flat e l ++ e m := by simp [flat]
theorem flat_get {α : Type} (e : α → List Value) (k : Nat) (hk : ∀ a, (e a).length = k) : ∀ (l : List α) (i j : Nat) (d : α), i < l.length → j < k → (flat e l)[i * k + j]? = (e (l.getD i d))[j]?
  | [], i, j, d, hi, hj => by cases hi
  | a :: r, 0, j, d, hi, hj => by
    simp only [flat, List.flatMap_cons, Nat.zero_mul, Nat.zero_add]
    rw [List.getElem?_append_left (by rw [hk]; exact hj)]
    rfl
  | a :: r, i + 1, j, d, hi, hj => by
    have ih := flat_get e k hk r i j d (by simpa using hi) hj
    simp only [flat, List.flatMap_cons]
    rw [List.getElem?_append_right (by rw [hk, Nat.succ_mul]; omega), hk, show (i + 1) * k + j - k = i * k + j by rw [Nat.succ_mul]; omega]
    exact ih
/-- A row of elements that the reader owns. -/
structure Row {α : Type} (B E k : Nat) (e : α → List Value) (ao : Option Addr) (n cap : Nat) (l : List α) (W : World) : Prop where
  len : l.length = n
  own : W.ownsRow B E k (.slice ao n cap) n (flat e l)
theorem Row.nil {α : Type} (B E k : Nat) (e : α → List Value) (W : World) : Row B E k e none 0 0 ([] : List α) W := ⟨rfl, World.ownsRow_nil _ _ _ _⟩
theorem Row.low {α : Type} {B E k : Nat} {e : α → List Value} {ao : Option Addr} {n cap : Nat} {l : List α} {W W' : World} (h : Row B E k e ao n cap l W) (hb : Below W.heap.size W W') : Row B E k e ao n cap l W' :=
  ⟨h.len, h.own.kept (row := none) ⟨hb.os, hb.tape, hb.output, hb.size, fun k hk _ => hb.block k hk⟩ (by cases (Value.slice ao n cap).ownBlock <;> simp)⟩
theorem Row.ne {α : Type} {B E k : Nat} {e : α → List Value} {ao : Option Addr} {n cap : Nat} {l : List α} {W : World} (h : Row B E k e ao n cap l W) {q T : Nat} {cs : Array Value} {fr : Nat × Nat} (hq : W.heap[q]? = some (.cells cs T fr)) (hT : T ≠ E) : (Value.slice ao n cap).ownBlock ≠ some q := by
  intro e
  obtain ⟨c, f, h1⟩ := Lib.ownsRow_kind h.own q e
  rw [h1] at hq
  simp only [Option.some.injEq, Obj.cells.injEq] at hq
  exact hT hq.2.1.symm
theorem Row.past {α β : Type} {B E E' k k' : Nat} {e : α → List Value} {e' : β → List Value} {ao ao' : Option Addr} {n cap n' cap' : Nat} {l : List α} {l' : List β} {W W' : World} (h : Row B E k e ao n cap l W) (h' : Row B E' k' e' ao' n' cap' l' W) (hE : E ≠ E') (hg : W.grownBy W' (Value.slice ao' n' cap').ownBlock) : Row B E k e ao n cap l W' := by
  refine ⟨h.len, h.own.kept hg ?_⟩
  cases hv : (Value.slice ao n cap).ownBlock with
  | none => exact Or.inl rfl
  | some g =>
    refine Or.inr fun e => ?_
    obtain ⟨c, f, h1⟩ := Lib.ownsRow_kind h.own g hv
    obtain ⟨c', f', h2⟩ := Lib.ownsRow_kind h'.own g e.symm
    rw [h1] at h2
    simp only [Option.some.injEq, Obj.cells.injEq] at h2
    exact hE h2.2.1
theorem grown_setCell (w : World) (g j : Nat) (v : Value) : w.grownBy (w.setCell ⟨g, j, none⟩ v) (some g) := grownBy_setCell w g j v
theorem Row.set {α : Type} {B E k : Nat} {e : α → List Value} {ao : Option Addr} {n cap : Nat} {l : List α} {W : World} (h : Row B E k e ao n cap l W) {q T : Nat} {cs : Array Value} {fr : Nat × Nat} (hq : W.heap[q]? = some (.cells cs T fr)) (hT : T ≠ E) (j : Nat) (v : Value) : Row B E k e ao n cap l (W.setCell ⟨q, j, none⟩ v) :=
  ⟨h.len, h.own.kept (grown_setCell W q j v) (Or.inr (h.ne hq hT))⟩
theorem Row.cell {α : Type} {B E k : Nat} {e : α → List Value} {ao : Option Addr} {n cap : Nat} {l : List α} {W : World} (h : Row B E k e ao n cap l W) (hk : ∀ a, (e a).length = k) (h0 : 0 < n) (d : α) : ∃ g, ao = some ⟨g, 0, none⟩ ∧ g < W.heap.size ∧ ∀ i j, i < n → j < k → W.cell? ⟨g, 0 + i * k + j, none⟩ = (e (l.getD i d))[j]? := by
  obtain ⟨g, c, hv, _, hg⟩ := h.own.form h0
  simp only [Value.slice.injEq] at hv
  obtain ⟨rfl, -, rfl⟩ := hv
  refine ⟨g, rfl, hg, fun i j hi hj => ?_⟩
  rw [Nat.zero_add, h.own.cellAt (i * k + j) (by
    have : i * k + k ≤ n * k := by rw [← Nat.succ_mul]; exact Nat.mul_le_mul_right k hi
    omega), flat_get e k hk l i j d (by rw [h.len]; exact hi) hj]

/-- The reader's cells. -/
abbrev rdC (x : Sv) (n k : Nat) : Array Value := #[.bool x.r, .slice x.a1 x.n1 x.c1, .slice x.a2 x.n2 x.c2, .slice x.a3 x.n3 x.c3, .slice x.a4 x.n4 x.c4, .slice x.a5 x.n5 x.c5, .int .i64 n, .int .i64 k]
structure RAt (w0 : World) (p : Nat) (x : Sv) (s : Sp) (n k : Nat) (W : World) : Prop where
  bel : Below w0.heap.size w0 W
  hB : w0.heap.size ≤ p
  blk : W.heap[p]? = some (.cells (rdC x n k) 153 (0, 0))
  r : x.r = s.ranked
  m1 : Row w0.heap.size 70 2 eM x.a1 x.n1 x.c1 s.merges W
  m2 : Row w0.heap.size 9 1 eT x.a2 x.n2 x.c2 s.tokens W
  m3 : Row w0.heap.size 67 2 eS x.a3 x.n3 x.c3 s.specials W
  m4 : Row w0.heap.size 72 3 eC x.a4 x.n4 x.c4 s.classes W
  m5 : Row w0.heap.size 93 2 eM x.a5 x.n5 x.c5 s.joins W
theorem RAt.lt {w0 : World} {p : Nat} {x : Sv} {s : Sp} {n k : Nat} {W : World} (h : RAt w0 p x s n k W) : p < W.heap.size := (Array.getElem?_eq_some_iff.1 h.blk).1
theorem RAt.low {w0 : World} {p : Nat} {x : Sv} {s : Sp} {n k : Nat} {W W' : World} (h : RAt w0 p x s n k W) (hb : Below W.heap.size W W') : RAt w0 p x s n k W' :=
  ⟨h.bel.trans (hb.mono h.bel.size), h.hB, by rw [hb.block p h.lt]; exact h.blk, h.r, h.m1.low hb, h.m2.low hb, h.m3.low hb, h.m4.low hb, h.m5.low hb⟩
theorem RAt.cell {w0 : World} {p : Nat} {x : Sv} {s : Sp} {n k : Nat} {W : World} (h : RAt w0 p x s n k W) (j : Nat) : W.cell? ⟨p, j, none⟩ = (rdC x n k)[j]? := Lib.cell_of_heap h.blk j
theorem RAt.free {w0 : World} {p : Nat} {x : Sv} {s : Sp} {n k : Nat} {W : World} (h : RAt w0 p x s n k W) (j : Nat) : W.frozen? ⟨p, j, none⟩ = false := Lib.frozen_of_heap h.blk j
theorem set_block {W : World} {p : Nat} {cs : Array Value} {T : TypeId} {fr : Nat × Nat} (h : W.heap[p]? = some (.cells cs T fr)) (j : Nat) (v : Value) : (W.setCell ⟨p, j, none⟩ v).heap[p]? = some (.cells (cs.setIfInBounds j v) T fr) := by
  simp [World.setCell, Array.getElem?_modify, h]
theorem RAt.spec {w0 : World} {p : Nat} {x : Sv} {s : Sp} {n k : Nat} {W : World} (h : RAt w0 p x s n k W) : SpAt W x s := by
  refine ⟨h.r, ⟨h.m1.len, ?_⟩, ⟨h.m2.len, ?_⟩, ⟨h.m3.len, ?_⟩, ⟨h.m4.len, ?_⟩, ⟨h.m5.len, ?_⟩⟩
  · rcases Nat.eq_zero_or_pos x.n1 with h0 | h0
    · exact Or.inl h0
    · obtain ⟨g, hg, hl, hc⟩ := h.m1.cell (fun _ => rfl) h0 (0, 0)
      exact Or.inr ⟨g, 0, hg, hl, fun i hi => ⟨hc i 0 hi (by omega), hc i 1 hi (by omega)⟩⟩
  · rcases Nat.eq_zero_or_pos x.n2 with h0 | h0
    · exact Or.inl h0
    · obtain ⟨g, hg, hl, hc⟩ := h.m2.cell (fun _ => rfl) h0 ⟨#[]⟩
      exact Or.inr ⟨g, 0, hg, hl, fun i hi => by have := hc i 0 hi (by omega); rw [Nat.mul_one] at this; exact this⟩
  · rcases Nat.eq_zero_or_pos x.n3 with h0 | h0
    · exact Or.inl h0
    · obtain ⟨g, hg, hl, hc⟩ := h.m3.cell (fun _ => rfl) h0 (0, ⟨#[]⟩)
      exact Or.inr ⟨g, 0, hg, hl, fun i hi => ⟨hc i 0 hi (by omega), hc i 1 hi (by omega)⟩⟩
  · rcases Nat.eq_zero_or_pos x.n4 with h0 | h0
    · exact Or.inl h0
    · obtain ⟨g, hg, hl, hc⟩ := h.m4.cell (fun _ => rfl) h0 (0, 0, 0)
      exact Or.inr ⟨g, 0, hg, hl, fun i hi => ⟨hc i 0 hi (by omega), hc i 1 hi (by omega), hc i 2 hi (by omega)⟩⟩
  · rcases Nat.eq_zero_or_pos x.n5 with h0 | h0
    · exact Or.inl h0
    · obtain ⟨g, hg, hl, hc⟩ := h.m5.cell (fun _ => rfl) h0 (0, 0)
      exact Or.inr ⟨g, 0, hg, hl, fun i hi => ⟨hc i 0 hi (by omega), hc i 1 hi (by omega)⟩⟩
/-- The three plain cells. -/
theorem RAt.setN {w0 : World} {p : Nat} {x : Sv} {s : Sp} {n k : Nat} {W : World} (h : RAt w0 p x s n k W) (n' : Nat) : RAt w0 p x s n' k (W.setCell ⟨p, 6, none⟩ (.int .i64 n')) :=
  ⟨h.bel.setCell (p := ⟨p, 6, none⟩) h.hB _, h.hB, set_block h.blk 6 _, h.r, h.m1.set h.blk (by decide) _ _, h.m2.set h.blk (by decide) _ _, h.m3.set h.blk (by decide) _ _, h.m4.set h.blk (by decide) _ _, h.m5.set h.blk (by decide) _ _⟩
theorem RAt.setK {w0 : World} {p : Nat} {x : Sv} {s : Sp} {n k : Nat} {W : World} (h : RAt w0 p x s n k W) (k' : Nat) : RAt w0 p x s n k' (W.setCell ⟨p, 7, none⟩ (.int .i64 k')) :=
  ⟨h.bel.setCell (p := ⟨p, 7, none⟩) h.hB _, h.hB, set_block h.blk 7 _, h.r, h.m1.set h.blk (by decide) _ _, h.m2.set h.blk (by decide) _ _, h.m3.set h.blk (by decide) _ _, h.m4.set h.blk (by decide) _ _, h.m5.set h.blk (by decide) _ _⟩
theorem RAt.setR {w0 : World} {p : Nat} {x : Sv} {s : Sp} {n k : Nat} {W : World} (h : RAt w0 p x s n k W) (r : Bool) : RAt w0 p { x with r := r } { s with ranked := r } n k (W.setCell ⟨p, 0, none⟩ (.bool r)) :=
  ⟨h.bel.setCell (p := ⟨p, 0, none⟩) h.hB _, h.hB, set_block h.blk 0 _, rfl, h.m1.set h.blk (by decide) _ _, h.m2.set h.blk (by decide) _ _, h.m3.set h.blk (by decide) _ _, h.m4.set h.blk (by decide) _ _, h.m5.set h.blk (by decide) _ _⟩
theorem RAt.addMerge {w0 : World} {p : Nat} {x : Sv} {s : Sp} {n k : Nat} {W W' : World} {g cap : Nat} (m : Int × Int) (h : RAt w0 p x s n k W) (hg : W.grownBy W' (Value.slice x.a1 x.n1 x.c1).ownBlock) (hown : W'.ownsRow w0.heap.size 70 2 (.slice (some ⟨g, 0, none⟩) (x.n1 + 1) cap) (x.n1 + 1) (flat eM s.merges ++ eM m)) :
    RAt w0 p { x with a1 := some ⟨g, 0, none⟩, n1 := x.n1 + 1, c1 := cap } { s with merges := s.merges ++ [m] } n k (W'.setCell ⟨p, 1, none⟩ (.slice (some ⟨g, 0, none⟩) (x.n1 + 1 : Nat) cap)) := by
  have hblk : W'.heap[p]? = some (.cells (rdC x n k) 153 (0, 0)) := by rw [hg.block p h.lt (fun e => h.m1.ne h.blk (by decide) e.symm)]; exact h.blk
  exact ⟨(h.bel.grown hg h.bel.size (fun q hq => (h.m1.own.lt q hq).1)).setCell (p := ⟨p, 1, none⟩) h.hB _, h.hB, set_block hblk 1 _, h.r, (⟨by simp [h.m1.len], by rw [flat_snoc]; exact hown⟩ : Row w0.heap.size 70 2 eM (some ⟨g, 0, none⟩) (x.n1 + 1) cap (s.merges ++ [m]) W').set hblk (by decide) _ _, (h.m2.past h.m1 (by decide) hg).set hblk (by decide) _ _, (h.m3.past h.m1 (by decide) hg).set hblk (by decide) _ _, (h.m4.past h.m1 (by decide) hg).set hblk (by decide) _ _, (h.m5.past h.m1 (by decide) hg).set hblk (by decide) _ _⟩
theorem RAt.addToken {w0 : World} {p : Nat} {x : Sv} {s : Sp} {n k : Nat} {W W' : World} {g cap : Nat} (m : ByteArray) (h : RAt w0 p x s n k W) (hg : W.grownBy W' (Value.slice x.a2 x.n2 x.c2).ownBlock) (hown : W'.ownsRow w0.heap.size 9 1 (.slice (some ⟨g, 0, none⟩) (x.n2 + 1) cap) (x.n2 + 1) (flat eT s.tokens ++ eT m)) :
    RAt w0 p { x with a2 := some ⟨g, 0, none⟩, n2 := x.n2 + 1, c2 := cap } { s with tokens := s.tokens ++ [m] } n k (W'.setCell ⟨p, 2, none⟩ (.slice (some ⟨g, 0, none⟩) (x.n2 + 1 : Nat) cap)) := by
  have hblk : W'.heap[p]? = some (.cells (rdC x n k) 153 (0, 0)) := by rw [hg.block p h.lt (fun e => h.m2.ne h.blk (by decide) e.symm)]; exact h.blk
  exact ⟨(h.bel.grown hg h.bel.size (fun q hq => (h.m2.own.lt q hq).1)).setCell (p := ⟨p, 2, none⟩) h.hB _, h.hB, set_block hblk 2 _, h.r, (h.m1.past h.m2 (by decide) hg).set hblk (by decide) _ _, (⟨by simp [h.m2.len], by rw [flat_snoc]; exact hown⟩ : Row w0.heap.size 9 1 eT (some ⟨g, 0, none⟩) (x.n2 + 1) cap (s.tokens ++ [m]) W').set hblk (by decide) _ _, (h.m3.past h.m2 (by decide) hg).set hblk (by decide) _ _, (h.m4.past h.m2 (by decide) hg).set hblk (by decide) _ _, (h.m5.past h.m2 (by decide) hg).set hblk (by decide) _ _⟩
theorem RAt.addSpecial {w0 : World} {p : Nat} {x : Sv} {s : Sp} {n k : Nat} {W W' : World} {g cap : Nat} (m : Int × ByteArray) (h : RAt w0 p x s n k W) (hg : W.grownBy W' (Value.slice x.a3 x.n3 x.c3).ownBlock) (hown : W'.ownsRow w0.heap.size 67 2 (.slice (some ⟨g, 0, none⟩) (x.n3 + 1) cap) (x.n3 + 1) (flat eS s.specials ++ eS m)) :
    RAt w0 p { x with a3 := some ⟨g, 0, none⟩, n3 := x.n3 + 1, c3 := cap } { s with specials := s.specials ++ [m] } n k (W'.setCell ⟨p, 3, none⟩ (.slice (some ⟨g, 0, none⟩) (x.n3 + 1 : Nat) cap)) := by
  have hblk : W'.heap[p]? = some (.cells (rdC x n k) 153 (0, 0)) := by rw [hg.block p h.lt (fun e => h.m3.ne h.blk (by decide) e.symm)]; exact h.blk
  exact ⟨(h.bel.grown hg h.bel.size (fun q hq => (h.m3.own.lt q hq).1)).setCell (p := ⟨p, 3, none⟩) h.hB _, h.hB, set_block hblk 3 _, h.r, (h.m1.past h.m3 (by decide) hg).set hblk (by decide) _ _, (h.m2.past h.m3 (by decide) hg).set hblk (by decide) _ _, (⟨by simp [h.m3.len], by rw [flat_snoc]; exact hown⟩ : Row w0.heap.size 67 2 eS (some ⟨g, 0, none⟩) (x.n3 + 1) cap (s.specials ++ [m]) W').set hblk (by decide) _ _, (h.m4.past h.m3 (by decide) hg).set hblk (by decide) _ _, (h.m5.past h.m3 (by decide) hg).set hblk (by decide) _ _⟩
theorem RAt.addClass {w0 : World} {p : Nat} {x : Sv} {s : Sp} {n k : Nat} {W W' : World} {g cap : Nat} (m : Int × Int × Int) (h : RAt w0 p x s n k W) (hg : W.grownBy W' (Value.slice x.a4 x.n4 x.c4).ownBlock) (hown : W'.ownsRow w0.heap.size 72 3 (.slice (some ⟨g, 0, none⟩) (x.n4 + 1) cap) (x.n4 + 1) (flat eC s.classes ++ eC m)) :
    RAt w0 p { x with a4 := some ⟨g, 0, none⟩, n4 := x.n4 + 1, c4 := cap } { s with classes := s.classes ++ [m] } n k (W'.setCell ⟨p, 4, none⟩ (.slice (some ⟨g, 0, none⟩) (x.n4 + 1 : Nat) cap)) := by
  have hblk : W'.heap[p]? = some (.cells (rdC x n k) 153 (0, 0)) := by rw [hg.block p h.lt (fun e => h.m4.ne h.blk (by decide) e.symm)]; exact h.blk
  exact ⟨(h.bel.grown hg h.bel.size (fun q hq => (h.m4.own.lt q hq).1)).setCell (p := ⟨p, 4, none⟩) h.hB _, h.hB, set_block hblk 4 _, h.r, (h.m1.past h.m4 (by decide) hg).set hblk (by decide) _ _, (h.m2.past h.m4 (by decide) hg).set hblk (by decide) _ _, (h.m3.past h.m4 (by decide) hg).set hblk (by decide) _ _, (⟨by simp [h.m4.len], by rw [flat_snoc]; exact hown⟩ : Row w0.heap.size 72 3 eC (some ⟨g, 0, none⟩) (x.n4 + 1) cap (s.classes ++ [m]) W').set hblk (by decide) _ _, (h.m5.past h.m4 (by decide) hg).set hblk (by decide) _ _⟩
theorem RAt.addJoin {w0 : World} {p : Nat} {x : Sv} {s : Sp} {n k : Nat} {W W' : World} {g cap : Nat} (m : Int × Int) (h : RAt w0 p x s n k W) (hg : W.grownBy W' (Value.slice x.a5 x.n5 x.c5).ownBlock) (hown : W'.ownsRow w0.heap.size 93 2 (.slice (some ⟨g, 0, none⟩) (x.n5 + 1) cap) (x.n5 + 1) (flat eM s.joins ++ eM m)) :
    RAt w0 p { x with a5 := some ⟨g, 0, none⟩, n5 := x.n5 + 1, c5 := cap } { s with joins := s.joins ++ [m] } n k (W'.setCell ⟨p, 5, none⟩ (.slice (some ⟨g, 0, none⟩) (x.n5 + 1 : Nat) cap)) := by
  have hblk : W'.heap[p]? = some (.cells (rdC x n k) 153 (0, 0)) := by rw [hg.block p h.lt (fun e => h.m5.ne h.blk (by decide) e.symm)]; exact h.blk
  exact ⟨(h.bel.grown hg h.bel.size (fun q hq => (h.m5.own.lt q hq).1)).setCell (p := ⟨p, 5, none⟩) h.hB _, h.hB, set_block hblk 5 _, h.r, (h.m1.past h.m5 (by decide) hg).set hblk (by decide) _ _, (h.m2.past h.m5 (by decide) hg).set hblk (by decide) _ _, (h.m3.past h.m5 (by decide) hg).set hblk (by decide) _ _, (h.m4.past h.m5 (by decide) hg).set hblk (by decide) _ _, (⟨by simp [h.m5.len], by rw [flat_snoc]; exact hown⟩ : Row w0.heap.size 93 2 eM (some ⟨g, 0, none⟩) (x.n5 + 1) cap (s.joins ++ [m]) W').set hblk (by decide) _ _⟩
end Go.Proofs.YtoihocbnhoniaaaGreatDoor.Wf

namespace Go.Proofs.YtoihocbnhoniaaaGreatDoor.Wf
open Go.RowKit
set_option linter.unusedVariables false
set_option linter.unusedSimpArgs false


set_option maxHeartbeats 4000000 in
set_option maxRecDepth 20000 in
theorem addMerge_no (w0 : World) (p : Nat) (x : Sv) (s : Sp) (n k : Nat) (W : World) (h : RAt w0 p x s n k W) (room : Int) (m : Int × Int) (hno : ¬ ((x.n1 : Int) < room ∧ okM m = true)) :
    Calls Tryz.prog 155 #[.pointer (some ⟨p, 1, none⟩), .int .i64 room, .agg #[.int .i64 m.1, .int .i64 m.2], .func (.func 71) #[] #[]] W fun e w' => e = .returned (.bool false) ∧ RAt w0 p x s n k w' ∧ Below W.heap.size W w' := by
  have HR0 := hide (h.low (low_alloc W (.cells #[.int .i64 m.1, .int .i64 m.2] 70)))
  clear h
  have c0 : (W.alloc (.cells #[.int .i64 m.1, .int .i64 m.2] 70)).cell? ⟨p, 1, none⟩ = some (.slice x.a1 x.n1 x.c1) := HR0.out.cell 1
  by_cases hroom : (x.n1 : Int) < room
  · have hok : okM m = false := by cases he : okM m with | false => rfl | true => exact absurd ⟨hroom, he⟩ hno
    have hr1 : ¬ room ≤ (x.n1 : Int) := by omega
    have K := rightMerge_any m (W.alloc (.cells #[.int .i64 m.1, .int .i64 m.2] 70))
    rw [hok] at K
    clear hok hno
    go_enter Tryz.func155, Tryz.ntmps155
    go_wp2_with fail
    refine K.mono ?_
    rintro e w1 ⟨rfl, hb1⟩
    have HR1 := hide (HR0.out.low (hb1))
    have HBB := hide ((low_alloc W _).trans (hb1.mono (low_alloc W _).size))
    clear hb1
    go_wp2
    go_ret
    exact ⟨rfl, HR1.out, HBB.out⟩
  · have hr1 : room ≤ (x.n1 : Int) := by omega
    go_enter Tryz.func155, Tryz.ntmps155
    go_wp2
    go_ret
    exact ⟨rfl, HR0.out, low_alloc W _⟩

theorem info_M : (Tryz.prog.info? 70).map (fun i => (i.zero, i.size, i.bytes)) = some (some (.agg #[.int .i64 0, .int .i64 0]), 2, 16) := by kernel_rfl
theorem one_M (m : Int × Int) : ∀ u ∈ eM m, u.oneCell' = true := by
  intro u hu
  simp only [eM, List.mem_cons, List.not_mem_nil, or_false] at hu
  rcases hu with rfl | rfl <;> rfl

set_option maxHeartbeats 8000000 in
set_option maxRecDepth 20000 in
theorem addMerge_yes (w0 : World) (p : Nat) (x : Sv) (s : Sp) (n k : Nat) (W : World) (h : RAt w0 p x s n k W) (room : Int) (m : Int × Int) (hroom : (x.n1 : Int) < room) (hrm : room ≤ 1000) (hok : okM m = true) :
    Calls Tryz.prog 155 #[.pointer (some ⟨p, 1, none⟩), .int .i64 room, .agg #[.int .i64 m.1, .int .i64 m.2], .func (.func 71) #[] #[]] W fun e w' => e = .returned (.bool true) ∧ (∃ x', RAt w0 p x' { s with merges := s.merges ++ [m] } n k w') ∧ ∀ q, q < W.heap.size → q ≠ p → some q ≠ (Value.slice x.a1 x.n1 x.c1).ownBlock → w'.heap[q]? = W.heap[q]? := by
  have HR0 := hide (h.low (low_alloc W (.cells #[.int .i64 m.1, .int .i64 m.2] 70)))
  clear h
  have c0 : (W.alloc (.cells #[.int .i64 m.1, .int .i64 m.2] 70)).cell? ⟨p, 1, none⟩ = some (.slice x.a1 x.n1 x.c1) := HR0.out.cell 1
  have hr1 : ¬ room ≤ (x.n1 : Int) := by omega
  have hbx : (W.alloc (.cells #[.int .i64 m.1, .int .i64 m.2] 70)).heap[W.heap.size]? = some (.cells #[.int .i64 m.1, .int .i64 m.2] 70 (0, 0)) := heap_alloc_new W _
  have K := rightMerge_any m (W.alloc (.cells #[.int .i64 m.1, .int .i64 m.2] 70))
  rw [hok] at K
  obtain ⟨i0, hii, hz0, hz1, hz2⟩ := info_parts info_M
  have HBX := hide hbx
  have hlt0 : W.heap.size < (W.alloc (.cells #[.int .i64 m.1, .int .i64 m.2] 70)).heap.size := by simp
  clear hok hbx
  go_enter Tryz.func155, Tryz.ntmps155
  go_wp2_with fail
  refine K.mono ?_
  rintro e w1 ⟨rfl, hb1⟩
  have HR1 := hide (HR0.out.low (hb1))
  have HFR := hide (fun (q : Nat) (hq : q < W.heap.size) => (hb1.block q (by simp; omega)).trans (Below.heap_alloc W (.cells #[.int .i64 m.1, .int .i64 m.2] 70) q hq))
  have hs1 : W.heap.size ≤ w1.heap.size := Nat.le_trans (low_alloc W _).size hb1.size
  have hbx1 : w1.heap[W.heap.size]? = some (.cells #[.int .i64 m.1, .int .i64 m.2] 70 (0, 0)) := by rw [hb1.block _ hlt0]; exact HBX.out
  have b0 : w1.cell? ⟨W.heap.size, 0, none⟩ = some (.int .i64 m.1) := by simp [World.cell?, hbx1]
  have b1 : w1.cell? ⟨W.heap.size, 1, none⟩ = some (.int .i64 m.2) := by simp [World.cell?, hbx1]
  have c1 : w1.cell? ⟨p, 1, none⟩ = some (.slice x.a1 x.n1 x.c1) := HR1.out.cell 1
  have f1 := HR1.out.free 1
  have tlt := HR1.out.lt
  have hown1 := HR1.out.m1.own
  have hs0 : w0.heap.size ≤ w1.heap.size := HR1.out.bel.size
  have hpne : some p ≠ (Value.slice x.a1 x.n1 x.c1).ownBlock := fun e => HR1.out.m1.ne HR1.out.blk (by decide) e.symm
  have hbne : W.heap.size < w1.heap.size := Nat.lt_of_lt_of_le hlt0 hb1.size
  have hlo := low_alloc w1 (.cells #[.int .i64 m.1, .int .i64 m.2] 70)
  have HR2 := hide ((HR1.out.low hlo).low (below_drew (Below.refl _ _)))
  clear hb1 K HR0 HBX hlo hbx1 c0 hlt0
  go_wp2
  go_region_law ((refine step_append_lies _ (by rfl) _ _ _ (by rfl) w0.heap.size 70 i0 _ 2 16 Tryz.underlying22 hii hz0 hz1 hz2 (by rfl) (by omega) _ x.n1 (flat eM s.merges) (by rfl) (by first | exact (hown1.alloc _).drew | exact hown1.drew.alloc _) _ 1 _ (eM m) (by rfl) (by rfl) (by first | exact World.news_of_block (heap_alloc_new w1 _) | exact World.news_of_block (heap_alloc_new w1.drew _)) (one_M m) (by omega) (by unfold maxLen; omega) (by omega) (by simp; omega) (w1.heap.size + 1) (by simp) ?_; intro g cap1 w3 hown hgrow hat hlt3; have e1 : w3.cell? ⟨p, 1, none⟩ = some (.slice x.a1 x.n1 x.c1) := (hgrow.cell_far ⟨p, 1, none⟩ (by simp; omega) hpne).trans (by first | exact (cell_old w1 _ tlt).trans c1 | exact (cell_old w1.drew _ tlt).trans c1); have ef : w3.frozen? ⟨p, 1, none⟩ = false := (hgrow.frozen_far ⟨p, 1, none⟩ (by simp; omega) hpne).trans (by first | exact (frozen_old w1 _ tlt).trans f1 | exact (frozen_old w1.drew _ tlt).trans f1)))
  all_goals
    have hgrow' : (w1.alloc (.cells #[.int .i64 m.1, .int .i64 m.2] 70)).drew.grownBy w3 (Value.slice x.a1 x.n1 x.c1).ownBlock := hgrow
    have HRF := hide (RAt.addMerge m HR2.out hgrow' hown)
    have HFF := hide (fun (q : Nat) (hq : q < W.heap.size) (hp : q ≠ p) (ho : some q ≠ (Value.slice x.a1 x.n1 x.c1).ownBlock) => (Below.heap_setCell w3 ⟨p, 1, none⟩ (.slice (some ⟨g, 0, none⟩) (x.n1 + 1 : Nat) cap1) q (fun e => hp e)).trans ((hgrow'.block q (by simp; omega) ho).trans ((Below.heap_alloc w1 (.cells #[.int .i64 m.1, .int .i64 m.2] 70) q (by omega)).trans (HFR.out q hq))))
    clear hgrow hgrow' hown hat
    go_wp2
    go_ret
    exact ⟨rfl, ⟨_, HRF.out⟩, HFF.out⟩

set_option maxHeartbeats 4000000 in
set_option maxRecDepth 20000 in
theorem addToken_no (w0 : World) (p : Nat) (x : Sv) (s : Sp) (n k : Nat) (W : World) (h : RAt w0 p x s n k W) (room : Int) (m : ByteArray) (hno : ¬ ((x.n2 : Int) < room ∧ okT m = true)) :
    Calls Tryz.prog 158 #[.pointer (some ⟨p, 2, none⟩), .int .i64 room, .string m, .func (.func 73) #[] #[]] W fun e w' => e = .returned (.bool false) ∧ RAt w0 p x s n k w' ∧ Below W.heap.size W w' := by
  have HR0 := hide h
  clear h
  have c0 : W.cell? ⟨p, 2, none⟩ = some (.slice x.a2 x.n2 x.c2) := HR0.out.cell 2
  by_cases hroom : (x.n2 : Int) < room
  · have hok : okT m = false := by cases he : okT m with | false => rfl | true => exact absurd ⟨hroom, he⟩ hno
    have hr1 : ¬ room ≤ (x.n2 : Int) := by omega
    have K := rightToken_any m W
    rw [hok] at K
    clear hok hno
    go_enter Tryz.func158, Tryz.ntmps158
    go_wp2_with fail
    refine K.mono ?_
    rintro e w1 ⟨rfl, hb1⟩
    have HR1 := hide (HR0.out.low (show Below W.heap.size W w1 by rw [hb1]; exact Below.refl _ _))
    have HBB := hide (show Below W.heap.size W w1 by rw [hb1]; exact Below.refl _ _)
    clear hb1
    go_wp2
    go_ret
    exact ⟨rfl, HR1.out, HBB.out⟩
  · have hr1 : room ≤ (x.n2 : Int) := by omega
    go_enter Tryz.func158, Tryz.ntmps158
    go_wp2
    go_ret
    exact ⟨rfl, HR0.out, Below.refl _ _⟩

theorem info_T : (Tryz.prog.info? 9).map (fun i => (i.zero, i.size, i.bytes)) = some (some (.string ⟨#[]⟩), 1, 16) := by kernel_rfl

set_option maxHeartbeats 8000000 in
set_option maxRecDepth 20000 in
theorem addToken_yes (w0 : World) (p : Nat) (x : Sv) (s : Sp) (n k : Nat) (W : World) (h : RAt w0 p x s n k W) (room : Int) (m : ByteArray) (hroom : (x.n2 : Int) < room) (hrm : room ≤ 1000) (hok : okT m = true) :
    Calls Tryz.prog 158 #[.pointer (some ⟨p, 2, none⟩), .int .i64 room, .string m, .func (.func 73) #[] #[]] W fun e w' => e = .returned (.bool true) ∧ (∃ x', RAt w0 p x' { s with tokens := s.tokens ++ [m] } n k w') ∧ ∀ q, q < W.heap.size → q ≠ p → some q ≠ (Value.slice x.a2 x.n2 x.c2).ownBlock → w'.heap[q]? = W.heap[q]? := by
  have HR0 := hide h
  have c0 : W.cell? ⟨p, 2, none⟩ = some (.slice x.a2 x.n2 x.c2) := h.cell 2
  have f0 := h.free 2
  have tlt := h.lt
  have hown1 := h.m2.own
  have hs0 : w0.heap.size ≤ W.heap.size := h.bel.size
  have hpne : some p ≠ (Value.slice x.a2 x.n2 x.c2).ownBlock := fun e => h.m2.ne h.blk (by decide) e.symm
  have hr1 : ¬ room ≤ (x.n2 : Int) := by omega
  have K := rightToken_any m W
  rw [hok] at K
  obtain ⟨i0, hii, hz0, hz1, hz2⟩ := info_parts info_T
  have HR2 := hide (h.low (low_alloc W (.cells #[.string m] 9)))
  clear hok h
  go_enter Tryz.func158, Tryz.ntmps158
  go_wp2_with fail
  refine K.mono ?_
  rintro e w1 ⟨rfl, rfl⟩
  clear K
  go_wp2_with (at_builtin; refine wpList_append_own _ rfl _ _ 23 rfl w0.heap.size 9 i0 (.string ⟨#[]⟩) 1 16 Tryz.underlying23 hii hz0 hz1 hz2 rfl (by decide) _ _ _ rfl (hown1.alloc _) ⟨w1.heap.size, 0, none⟩ 1 1 [.string m] rfl rfl ?c1 ?c2 ?c3 ?c4 ?c5 ?_)
  case c1 =>
    intro j u hj
    match j, hj with
    | 0, hj => simp at hj; subst hj; simp [Addr.add]
  case c2 => intro u hu; simp at hu; subst hu; rfl
  case c3 => unfold maxLen; omega
  case c4 => omega
  case c5 => simp; omega
  intro v' w3 hown hgrow _
  obtain ⟨g, cap1, rfl, _, _⟩ := hown.form (by omega)
  have e1 : w3.cell? ⟨p, 2, none⟩ = some (.slice x.a2 x.n2 x.c2) := (hgrow.cell_far ⟨p, 2, none⟩ (by simp; omega) hpne).trans ((cell_old w1 _ tlt).trans c0)
  have ef : w3.frozen? ⟨p, 2, none⟩ = false := (hgrow.frozen_far ⟨p, 2, none⟩ (by simp; omega) hpne).trans ((frozen_old w1 _ tlt).trans f0)
  have HRF := hide (RAt.addToken m HR2.out hgrow hown)
  have HFF := hide (fun (q : Nat) (hq : q < w1.heap.size) (hp : q ≠ p) (ho : some q ≠ (Value.slice x.a2 x.n2 x.c2).ownBlock) => (Below.heap_setCell w3 ⟨p, 2, none⟩ (.slice (some ⟨g, 0, none⟩) (x.n2 + 1 : Nat) cap1) q (fun e => hp e)).trans ((hgrow.block q (by simp; omega) ho).trans (Below.heap_alloc w1 (.cells #[.string m] 9) q hq)))
  clear hgrow hown
  go_wp2
  go_ret
  exact ⟨rfl, ⟨_, HRF.out⟩, HFF.out⟩

set_option maxHeartbeats 4000000 in
set_option maxRecDepth 20000 in
theorem addSpecial_no (w0 : World) (p : Nat) (x : Sv) (s : Sp) (n k : Nat) (W : World) (h : RAt w0 p x s n k W) (room : Int) (m : Int × ByteArray) (hno : ¬ ((x.n3 : Int) < room ∧ okS m = true)) :
    Calls Tryz.prog 160 #[.pointer (some ⟨p, 3, none⟩), .int .i64 room, .agg #[.int .i64 m.1, .string m.2], .func (.func 75) #[] #[]] W fun e w' => e = .returned (.bool false) ∧ RAt w0 p x s n k w' ∧ Below W.heap.size W w' := by
  have HR0 := hide (h.low (low_alloc W (.cells #[.int .i64 m.1, .string m.2] 67)))
  clear h
  have c0 : (W.alloc (.cells #[.int .i64 m.1, .string m.2] 67)).cell? ⟨p, 3, none⟩ = some (.slice x.a3 x.n3 x.c3) := HR0.out.cell 3
  by_cases hroom : (x.n3 : Int) < room
  · have hok : okS m = false := by cases he : okS m with | false => rfl | true => exact absurd ⟨hroom, he⟩ hno
    have hr1 : ¬ room ≤ (x.n3 : Int) := by omega
    have K := rightSpecial_any m (W.alloc (.cells #[.int .i64 m.1, .string m.2] 67))
    rw [hok] at K
    clear hok hno
    go_enter Tryz.func160, Tryz.ntmps160
    go_wp2_with fail
    refine K.mono ?_
    rintro e w1 ⟨rfl, hb1⟩
    have HR1 := hide (HR0.out.low (hb1))
    have HBB := hide ((low_alloc W _).trans (hb1.mono (low_alloc W _).size))
    clear hb1
    go_wp2
    go_ret
    exact ⟨rfl, HR1.out, HBB.out⟩
  · have hr1 : room ≤ (x.n3 : Int) := by omega
    go_enter Tryz.func160, Tryz.ntmps160
    go_wp2
    go_ret
    exact ⟨rfl, HR0.out, low_alloc W _⟩

theorem info_S : (Tryz.prog.info? 67).map (fun i => (i.zero, i.size, i.bytes)) = some (some (.agg #[.int .i64 0, .string ⟨#[]⟩]), 2, 24) := by kernel_rfl
theorem one_S (m : Int × ByteArray) : ∀ u ∈ eS m, u.oneCell' = true := by
  intro u hu
  simp only [eS, List.mem_cons, List.not_mem_nil, or_false] at hu
  rcases hu with rfl | rfl <;> rfl

set_option maxHeartbeats 8000000 in
set_option maxRecDepth 20000 in
theorem addSpecial_yes (w0 : World) (p : Nat) (x : Sv) (s : Sp) (n k : Nat) (W : World) (h : RAt w0 p x s n k W) (room : Int) (m : Int × ByteArray) (hroom : (x.n3 : Int) < room) (hrm : room ≤ 1000) (hok : okS m = true) :
    Calls Tryz.prog 160 #[.pointer (some ⟨p, 3, none⟩), .int .i64 room, .agg #[.int .i64 m.1, .string m.2], .func (.func 75) #[] #[]] W fun e w' => e = .returned (.bool true) ∧ (∃ x', RAt w0 p x' { s with specials := s.specials ++ [m] } n k w') ∧ ∀ q, q < W.heap.size → q ≠ p → some q ≠ (Value.slice x.a3 x.n3 x.c3).ownBlock → w'.heap[q]? = W.heap[q]? := by
  have HR0 := hide (h.low (low_alloc W (.cells #[.int .i64 m.1, .string m.2] 67)))
  clear h
  have c0 : (W.alloc (.cells #[.int .i64 m.1, .string m.2] 67)).cell? ⟨p, 3, none⟩ = some (.slice x.a3 x.n3 x.c3) := HR0.out.cell 3
  have hr1 : ¬ room ≤ (x.n3 : Int) := by omega
  have hbx : (W.alloc (.cells #[.int .i64 m.1, .string m.2] 67)).heap[W.heap.size]? = some (.cells #[.int .i64 m.1, .string m.2] 67 (0, 0)) := heap_alloc_new W _
  have K := rightSpecial_any m (W.alloc (.cells #[.int .i64 m.1, .string m.2] 67))
  rw [hok] at K
  obtain ⟨i0, hii, hz0, hz1, hz2⟩ := info_parts info_S
  have HBX := hide hbx
  have hlt0 : W.heap.size < (W.alloc (.cells #[.int .i64 m.1, .string m.2] 67)).heap.size := by simp
  clear hok hbx
  go_enter Tryz.func160, Tryz.ntmps160
  go_wp2_with fail
  refine K.mono ?_
  rintro e w1 ⟨rfl, hb1⟩
  have HR1 := hide (HR0.out.low (hb1))
  have HFR := hide (fun (q : Nat) (hq : q < W.heap.size) => (hb1.block q (by simp; omega)).trans (Below.heap_alloc W (.cells #[.int .i64 m.1, .string m.2] 67) q hq))
  have hs1 : W.heap.size ≤ w1.heap.size := Nat.le_trans (low_alloc W _).size hb1.size
  have hbx1 : w1.heap[W.heap.size]? = some (.cells #[.int .i64 m.1, .string m.2] 67 (0, 0)) := by rw [hb1.block _ hlt0]; exact HBX.out
  have b0 : w1.cell? ⟨W.heap.size, 0, none⟩ = some (.int .i64 m.1) := by simp [World.cell?, hbx1]
  have b1 : w1.cell? ⟨W.heap.size, 1, none⟩ = some (.string m.2) := by simp [World.cell?, hbx1]
  have c1 : w1.cell? ⟨p, 3, none⟩ = some (.slice x.a3 x.n3 x.c3) := HR1.out.cell 3
  have f1 := HR1.out.free 3
  have tlt := HR1.out.lt
  have hown1 := HR1.out.m3.own
  have hs0 : w0.heap.size ≤ w1.heap.size := HR1.out.bel.size
  have hpne : some p ≠ (Value.slice x.a3 x.n3 x.c3).ownBlock := fun e => HR1.out.m3.ne HR1.out.blk (by decide) e.symm
  have hbne : W.heap.size < w1.heap.size := Nat.lt_of_lt_of_le hlt0 hb1.size
  have hlo := low_alloc w1 (.cells #[.int .i64 m.1, .string m.2] 67)
  have HR2 := hide ((HR1.out.low hlo).low (below_drew (Below.refl _ _)))
  clear hb1 K HR0 HBX hlo hbx1 c0 hlt0
  go_wp2
  go_region_law ((refine step_append_lies _ (by rfl) _ _ _ (by rfl) w0.heap.size 67 i0 _ 2 24 Tryz.underlying24 hii hz0 hz1 hz2 (by rfl) (by omega) _ x.n3 (flat eS s.specials) (by rfl) (by first | exact (hown1.alloc _).drew | exact hown1.drew.alloc _) _ 1 _ (eS m) (by rfl) (by rfl) (by first | exact World.news_of_block (heap_alloc_new w1 _) | exact World.news_of_block (heap_alloc_new w1.drew _)) (one_S m) (by omega) (by unfold maxLen; omega) (by omega) (by simp; omega) (w1.heap.size + 1) (by simp) ?_; intro g cap1 w3 hown hgrow hat hlt3; have e1 : w3.cell? ⟨p, 3, none⟩ = some (.slice x.a3 x.n3 x.c3) := (hgrow.cell_far ⟨p, 3, none⟩ (by simp; omega) hpne).trans (by first | exact (cell_old w1 _ tlt).trans c1 | exact (cell_old w1.drew _ tlt).trans c1); have ef : w3.frozen? ⟨p, 3, none⟩ = false := (hgrow.frozen_far ⟨p, 3, none⟩ (by simp; omega) hpne).trans (by first | exact (frozen_old w1 _ tlt).trans f1 | exact (frozen_old w1.drew _ tlt).trans f1)))
  all_goals
    have hgrow' : (w1.alloc (.cells #[.int .i64 m.1, .string m.2] 67)).drew.grownBy w3 (Value.slice x.a3 x.n3 x.c3).ownBlock := hgrow
    have HRF := hide (RAt.addSpecial m HR2.out hgrow' hown)
    have HFF := hide (fun (q : Nat) (hq : q < W.heap.size) (hp : q ≠ p) (ho : some q ≠ (Value.slice x.a3 x.n3 x.c3).ownBlock) => (Below.heap_setCell w3 ⟨p, 3, none⟩ (.slice (some ⟨g, 0, none⟩) (x.n3 + 1 : Nat) cap1) q (fun e => hp e)).trans ((hgrow'.block q (by simp; omega) ho).trans ((Below.heap_alloc w1 (.cells #[.int .i64 m.1, .string m.2] 67) q (by omega)).trans (HFR.out q hq))))
    clear hgrow hgrow' hown hat
    go_wp2
    go_ret
    exact ⟨rfl, ⟨_, HRF.out⟩, HFF.out⟩

set_option maxHeartbeats 4000000 in
set_option maxRecDepth 20000 in
theorem addClass_no (w0 : World) (p : Nat) (x : Sv) (s : Sp) (n k : Nat) (W : World) (h : RAt w0 p x s n k W) (room : Int) (m : Int × Int × Int) (hno : ¬ ((x.n4 : Int) < room ∧ okC m = true)) :
    Calls Tryz.prog 161 #[.pointer (some ⟨p, 4, none⟩), .int .i64 room, .agg #[.int .i64 m.1, .int .i64 m.2.1, .int .i64 m.2.2], .func (.func 77) #[] #[]] W fun e w' => e = .returned (.bool false) ∧ RAt w0 p x s n k w' ∧ Below W.heap.size W w' := by
  have HR0 := hide (h.low (low_alloc W (.cells #[.int .i64 m.1, .int .i64 m.2.1, .int .i64 m.2.2] 72)))
  clear h
  have c0 : (W.alloc (.cells #[.int .i64 m.1, .int .i64 m.2.1, .int .i64 m.2.2] 72)).cell? ⟨p, 4, none⟩ = some (.slice x.a4 x.n4 x.c4) := HR0.out.cell 4
  by_cases hroom : (x.n4 : Int) < room
  · have hok : okC m = false := by cases he : okC m with | false => rfl | true => exact absurd ⟨hroom, he⟩ hno
    have hr1 : ¬ room ≤ (x.n4 : Int) := by omega
    have K := rightClass_any m (W.alloc (.cells #[.int .i64 m.1, .int .i64 m.2.1, .int .i64 m.2.2] 72))
    rw [hok] at K
    clear hok hno
    go_enter Tryz.func161, Tryz.ntmps161
    go_wp2_with fail
    refine K.mono ?_
    rintro e w1 ⟨rfl, hb1⟩
    have HR1 := hide (HR0.out.low (hb1))
    have HBB := hide ((low_alloc W _).trans (hb1.mono (low_alloc W _).size))
    clear hb1
    go_wp2
    go_ret
    exact ⟨rfl, HR1.out, HBB.out⟩
  · have hr1 : room ≤ (x.n4 : Int) := by omega
    go_enter Tryz.func161, Tryz.ntmps161
    go_wp2
    go_ret
    exact ⟨rfl, HR0.out, low_alloc W _⟩

theorem info_C : (Tryz.prog.info? 72).map (fun i => (i.zero, i.size, i.bytes)) = some (some (.agg #[.int .i64 0, .int .i64 0, .int .i64 0]), 3, 24) := by kernel_rfl
theorem one_C (m : Int × Int × Int) : ∀ u ∈ eC m, u.oneCell' = true := by
  intro u hu
  simp only [eC, List.mem_cons, List.not_mem_nil, or_false] at hu
  rcases hu with rfl | rfl | rfl <;> rfl

set_option maxHeartbeats 8000000 in
set_option maxRecDepth 20000 in
theorem addClass_yes (w0 : World) (p : Nat) (x : Sv) (s : Sp) (n k : Nat) (W : World) (h : RAt w0 p x s n k W) (room : Int) (m : Int × Int × Int) (hroom : (x.n4 : Int) < room) (hrm : room ≤ 1000) (hok : okC m = true) :
    Calls Tryz.prog 161 #[.pointer (some ⟨p, 4, none⟩), .int .i64 room, .agg #[.int .i64 m.1, .int .i64 m.2.1, .int .i64 m.2.2], .func (.func 77) #[] #[]] W fun e w' => e = .returned (.bool true) ∧ (∃ x', RAt w0 p x' { s with classes := s.classes ++ [m] } n k w') ∧ ∀ q, q < W.heap.size → q ≠ p → some q ≠ (Value.slice x.a4 x.n4 x.c4).ownBlock → w'.heap[q]? = W.heap[q]? := by
  have HR0 := hide (h.low (low_alloc W (.cells #[.int .i64 m.1, .int .i64 m.2.1, .int .i64 m.2.2] 72)))
  clear h
  have c0 : (W.alloc (.cells #[.int .i64 m.1, .int .i64 m.2.1, .int .i64 m.2.2] 72)).cell? ⟨p, 4, none⟩ = some (.slice x.a4 x.n4 x.c4) := HR0.out.cell 4
  have hr1 : ¬ room ≤ (x.n4 : Int) := by omega
  have hbx : (W.alloc (.cells #[.int .i64 m.1, .int .i64 m.2.1, .int .i64 m.2.2] 72)).heap[W.heap.size]? = some (.cells #[.int .i64 m.1, .int .i64 m.2.1, .int .i64 m.2.2] 72 (0, 0)) := heap_alloc_new W _
  have K := rightClass_any m (W.alloc (.cells #[.int .i64 m.1, .int .i64 m.2.1, .int .i64 m.2.2] 72))
  rw [hok] at K
  obtain ⟨i0, hii, hz0, hz1, hz2⟩ := info_parts info_C
  have HBX := hide hbx
  have hlt0 : W.heap.size < (W.alloc (.cells #[.int .i64 m.1, .int .i64 m.2.1, .int .i64 m.2.2] 72)).heap.size := by simp
  clear hok hbx
  go_enter Tryz.func161, Tryz.ntmps161
  go_wp2_with fail
  refine K.mono ?_
  rintro e w1 ⟨rfl, hb1⟩
  have HR1 := hide (HR0.out.low (hb1))
  have HFR := hide (fun (q : Nat) (hq : q < W.heap.size) => (hb1.block q (by simp; omega)).trans (Below.heap_alloc W (.cells #[.int .i64 m.1, .int .i64 m.2.1, .int .i64 m.2.2] 72) q hq))
  have hs1 : W.heap.size ≤ w1.heap.size := Nat.le_trans (low_alloc W _).size hb1.size
  have hbx1 : w1.heap[W.heap.size]? = some (.cells #[.int .i64 m.1, .int .i64 m.2.1, .int .i64 m.2.2] 72 (0, 0)) := by rw [hb1.block _ hlt0]; exact HBX.out
  have b0 : w1.cell? ⟨W.heap.size, 0, none⟩ = some (.int .i64 m.1) := by simp [World.cell?, hbx1]
  have b1 : w1.cell? ⟨W.heap.size, 1, none⟩ = some (.int .i64 m.2.1) := by simp [World.cell?, hbx1]
  have b2 : w1.cell? ⟨W.heap.size, 2, none⟩ = some (.int .i64 m.2.2) := by simp [World.cell?, hbx1]
  have c1 : w1.cell? ⟨p, 4, none⟩ = some (.slice x.a4 x.n4 x.c4) := HR1.out.cell 4
  have f1 := HR1.out.free 4
  have tlt := HR1.out.lt
  have hown1 := HR1.out.m4.own
  have hs0 : w0.heap.size ≤ w1.heap.size := HR1.out.bel.size
  have hpne : some p ≠ (Value.slice x.a4 x.n4 x.c4).ownBlock := fun e => HR1.out.m4.ne HR1.out.blk (by decide) e.symm
  have hbne : W.heap.size < w1.heap.size := Nat.lt_of_lt_of_le hlt0 hb1.size
  have hlo := low_alloc w1 (.cells #[.int .i64 m.1, .int .i64 m.2.1, .int .i64 m.2.2] 72)
  have HR2 := hide ((HR1.out.low hlo).low (below_drew (Below.refl _ _)))
  clear hb1 K HR0 HBX hlo hbx1 c0 hlt0
  go_wp2
  go_region_law ((refine step_append_lies _ (by rfl) _ _ _ (by rfl) w0.heap.size 72 i0 _ 3 24 Tryz.underlying25 hii hz0 hz1 hz2 (by rfl) (by omega) _ x.n4 (flat eC s.classes) (by rfl) (by first | exact (hown1.alloc _).drew | exact hown1.drew.alloc _) _ 1 _ (eC m) (by rfl) (by rfl) (by first | exact World.news_of_block (heap_alloc_new w1 _) | exact World.news_of_block (heap_alloc_new w1.drew _)) (one_C m) (by omega) (by unfold maxLen; omega) (by omega) (by simp; omega) (w1.heap.size + 1) (by simp) ?_; intro g cap1 w3 hown hgrow hat hlt3; have e1 : w3.cell? ⟨p, 4, none⟩ = some (.slice x.a4 x.n4 x.c4) := (hgrow.cell_far ⟨p, 4, none⟩ (by simp; omega) hpne).trans (by first | exact (cell_old w1 _ tlt).trans c1 | exact (cell_old w1.drew _ tlt).trans c1); have ef : w3.frozen? ⟨p, 4, none⟩ = false := (hgrow.frozen_far ⟨p, 4, none⟩ (by simp; omega) hpne).trans (by first | exact (frozen_old w1 _ tlt).trans f1 | exact (frozen_old w1.drew _ tlt).trans f1)))
  all_goals
    have hgrow' : (w1.alloc (.cells #[.int .i64 m.1, .int .i64 m.2.1, .int .i64 m.2.2] 72)).drew.grownBy w3 (Value.slice x.a4 x.n4 x.c4).ownBlock := hgrow
    have HRF := hide (RAt.addClass m HR2.out hgrow' hown)
    have HFF := hide (fun (q : Nat) (hq : q < W.heap.size) (hp : q ≠ p) (ho : some q ≠ (Value.slice x.a4 x.n4 x.c4).ownBlock) => (Below.heap_setCell w3 ⟨p, 4, none⟩ (.slice (some ⟨g, 0, none⟩) (x.n4 + 1 : Nat) cap1) q (fun e => hp e)).trans ((hgrow'.block q (by simp; omega) ho).trans ((Below.heap_alloc w1 (.cells #[.int .i64 m.1, .int .i64 m.2.1, .int .i64 m.2.2] 72) q (by omega)).trans (HFR.out q hq))))
    clear hgrow hgrow' hown hat
    go_wp2
    go_ret
    exact ⟨rfl, ⟨_, HRF.out⟩, HFF.out⟩

set_option maxHeartbeats 4000000 in
set_option maxRecDepth 20000 in
theorem addJoin_no (w0 : World) (p : Nat) (x : Sv) (s : Sp) (n k : Nat) (W : World) (h : RAt w0 p x s n k W) (room : Int) (m : Int × Int) (hno : ¬ ((x.n5 : Int) < room ∧ okJ m = true)) :
    Calls Tryz.prog 162 #[.pointer (some ⟨p, 5, none⟩), .int .i64 room, .agg #[.int .i64 m.1, .int .i64 m.2], .func (.func 79) #[] #[]] W fun e w' => e = .returned (.bool false) ∧ RAt w0 p x s n k w' ∧ Below W.heap.size W w' := by
  have HR0 := hide (h.low (low_alloc W (.cells #[.int .i64 m.1, .int .i64 m.2] 93)))
  clear h
  have c0 : (W.alloc (.cells #[.int .i64 m.1, .int .i64 m.2] 93)).cell? ⟨p, 5, none⟩ = some (.slice x.a5 x.n5 x.c5) := HR0.out.cell 5
  by_cases hroom : (x.n5 : Int) < room
  · have hok : okJ m = false := by cases he : okJ m with | false => rfl | true => exact absurd ⟨hroom, he⟩ hno
    have hr1 : ¬ room ≤ (x.n5 : Int) := by omega
    have K := rightJoin_any m (W.alloc (.cells #[.int .i64 m.1, .int .i64 m.2] 93))
    rw [hok] at K
    clear hok hno
    go_enter Tryz.func162, Tryz.ntmps162
    go_wp2_with fail
    refine K.mono ?_
    rintro e w1 ⟨rfl, hb1⟩
    have HR1 := hide (HR0.out.low (hb1))
    have HBB := hide ((low_alloc W _).trans (hb1.mono (low_alloc W _).size))
    clear hb1
    go_wp2
    go_ret
    exact ⟨rfl, HR1.out, HBB.out⟩
  · have hr1 : room ≤ (x.n5 : Int) := by omega
    go_enter Tryz.func162, Tryz.ntmps162
    go_wp2
    go_ret
    exact ⟨rfl, HR0.out, low_alloc W _⟩

theorem info_J : (Tryz.prog.info? 93).map (fun i => (i.zero, i.size, i.bytes)) = some (some (.agg #[.int .i64 0, .int .i64 0]), 2, 16) := by kernel_rfl
theorem one_J (m : Int × Int) : ∀ u ∈ eM m, u.oneCell' = true := by
  intro u hu
  simp only [eM, List.mem_cons, List.not_mem_nil, or_false] at hu
  rcases hu with rfl | rfl <;> rfl

set_option maxHeartbeats 8000000 in
set_option maxRecDepth 20000 in
theorem addJoin_yes (w0 : World) (p : Nat) (x : Sv) (s : Sp) (n k : Nat) (W : World) (h : RAt w0 p x s n k W) (room : Int) (m : Int × Int) (hroom : (x.n5 : Int) < room) (hrm : room ≤ 1000) (hok : okJ m = true) :
    Calls Tryz.prog 162 #[.pointer (some ⟨p, 5, none⟩), .int .i64 room, .agg #[.int .i64 m.1, .int .i64 m.2], .func (.func 79) #[] #[]] W fun e w' => e = .returned (.bool true) ∧ (∃ x', RAt w0 p x' { s with joins := s.joins ++ [m] } n k w') ∧ ∀ q, q < W.heap.size → q ≠ p → some q ≠ (Value.slice x.a5 x.n5 x.c5).ownBlock → w'.heap[q]? = W.heap[q]? := by
  have HR0 := hide (h.low (low_alloc W (.cells #[.int .i64 m.1, .int .i64 m.2] 93)))
  clear h
  have c0 : (W.alloc (.cells #[.int .i64 m.1, .int .i64 m.2] 93)).cell? ⟨p, 5, none⟩ = some (.slice x.a5 x.n5 x.c5) := HR0.out.cell 5
  have hr1 : ¬ room ≤ (x.n5 : Int) := by omega
  have hbx : (W.alloc (.cells #[.int .i64 m.1, .int .i64 m.2] 93)).heap[W.heap.size]? = some (.cells #[.int .i64 m.1, .int .i64 m.2] 93 (0, 0)) := heap_alloc_new W _
  have K := rightJoin_any m (W.alloc (.cells #[.int .i64 m.1, .int .i64 m.2] 93))
  rw [hok] at K
  obtain ⟨i0, hii, hz0, hz1, hz2⟩ := info_parts info_J
  have HBX := hide hbx
  have hlt0 : W.heap.size < (W.alloc (.cells #[.int .i64 m.1, .int .i64 m.2] 93)).heap.size := by simp
  clear hok hbx
  go_enter Tryz.func162, Tryz.ntmps162
  go_wp2_with fail
  refine K.mono ?_
  rintro e w1 ⟨rfl, hb1⟩
  have HR1 := hide (HR0.out.low (hb1))
  have HFR := hide (fun (q : Nat) (hq : q < W.heap.size) => (hb1.block q (by simp; omega)).trans (Below.heap_alloc W (.cells #[.int .i64 m.1, .int .i64 m.2] 93) q hq))
  have hs1 : W.heap.size ≤ w1.heap.size := Nat.le_trans (low_alloc W _).size hb1.size
  have hbx1 : w1.heap[W.heap.size]? = some (.cells #[.int .i64 m.1, .int .i64 m.2] 93 (0, 0)) := by rw [hb1.block _ hlt0]; exact HBX.out
  have b0 : w1.cell? ⟨W.heap.size, 0, none⟩ = some (.int .i64 m.1) := by simp [World.cell?, hbx1]
  have b1 : w1.cell? ⟨W.heap.size, 1, none⟩ = some (.int .i64 m.2) := by simp [World.cell?, hbx1]
  have c1 : w1.cell? ⟨p, 5, none⟩ = some (.slice x.a5 x.n5 x.c5) := HR1.out.cell 5
  have f1 := HR1.out.free 5
  have tlt := HR1.out.lt
  have hown1 := HR1.out.m5.own
  have hs0 : w0.heap.size ≤ w1.heap.size := HR1.out.bel.size
  have hpne : some p ≠ (Value.slice x.a5 x.n5 x.c5).ownBlock := fun e => HR1.out.m5.ne HR1.out.blk (by decide) e.symm
  have hbne : W.heap.size < w1.heap.size := Nat.lt_of_lt_of_le hlt0 hb1.size
  have hlo := low_alloc w1 (.cells #[.int .i64 m.1, .int .i64 m.2] 93)
  have HR2 := hide ((HR1.out.low hlo).low (below_drew (Below.refl _ _)))
  clear hb1 K HR0 HBX hlo hbx1 c0 hlt0
  go_wp2
  go_region_law ((refine step_append_lies _ (by rfl) _ _ _ (by rfl) w0.heap.size 93 i0 _ 2 16 Tryz.underlying26 hii hz0 hz1 hz2 (by rfl) (by omega) _ x.n5 (flat eM s.joins) (by rfl) (by first | exact (hown1.alloc _).drew | exact hown1.drew.alloc _) _ 1 _ (eM m) (by rfl) (by rfl) (by first | exact World.news_of_block (heap_alloc_new w1 _) | exact World.news_of_block (heap_alloc_new w1.drew _)) (one_J m) (by omega) (by unfold maxLen; omega) (by omega) (by simp; omega) (w1.heap.size + 1) (by simp) ?_; intro g cap1 w3 hown hgrow hat hlt3; have e1 : w3.cell? ⟨p, 5, none⟩ = some (.slice x.a5 x.n5 x.c5) := (hgrow.cell_far ⟨p, 5, none⟩ (by simp; omega) hpne).trans (by first | exact (cell_old w1 _ tlt).trans c1 | exact (cell_old w1.drew _ tlt).trans c1); have ef : w3.frozen? ⟨p, 5, none⟩ = false := (hgrow.frozen_far ⟨p, 5, none⟩ (by simp; omega) hpne).trans (by first | exact (frozen_old w1 _ tlt).trans f1 | exact (frozen_old w1.drew _ tlt).trans f1)))
  all_goals
    have hgrow' : (w1.alloc (.cells #[.int .i64 m.1, .int .i64 m.2] 93)).drew.grownBy w3 (Value.slice x.a5 x.n5 x.c5).ownBlock := hgrow
    have HRF := hide (RAt.addJoin m HR2.out hgrow' hown)
    have HFF := hide (fun (q : Nat) (hq : q < W.heap.size) (hp : q ≠ p) (ho : some q ≠ (Value.slice x.a5 x.n5 x.c5).ownBlock) => (Below.heap_setCell w3 ⟨p, 5, none⟩ (.slice (some ⟨g, 0, none⟩) (x.n5 + 1 : Nat) cap1) q (fun e => hp e)).trans ((hgrow'.block q (by simp; omega) ho).trans ((Below.heap_alloc w1 (.cells #[.int .i64 m.1, .int .i64 m.2] 93) q (by omega)).trans (HFR.out q hq))))
    clear hgrow hgrow' hown hat
    go_wp2
    go_ret
    exact ⟨rfl, ⟨_, HRF.out⟩, HFF.out⟩
end Go.Proofs.YtoihocbnhoniaaaGreatDoor.Wf
