/- The reader in memory. -/
import Derived.Test.YteiinkhdgppgbaaGreatDoorSpT
import Derived.Deep.AppendLies
import Derived.Deep.RegionLaw
import Derived.Laws.OwnMore
import Derived.Lib.OwnKind
namespace Go.Proofs.YteiinkhdgppgbaaGreatDoor
open Go.RowKit
set_option linter.unusedVariables false
set_option linter.unusedSimpArgs false

def eM (m : Int × Int) : List Value := [.int .i64 m.1, .int .i64 m.2]
def eT (m : ByteArray) : List Value := [.string m]
def eS (m : Int × ByteArray) : List Value := [.int .i64 m.1, .string m.2]
def eC (m : Int × Int × Int) : List Value := [.int .i64 m.1, .int .i64 m.2.1, .int .i64 m.2.2]
def flat {α : Type} (e : α → List Value) (l : List α) : List Value := l.flatMap e
theorem flat_snoc {α : Type} (e : α → List Value) (l : List α) (m : α) : flat e (l ++ [m]) = flat e l ++ e m := by simp [flat]
theorem flat_get {α : Type} (e : α → List Value) (k : Nat) (hk : ∀ a, (e a).length = k) : ∀ (l : List α) (i j : Nat) (d : α), i < l.length → j < k → (flat e l)[i * k + j]? = (e (l.getD i d))[j]?
  | [], i, j, d, hi, hj => by cases hi
  | a :: r, 0, j, d, hi, hj => by
    simp only [flat, List.flatMap_cons, Nat.zero_mul, Nat.zero_add]
    rw [List.getElem?_append_left (by rw [hk]; exact hj)]
    rfl
  | a :: r, i + 1, j, d, hi, hj => by
    have ih := flat_get e k hk r i j d (by simpa using hi) hj
    simp only [flat, List.flatMap_cons]
    rw [List.getElem?_append_right (by rw [hk, Nat.succ_mul]; omega), hk, show (i + 1) * k + j - k = i * k + j by rw [Nat.succ_mul]; omega]
    exact ih
/-- A row of elements that the reader owns. -/
structure Row {α : Type} (B E k : Nat) (e : α → List Value) (ao : Option Addr) (n cap : Nat) (l : List α) (W : World) : Prop where
  len : l.length = n
  own : W.ownsRow B E k (.slice ao n cap) n (flat e l)
theorem Row.nil {α : Type} (B E k : Nat) (e : α → List Value) (W : World) : Row B E k e none 0 0 ([] : List α) W := ⟨rfl, World.ownsRow_nil _ _ _ _⟩
theorem Row.low {α : Type} {B E k : Nat} {e : α → List Value} {ao : Option Addr} {n cap : Nat} {l : List α} {W W' : World} (h : Row B E k e ao n cap l W) (hb : Below W.heap.size W W') : Row B E k e ao n cap l W' :=
  ⟨h.len, h.own.kept (row := none) ⟨hb.os, hb.tape, hb.output, hb.size, fun k hk _ => hb.block k hk⟩ (by cases (Value.slice ao n cap).ownBlock <;> simp)⟩
theorem Row.ne {α : Type} {B E k : Nat} {e : α → List Value} {ao : Option Addr} {n cap : Nat} {l : List α} {W : World} (h : Row B E k e ao n cap l W) {q T : Nat} {cs : Array Value} {fr : Nat × Nat} (hq : W.heap[q]? = some (.cells cs T fr)) (hT : T ≠ E) : (Value.slice ao n cap).ownBlock ≠ some q := by
  intro e
  obtain ⟨c, f, h1⟩ := Lib.ownsRow_kind h.own q e
  rw [h1] at hq
  simp only [Option.some.injEq, Obj.cells.injEq] at hq
  exact hT hq.2.1.symm
theorem Row.past {α β : Type} {B E E' k k' : Nat} {e : α → List Value} {e' : β → List Value} {ao ao' : Option Addr} {n cap n' cap' : Nat} {l : List α} {l' : List β} {W W' : World} (h : Row B E k e ao n cap l W) (h' : Row B E' k' e' ao' n' cap' l' W) (hE : E ≠ E') (hg : W.grownBy W' (Value.slice ao' n' cap').ownBlock) : Row B E k e ao n cap l W' := by
  refine ⟨h.len, h.own.kept hg ?_⟩
  cases hv : (Value.slice ao n cap).ownBlock with
  | none => exact Or.inl rfl
  | some g =>
    refine Or.inr fun e => ?_
    obtain ⟨c, f, h1⟩ := Lib.ownsRow_kind h.own g hv
    obtain ⟨c', f', h2⟩ := Lib.ownsRow_kind h'.own g e.symm
    rw [h1] at h2
    simp only [Option.some.injEq, Obj.cells.injEq] at h2
    exact hE h2.2.1
theorem grown_setCell (w : World) (g j : Nat) (v : Value) : w.grownBy (w.setCell ⟨g, j, none⟩ v) (some g) := grownBy_setCell w g j v
theorem Row.set {α : Type} {B E k : Nat} {e : α → List Value} {ao : Option Addr} {n cap : Nat} {l : List α} {W : World} (h : Row B E k e ao n cap l W) {q T : Nat} {cs : Array Value} {fr : Nat × Nat} (hq : W.heap[q]? = some (.cells cs T fr)) (hT : T ≠ E) (j : Nat) (v : Value) : Row B E k e ao n cap l (W.setCell ⟨q, j, none⟩ v) :=
  ⟨h.len, h.own.kept (grown_setCell W q j v) (Or.inr (h.ne hq hT))⟩
theorem Row.cell {α : Type} {B E k : Nat} {e : α → List Value} {ao : Option Addr} {n cap : Nat} {l : List α} {W : World} (h : Row B E k e ao n cap l W) (hk : ∀ a, (e a).length = k) (h0 : 0 < n) (d : α) : ∃ g, ao = some ⟨g, 0, none⟩ ∧ g < W.heap.size ∧ ∀ i j, i < n → j < k → W.cell? ⟨g, 0 + i * k + j, none⟩ = (e (l.getD i d))[j]? := by
  obtain ⟨g, c, hv, _, hg⟩ := h.own.form h0
  simp only [Value.slice.injEq] at hv
  obtain ⟨rfl, -, rfl⟩ := hv
  refine ⟨g, rfl, hg, fun i j hi hj => ?_⟩
  rw [Nat.zero_add, h.own.cellAt (i * k + j) (by
    have : i * k + k ≤ n * k := by rw [← Nat.succ_mul]; exact Nat.mul_le_mul_right k hi
    omega), flat_get e k hk l i j d (by rw [h.len]; exact hi) hj]

/-- The reader's cells. -/
abbrev rdC (x : Sv) (n k : Nat) : Array Value := #[.bool x.r, .slice x.a1 x.n1 x.c1, .slice x.a2 x.n2 x.c2, .slice x.a3 x.n3 x.c3, .slice x.a4 x.n4 x.c4, .slice x.a5 x.n5 x.c5, .int .i64 n, .int .i64 k]
structure RAt (w0 : World) (p : Nat) (x : Sv) (s : Sp) (n k : Nat) (W : World) : Prop where
  bel : Below w0.heap.size w0 W
  hB : w0.heap.size ≤ p
  blk : W.heap[p]? = some (.cells (rdC x n k) 78 (0, 0))
  r : x.r = s.ranked
  m1 : Row w0.heap.size 55 2 eM x.a1 x.n1 x.c1 s.merges W
  m2 : Row w0.heap.size 9 1 eT x.a2 x.n2 x.c2 s.tokens W
  m3 : Row w0.heap.size 43 2 eS x.a3 x.n3 x.c3 s.specials W
  m4 : Row w0.heap.size 57 3 eC x.a4 x.n4 x.c4 s.classes W
  m5 : Row w0.heap.size 58 2 eM x.a5 x.n5 x.c5 s.joins W
theorem RAt.lt {w0 : World} {p : Nat} {x : Sv} {s : Sp} {n k : Nat} {W : World} (h : RAt w0 p x s n k W) : p < W.heap.size := (Array.getElem?_eq_some_iff.1 h.blk).1
theorem RAt.low {w0 : World} {p : Nat} {x : Sv} {s : Sp} {n k : Nat} {W W' : World} (h : RAt w0 p x s n k W) (hb : Below W.heap.size W W') : RAt w0 p x s n k W' :=
  ⟨h.bel.trans (hb.mono h.bel.size), h.hB, by rw [hb.block p h.lt]; exact h.blk, h.r, h.m1.low hb, h.m2.low hb, h.m3.low hb, h.m4.low hb, h.m5.low hb⟩
theorem RAt.cell {w0 : World} {p : Nat} {x : Sv} {s : Sp} {n k : Nat} {W : World} (h : RAt w0 p x s n k W) (j : Nat) : W.cell? ⟨p, j, none⟩ = (rdC x n k)[j]? := Lib.cell_of_heap h.blk j
theorem RAt.free {w0 : World} {p : Nat} {x : Sv} {s : Sp} {n k : Nat} {W : World} (h : RAt w0 p x s n k W) (j : Nat) : W.frozen? ⟨p, j, none⟩ = false := Lib.frozen_of_heap h.blk j
theorem set_block {W : World} {p : Nat} {cs : Array Value} {T : TypeId} {fr : Nat × Nat} (h : W.heap[p]? = some (.cells cs T fr)) (j : Nat) (v : Value) : (W.setCell ⟨p, j, none⟩ v).heap[p]? = some (.cells (cs.setIfInBounds j v) T fr) := by
  simp [World.setCell, Array.getElem?_modify, h]
theorem RAt.spec {w0 : World} {p : Nat} {x : Sv} {s : Sp} {n k : Nat} {W : World} (h : RAt w0 p x s n k W) : SpAt W x s := by
  refine ⟨h.r, ⟨h.m1.len, ?_⟩, ⟨h.m2.len, ?_⟩, ⟨h.m3.len, ?_⟩, ⟨h.m4.len, ?_⟩, ⟨h.m5.len, ?_⟩⟩
  · rcases Nat.eq_zero_or_pos x.n1 with h0 | h0
    · exact Or.inl h0
    · obtain ⟨g, hg, hl, hc⟩ := h.m1.cell (fun _ => rfl) h0 (0, 0)
      exact Or.inr ⟨g, 0, hg, hl, fun i hi => ⟨hc i 0 hi (by omega), hc i 1 hi (by omega)⟩⟩
  · rcases Nat.eq_zero_or_pos x.n2 with h0 | h0
    · exact Or.inl h0
    · obtain ⟨g, hg, hl, hc⟩ := h.m2.cell (fun _ => rfl) h0 ⟨#[]⟩
      exact Or.inr ⟨g, 0, hg, hl, fun i hi => by have := hc i 0 hi (by omega); rw [Nat.mul_one] at this; exact this⟩
  · rcases Nat.eq_zero_or_pos x.n3 with h0 | h0
    · exact Or.inl h0
    · obtain ⟨g, hg, hl, hc⟩ := h.m3.cell (fun _ => rfl) h0 (0, ⟨#[]⟩)
      exact Or.inr ⟨g, 0, hg, hl, fun i hi => ⟨hc i 0 hi (by omega), hc i 1 hi (by omega)⟩⟩
  · rcases Nat.eq_zero_or_pos x.n4 with h0 | h0
    · exact Or.inl h0
    · obtain ⟨g, hg, hl, hc⟩ := h.m4.cell (fun _ => rfl) h0 (0, 0, 0)
      exact Or.inr ⟨g, 0, hg, hl, fun i hi => ⟨hc i 0 hi (by omega), hc i 1 hi (by omega), hc i 2 hi (by omega)⟩⟩
  · rcases Nat.eq_zero_or_pos x.n5 with h0 | h0
    · exact Or.inl h0
    · obtain ⟨g, hg, hl, hc⟩ := h.m5.cell (fun _ => rfl) h0 (0, 0)
      exact Or.inr ⟨g, 0, hg, hl, fun i hi => ⟨hc i 0 hi (by omega), hc i 1 hi (by omega)⟩⟩
/-- The three plain cells. -/
theorem RAt.setN {w0 : World} {p : Nat} {x : Sv} {s : Sp} {n k : Nat} {W : World} (h : RAt w0 p x s n k W) (n' : Nat) : RAt w0 p x s n' k (W.setCell ⟨p, 6, none⟩ (.int .i64 n')) :=
  ⟨h.bel.setCell (p := ⟨p, 6, none⟩) h.hB _, h.hB, set_block h.blk 6 _, h.r, h.m1.set h.blk (by decide) _ _, h.m2.set h.blk (by decide) _ _, h.m3.set h.blk (by decide) _ _, h.m4.set h.blk (by decide) _ _, h.m5.set h.blk (by decide) _ _⟩
theorem RAt.setK {w0 : World} {p : Nat} {x : Sv} {s : Sp} {n k : Nat} {W : World} (h : RAt w0 p x s n k W) (k' : Nat) : RAt w0 p x s n k' (W.setCell ⟨p, 7, none⟩ (.int .i64 k')) :=
  ⟨h.bel.setCell (p := ⟨p, 7, none⟩) h.hB _, h.hB, set_block h.blk 7 _, h.r, h.m1.set h.blk (by decide) _ _, h.m2.set h.blk (by decide) _ _, h.m3.set h.blk (by decide) _ _, h.m4.set h.blk (by decide) _ _, h.m5.set h.blk (by decide) _ _⟩
theorem RAt.setR {w0 : World} {p : Nat} {x : Sv} {s : Sp} {n k : Nat} {W : World} (h : RAt w0 p x s n k W) (r : Bool) : RAt w0 p { x with r := r } { s with ranked := r } n k (W.setCell ⟨p, 0, none⟩ (.bool r)) :=
  ⟨h.bel.setCell (p := ⟨p, 0, none⟩) h.hB _, h.hB, set_block h.blk 0 _, rfl, h.m1.set h.blk (by decide) _ _, h.m2.set h.blk (by decide) _ _, h.m3.set h.blk (by decide) _ _, h.m4.set h.blk (by decide) _ _, h.m5.set h.blk (by decide) _ _⟩
theorem RAt.addMerge {w0 : World} {p : Nat} {x : Sv} {s : Sp} {n k : Nat} {W W' : World} {g cap : Nat} (m : Int × Int) (h : RAt w0 p x s n k W) (hg : W.grownBy W' (Value.slice x.a1 x.n1 x.c1).ownBlock) (hown : W'.ownsRow w0.heap.size 55 2 (.slice (some ⟨g, 0, none⟩) (x.n1 + 1) cap) (x.n1 + 1) (flat eM s.merges ++ eM m)) :
    RAt w0 p { x with a1 := some ⟨g, 0, none⟩, n1 := x.n1 + 1, c1 := cap } { s with merges := s.merges ++ [m] } n k (W'.setCell ⟨p, 1, none⟩ (.slice (some ⟨g, 0, none⟩) (x.n1 + 1 : Nat) cap)) := by
  have hblk : W'.heap[p]? = some (.cells (rdC x n k) 78 (0, 0)) := by rw [hg.block p h.lt (fun e => h.m1.ne h.blk (by decide) e.symm)]; exact h.blk
  exact ⟨(h.bel.grown hg h.bel.size (fun q hq => (h.m1.own.lt q hq).1)).setCell (p := ⟨p, 1, none⟩) h.hB _, h.hB, set_block hblk 1 _, h.r, (⟨by simp [h.m1.len], by rw [flat_snoc]; exact hown⟩ : Row w0.heap.size 55 2 eM (some ⟨g, 0, none⟩) (x.n1 + 1) cap (s.merges ++ [m]) W').set hblk (by decide) _ _, (h.m2.past h.m1 (by decide) hg).set hblk (by decide) _ _, (h.m3.past h.m1 (by decide) hg).set hblk (by decide) _ _, (h.m4.past h.m1 (by decide) hg).set hblk (by decide) _ _, (h.m5.past h.m1 (by decide) hg).set hblk (by decide) _ _⟩
theorem RAt.addToken {w0 : World} {p : Nat} {x : Sv} {s : Sp} {n k : Nat} {W W' : World} {g cap : Nat} (m : ByteArray) (h : RAt w0 p x s n k W) (hg : W.grownBy W' (Value.slice x.a2 x.n2 x.c2).ownBlock) (hown : W'.ownsRow w0.heap.size 9 1 (.slice (some ⟨g, 0, none⟩) (x.n2 + 1) cap) (x.n2 + 1) (flat eT s.tokens ++ eT m)) :
    RAt w0 p { x with a2 := some ⟨g, 0, none⟩, n2 := x.n2 + 1, c2 := cap } { s with tokens := s.tokens ++ [m] } n k (W'.setCell ⟨p, 2, none⟩ (.slice (some ⟨g, 0, none⟩) (x.n2 + 1 : Nat) cap)) := by
  have hblk : W'.heap[p]? = some (.cells (rdC x n k) 78 (0, 0)) := by rw [hg.block p h.lt (fun e => h.m2.ne h.blk (by decide) e.symm)]; exact h.blk
  exact ⟨(h.bel.grown hg h.bel.size (fun q hq => (h.m2.own.lt q hq).1)).setCell (p := ⟨p, 2, none⟩) h.hB _, h.hB, set_block hblk 2 _, h.r, (h.m1.past h.m2 (by decide) hg).set hblk (by decide) _ _, (⟨by simp [h.m2.len], by rw [flat_snoc]; exact hown⟩ : Row w0.heap.size 9 1 eT (some ⟨g, 0, none⟩) (x.n2 + 1) cap (s.tokens ++ [m]) W').set hblk (by decide) _ _, (h.m3.past h.m2 (by decide) hg).set hblk (by decide) _ _, (h.m4.past h.m2 (by decide) hg).set hblk (by decide) _ _, (h.m5.past h.m2 (by decide) hg).set hblk (by decide) _ _⟩
theorem RAt.addSpecial {w0 : World} {p : Nat} {x : Sv} {s : Sp} {n k : Nat} {W W' : World} {g cap : Nat} (m : Int × ByteArray) (h : RAt w0 p x s n k W) (hg : W.grownBy W' (Value.slice x.a3 x.n3 x.c3).ownBlock) (hown : W'.ownsRow w0.heap.size 43 2 (.slice (some ⟨g, 0, none⟩) (x.n3 + 1) cap) (x.n3 + 1) (flat eS s.specials ++ eS m)) :
    RAt w0 p { x with a3 := some ⟨g, 0, none⟩, n3 := x.n3 + 1, c3 := cap } { s with specials := s.specials ++ [m] } n k (W'.setCell ⟨p, 3, none⟩ (.slice (some ⟨g, 0, none⟩) (x.n3 + 1 : Nat) cap)) := by
  have hblk : W'.heap[p]? = some (.cells (rdC x n k) 78 (0, 0)) := by rw [hg.block p h.lt (fun e => h.m3.ne h.blk (by decide) e.symm)]; exact h.blk
  exact ⟨(h.bel.grown hg h.bel.size (fun q hq => (h.m3.own.lt q hq).1)).setCell (p := ⟨p, 3, none⟩) h.hB _, h.hB, set_block hblk 3 _, h.r, (h.m1.past h.m3 (by decide) hg).set hblk (by decide) _ _, (h.m2.past h.m3 (by decide) hg).set hblk (by decide) _ _, (⟨by simp [h.m3.len], by rw [flat_snoc]; exact hown⟩ : Row w0.heap.size 43 2 eS (some ⟨g, 0, none⟩) (x.n3 + 1) cap (s.specials ++ [m]) W').set hblk (by decide) _ _, (h.m4.past h.m3 (by decide) hg).set hblk (by decide) _ _, (h.m5.past h.m3 (by decide) hg).set hblk (by decide) _ _⟩
theorem RAt.addClass {w0 : World} {p : Nat} {x : Sv} {s : Sp} {n k : Nat} {W W' : World} {g cap : Nat} (m : Int × Int × Int) (h : RAt w0 p x s n k W) (hg : W.grownBy W' (Value.slice x.a4 x.n4 x.c4).ownBlock) (hown : W'.ownsRow w0.heap.size 57 3 (.slice (some ⟨g, 0, none⟩) (x.n4 + 1) cap) (x.n4 + 1) (flat eC s.classes ++ eC m)) :
    RAt w0 p { x with a4 := some ⟨g, 0, none⟩, n4 := x.n4 + 1, c4 := cap } { s with classes := s.classes ++ [m] } n k (W'.setCell ⟨p, 4, none⟩ (.slice (some ⟨g, 0, none⟩) (x.n4 + 1 : Nat) cap)) := by
  have hblk : W'.heap[p]? = some (.cells (rdC x n k) 78 (0, 0)) := by rw [hg.block p h.lt (fun e => h.m4.ne h.blk (by decide) e.symm)]; exact h.blk
  exact ⟨(h.bel.grown hg h.bel.size (fun q hq => (h.m4.own.lt q hq).1)).setCell (p := ⟨p, 4, none⟩) h.hB _, h.hB, set_block hblk 4 _, h.r, (h.m1.past h.m4 (by decide) hg).set hblk (by decide) _ _, (h.m2.past h.m4 (by decide) hg).set hblk (by decide) _ _, (h.m3.past h.m4 (by decide) hg).set hblk (by decide) _ _, (⟨by simp [h.m4.len], by rw [flat_snoc]; exact hown⟩ : Row w0.heap.size 57 3 eC (some ⟨g, 0, none⟩) (x.n4 + 1) cap (s.classes ++ [m]) W').set hblk (by decide) _ _, (h.m5.past h.m4 (by decide) hg).set hblk (by decide) _ _⟩
theorem RAt.addJoin {w0 : World} {p : Nat} {x : Sv} {s : Sp} {n k : Nat} {W W' : World} {g cap : Nat} (m : Int × Int) (h : RAt w0 p x s n k W) (hg : W.grownBy W' (Value.slice x.a5 x.n5 x.c5).ownBlock) (hown : W'.ownsRow w0.heap.size 58 2 (.slice (some ⟨g, 0, none⟩) (x.n5 + 1) cap) (x.n5 + 1) (flat eM s.joins ++ eM m)) :
    RAt w0 p { x with a5 := some ⟨g, 0, none⟩, n5 := x.n5 + 1, c5 := cap } { s with joins := s.joins ++ [m] } n k (W'.setCell ⟨p, 5, none⟩ (.slice (some ⟨g, 0, none⟩) (x.n5 + 1 : Nat) cap)) := by
  have hblk : W'.heap[p]? = some (.cells (rdC x n k) 78 (0, 0)) := by rw [hg.block p h.lt (fun e => h.m5.ne h.blk (by decide) e.symm)]; exact h.blk
  exact ⟨(h.bel.grown hg h.bel.size (fun q hq => (h.m5.own.lt q hq).1)).setCell (p := ⟨p, 5, none⟩) h.hB _, h.hB, set_block hblk 5 _, h.r, (h.m1.past h.m5 (by decide) hg).set hblk (by decide) _ _, (h.m2.past h.m5 (by decide) hg).set hblk (by decide) _ _, (h.m3.past h.m5 (by decide) hg).set hblk (by decide) _ _, (h.m4.past h.m5 (by decide) hg).set hblk (by decide) _ _, (⟨by simp [h.m5.len], by rw [flat_snoc]; exact hown⟩ : Row w0.heap.size 58 2 eM (some ⟨g, 0, none⟩) (x.n5 + 1) cap (s.joins ++ [m]) W').set hblk (by decide) _ _⟩
end Go.Proofs.YteiinkhdgppgbaaGreatDoor
