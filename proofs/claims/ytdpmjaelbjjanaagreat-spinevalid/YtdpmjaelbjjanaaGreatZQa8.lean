/- The reader in memory. Contracts: spec.add at each kind of element. -/
import Derived.Test.YtdpmjaelbjjanaaGreatZQa7
import Derived.Deep.AppendLies
import Derived.Deep.RegionLaw
import Derived.Laws.OwnMore
import Derived.Lib.OwnKind
namespace Go.Proofs.YtdpmjaelbjjanaaGreat.Wf
open Go.RowKit
set_option linter.unusedVariables false
set_option linter.unusedSimpArgs false

def eM (m : Int × Int) : List Value := [.int .i64 m.1, .int .i64 m.2]
def eT (m : ByteArray) : List Value := [.string m]
def eS (m : Int × ByteArray) : List Value := [.int .i64 m.1, .string m.2]
def eC (m : Int × Int × Int) : List Value := [.int .i64 m.1, .int .i64 m.2.1, .int .i64 m.2.2]
def flat {α : Type} (e : α → List Value) (l : List α) : List Value := l.flatMap e
theorem flat_snoc {α : Type} (e : α → List Value) (l : List α) (m : α) : flat e (l ++ [m]) = flat e l ++ e m := by simp [flat]
theorem flat_get {α : Type} (e : α → List Value) (k : Nat) (hk : ∀ a, (e a).length = k) : ∀ (l : List α) (i j : Nat) (d : α), i < l.length → j < k → (flat e l)[i * k + j]? = (e (l.getD i d))[j]?
  | [], i, j, d, hi, hj => by cases hi
  | a :: r, 0, j, d, hi, hj => by
    simp only [flat, List.flatMap_cons, Nat.zero_mul, Nat.zero_add]
    rw [List.getElem?_append_left (by rw [hk]; exact hj)]
    rfl
  | a :: r, i + 1, j, d, hi, hj => by
    have ih := flat_get e k hk r i j d (by simpa using hi) hj
    simp only [flat, List.flatMap_cons]
    rw [List.getElem?_append_right (by rw [hk, Nat.succ_mul]; omega), hk, show (i + 1) * k + j - k = i * k + j by rw [Nat.succ_mul]; omega]
    exact ih
/-- A row of elements that the reader owns. -/
structure Row {α : Type} (B E k : Nat) (e : α → List Value) (ao : Option Addr) (n cap : Nat) (l : List α) (W : World) : Prop where
  len : l.length = n
  own : W.ownsRow B E k (.slice ao n cap) n (flat e l)
theorem Row.nil {α : Type} (B E k : Nat) (e : α → List Value) (W : World) : Row B E k e none 0 0 ([] : List α) W := ⟨rfl, World.ownsRow_nil _ _ _ _⟩
theorem Row.low {α : Type} {B E k : Nat} {e : α → List Value} {ao : Option Addr} {n cap : Nat} {l : List α} {W W' : World} (h : Row B E k e ao n cap l W) (hb : Below W.heap.size W W') : Row B E k e ao n cap l W' :=
  ⟨h.len, h.own.kept (row := none) ⟨hb.os, hb.tape, hb.output, hb.size, fun k hk _ => hb.block k hk⟩ (by cases (Value.slice ao n cap).ownBlock <;> simp)⟩
theorem Row.ne {α : Type} {B E k : Nat} {e : α → List Value} {ao : Option Addr} {n cap : Nat} {l : List α} {W : World} (h : Row B E k e ao n cap l W) {q T : Nat} {cs : Array Value} {fr : Nat × Nat} (hq : W.heap[q]? = some (.cells cs T fr)) (hT : T ≠ E) : (Value.slice ao n cap).ownBlock ≠ some q := by
  intro e
  obtain ⟨c, f, h1⟩ := Lib.ownsRow_kind h.own q e
  rw [h1] at hq
  simp only [Option.some.injEq, Obj.cells.injEq] at hq
  exact hT hq.2.1.symm
theorem Row.past {α β : Type} {B E E' k k' : Nat} {e : α → List Value} {e' : β → List Value} {ao ao' : Option Addr} {n cap n' cap' : Nat} {l : List α} {l' : List β} {W W' : World} (h : Row B E k e ao n cap l W) (h' : Row B E' k' e' ao' n' cap' l' W) (hE : E ≠ E') (hg : W.grownBy W' (Value.slice ao' n' cap').ownBlock) : Row B E k e ao n cap l W' := by
  refine ⟨h.len, h.own.kept hg ?_⟩
  cases hv : (Value.slice ao n cap).ownBlock with
  | none => exact Or.inl rfl
  | some g =>
    refine Or.inr fun e => ?_
    obtain ⟨c, f, h1⟩ := Lib.ownsRow_kind h.own g hv
    obtain ⟨c', f', h2⟩ := Lib.ownsRow_kind h'.own g e.symm
    rw [h1] at h2
    simp only [Option.some.injEq, Obj.cells.injEq] at h2
    exact hE h2.2.1
theorem grown_setCell (w : World) (g j : Nat) (v : Value) : w.grownBy (w.setCell ⟨g, j, none⟩ v) (some g) := grownBy_setCell w g j v
theorem Row.set {α : Type} {B E k : Nat} {e : α → List Value} {ao : Option Addr} {n cap : Nat} {l : List α} {W : World} (h : Row B E k e ao n cap l W) {q T : Nat} {cs : Array Value} {fr : Nat × Nat} (hq : W.heap[q]? = some (.cells cs T fr)) (hT : T ≠ E) (j : Nat) (v : Value) : Row B E k e ao n cap l (W.setCell ⟨q, j, none⟩ v) :=
  ⟨h.len, h.own.kept (grown_setCell W q j v) (Or.inr (h.ne hq hT))⟩
theorem Row.cell {α : Type} {B E k : Nat} {e : α → List Value} {ao : Option Addr} {n cap : Nat} {l : List α} {W : World} (h : Row B E k e ao n cap l W) (hk : ∀ a, (e a).length = k) (h0 : 0 < n) (d : α) : ∃ g, ao = some ⟨g, 0, none⟩ ∧ g < W.heap.size ∧ ∀ i j, i < n → j < k → W.cell? ⟨g, 0 + i * k + j, none⟩ = (e (l.getD i d))[j]? := by
  obtain ⟨g, c, hv, _, hg⟩ := h.own.form h0
  simp only [Value.slice.injEq] at hv
  obtain ⟨rfl, -, rfl⟩ := hv
  refine ⟨g, rfl, hg, fun i j hi hj => ?_⟩
  rw [Nat.zero_add, h.own.cellAt (i * k + j) (by
    have : i * k + k ≤ n * k := by rw [← Nat.succ_mul]; exact Nat.mul_le_mul_right k hi
    omega), flat_get e k hk l i j d (by rw [h.len]; exact hi) hj]

theorem set_block {W : World} {p : Nat} {cs : Array Value} {T : TypeId} {fr : Nat × Nat} (h : W.heap[p]? = some (.cells cs T fr)) (j : Nat) (v : Value) : (W.setCell ⟨p, j, none⟩ v).heap[p]? = some (.cells (cs.setIfInBounds j v) T fr) := by
  simp [World.setCell, Array.getElem?_modify, h]

end Go.Proofs.YtdpmjaelbjjanaaGreat.Wf

namespace Go.Proofs.YtdpmjaelbjjanaaGreat.Wf
open Go.RowKit
set_option linter.unusedVariables false
set_option linter.unusedSimpArgs false

theorem info_M : (Tryz.prog.info? 77).map (fun i => (i.zero, i.size, i.bytes)) = some (some (.agg #[.int .i64 0, .int .i64 0]), 2, 16) := by kernel_rfl
theorem one_M (m : Int × Int) : ∀ u ∈ eM m, u.oneCell' = true := by
  intro u hu
  simp only [eM, List.mem_cons, List.not_mem_nil, or_false] at hu
  rcases hu with rfl | rfl <;> rfl

theorem info_T : (Tryz.prog.info? 9).map (fun i => (i.zero, i.size, i.bytes)) = some (some (.string ⟨#[]⟩), 1, 16) := by kernel_rfl

theorem info_S : (Tryz.prog.info? 79).map (fun i => (i.zero, i.size, i.bytes)) = some (some (.agg #[.int .i64 0, .string ⟨#[]⟩]), 2, 24) := by kernel_rfl
theorem one_S (m : Int × ByteArray) : ∀ u ∈ eS m, u.oneCell' = true := by
  intro u hu
  simp only [eS, List.mem_cons, List.not_mem_nil, or_false] at hu
  rcases hu with rfl | rfl <;> rfl

theorem info_C : (Tryz.prog.info? 130).map (fun i => (i.zero, i.size, i.bytes)) = some (some (.agg #[.int .i64 0, .int .i64 0, .int .i64 0]), 3, 24) := by kernel_rfl
theorem one_C (m : Int × Int × Int) : ∀ u ∈ eC m, u.oneCell' = true := by
  intro u hu
  simp only [eC, List.mem_cons, List.not_mem_nil, or_false] at hu
  rcases hu with rfl | rfl | rfl <;> rfl

theorem info_J : (Tryz.prog.info? 95).map (fun i => (i.zero, i.size, i.bytes)) = some (some (.agg #[.int .i64 0, .int .i64 0]), 2, 16) := by kernel_rfl
end Go.Proofs.YtdpmjaelbjjanaaGreat.Wf
