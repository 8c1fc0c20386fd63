/- A heap and a list of the law's own side by side in memory; what came in. -/
import Derived.Test.YtdeenhmcifopfaaHpQ
import Derived.Test.YtdeenhmcifopfaaHpGInt
import Derived.Maps.AppendAt
namespace Go.Proofs.Ytdeenhmcifopfaa
open Go.RowKit
set_option linter.unusedVariables false
set_option linter.unusedSimpArgs false

/-- The acts that came in lie at ao: kind, rank, place. -/
def ReadsA (w : World) (ao : Option Addr) (n : Nat) (A : List Th) : Prop :=
  A.length = n ∧ (n = 0 ∨ ∃ b off, ao = some ⟨b, off, none⟩ ∧ ∀ i, i < n → w.cell? ⟨b, off + i * 3, none⟩ = some (.int .i64 (gt A i).r) ∧ w.cell? ⟨b, off + i * 3 + 1, none⟩ = some (.int .i64 (gt A i).p) ∧ w.cell? ⟨b, off + i * 3 + 2, none⟩ = some (.int .i64 (gt A i).i))

theorem ReadsA.kept {w w' : World} {ao : Option Addr} {n : Nat} {A : List Th} (h : ReadsA w ao n A) (hb : Below w.heap.size w w') : ReadsA w' ao n A := by
  refine ⟨h.1, ?_⟩
  rcases h.2 with h | ⟨b, off, rfl, hc⟩
  · exact Or.inl h
  · exact Or.inr ⟨b, off, rfl, fun i hi => ⟨(hb.cell (World.block_lt_of_cell? w _ (hc i hi).1)).trans (hc i hi).1, (hb.cell (World.block_lt_of_cell? w _ (hc i hi).2.1)).trans (hc i hi).2.1, (hb.cell (World.block_lt_of_cell? w _ (hc i hi).2.2)).trans (hc i hi).2.2⟩⟩

theorem ReadsA.at {w : World} {ao : Option Addr} {n : Nat} {A : List Th} (h : ReadsA w ao n A) {i : Nat} (hi : i < n) :
    ∃ b off, ao = some ⟨b, off, none⟩ ∧ b < w.heap.size ∧ w.cell? ⟨b, off + i * 3, none⟩ = some (.int .i64 (gt A i).r) ∧ w.cell? ⟨b, off + i * 3 + 1, none⟩ = some (.int .i64 (gt A i).p) ∧ w.cell? ⟨b, off + i * 3 + 2, none⟩ = some (.int .i64 (gt A i).i) := by
  rcases h.2 with h | ⟨b, off, rfl, hc⟩
  · omega
  · exact ⟨b, off, rfl, World.block_lt_of_cell? w _ (hc i hi).1, hc i hi⟩

/-- A row of one's own that neither the heap at p nor its row is. -/
def Sep (p : Nat) (v nv : Value) : Prop := nv.ownBlock ≠ some p ∧ ∀ k, nv.ownBlock = some k → v.ownBlock ≠ some k

theorem row_fr {p : Nat} {v : Value} {w w' : World} {B : Nat} {E : TypeId} {size : Nat} {nv : Value} {n : Nat} {xs : List Value} (h : w.ownsRow B E size nv n xs) (hF : Fr p v w w') (hs : Sep p v nv) : w'.ownsRow B E size nv n xs := by
  refine ⟨h.1, ?_⟩
  rcases h.2 with hn | ⟨g, cap, cur, rfl, hb, hgg, rest⟩
  · exact .inl hn
  · refine .inr ⟨g, cap, cur, rfl, hb, ?_, rest⟩
    rw [hF.block g (Array.getElem?_eq_some_iff.1 hgg).1 (fun e => hs.1 (by simp [Value.ownBlock, e])) (fun e => hs.2 g rfl e.symm)]
    exact hgg

theorem Sep.nw {p : Nat} {v v' nv : Value} {w : World} {B : Nat} {E : TypeId} {size n : Nat} {xs : List Value} (hs : Sep p v nv) (hr : w.ownsRow B E size nv n xs) (hN : Nw w v v') : Sep p v' nv := by
  refine ⟨hs.1, fun k hk e => ?_⟩
  rcases hN with hN | ⟨g, hN, hg⟩
  · exact hs.2 k hk (by rw [← hN]; exact e)
  · have h1 := (hr.lt k hk).2
    rw [hN] at e
    have := Option.some.inj e
    omega

theorem Sep.nil (p : Nat) (v : Value) : Sep p v (.slice none 0 0) := ⟨by simp [Value.ownBlock], fun k hk => by cases hk⟩

section
variable {T E : TypeId} {base p : Nat} {v : Value} {tn : Int} {l : List It} {w w' : World}
/-- What is written elsewhere leaves the heap as it is. -/
theorem HAt.grown (h : HAt T E base p v tn l w) {row : Option Nat} (hg : w.grownBy w' row) (h1 : row ≠ some p) (h2 : ∀ k, row = some k → v.ownBlock ≠ some k) : HAt T E base p v tn l w' := by
  refine ⟨(hg.block p h.lt (fun e => h1 e.symm)).trans h.st, h.row.kept hg ?_, h.ne, h.bp, h.one⟩
  cases hv : v.ownBlock with
  | none => exact Or.inl rfl
  | some k =>
    right
    intro e
    exact h2 k e.symm (by rw [hv])

theorem HAt.own_lt (h : HAt T E base p v tn l w) : ∀ k, v.ownBlock = some k → base ≤ k ∧ k < w.heap.size := h.row.lt
end

end Go.Proofs.Ytdeenhmcifopfaa
