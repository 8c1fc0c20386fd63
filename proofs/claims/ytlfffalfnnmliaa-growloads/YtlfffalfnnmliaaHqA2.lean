/- More of a heap in memory. Nothing of the program is named. -/
import Derived.Test.YtlfffalfnnmliaaHqA
namespace Go.Proofs.Ytlfffalfnnmliaa.Hq
open Go.RowKit Go.Proofs.Ytlfffalfnnmliaa
set_option linter.unusedVariables false
set_option linter.unusedSimpArgs false
section
variable {T E : TypeId} {base p : Nat} {v : Value} {tn : Int} {l : List It} {w w' : World}
theorem HAt.fz {g cap n : Nat} (h : HAt T E base p (.slice (some ⟨g, 0, none⟩) n cap) tn l w) (o : Nat) : w.frozen? ⟨g, o, none⟩ = false := by
  rcases h.row.2 with ⟨h0, _⟩ | ⟨g', cap', cur, hvv, hb, hg, hc, hmx, hsz, ht⟩
  · cases h0
  simp only [Value.slice.injEq, Option.some.injEq, Addr.mk.injEq, and_true, true_and] at hvv
  obtain ⟨rfl, rfl, rfl⟩ := hvv
  simp [World.frozen?, hg]

/-- A thing is put at the first place. -/
theorem HAt.put0 {g cap n : Nat} (h : HAt T E base p (.slice (some ⟨g, 0, none⟩) n cap) tn l w) (hi : 0 < l.length) (a : It) :
    ∃ W, W = (((((((w.setCell ⟨g, 0, none⟩ (.int .i64 a.r)).setCell ⟨g, 1, none⟩ (.int .i64 a.p)).setCell ⟨g, 2, none⟩ (.int .i64 a.t)).setCell ⟨g, 3, none⟩ (.int .i64 a.x1)).setCell ⟨g, 4, none⟩ (.int .i64 a.x2)).setCell ⟨g, 5, none⟩ (.int .i64 a.x3)).setCell ⟨g, 6, none⟩ (.int .i64 a.x4)).drew ∧ HAt T E base p (.slice (some ⟨g, 0, none⟩) n cap) tn (l.set 0 a) W ∧ Fr p (.slice (some ⟨g, 0, none⟩) n cap) w W := by
  have h1 := h.put hi a
  unfold putW at h1
  simp only [Nat.zero_mul, Nat.zero_add] at h1
  exact ⟨_, rfl, h1.drew, ((((((((Fr.refl _ _ _).setG rfl _).setG rfl _).setG rfl _).setG rfl _).setG rfl _).setG rfl _).setG rfl _).drew⟩
/-- One more thing, behind the append. -/
theorem HAt.pushed {ao : Option Addr} {n cap g cap1 : Nat} (h : HAt T E base p (.slice ao n cap) tn l w) (hn : l.length = n) (a : It) (o : Obj) {w1 : World} (hown : w1.ownsRow base E 7 (.slice (some ⟨g, 0, none⟩) (n + 1) cap1) (n + 1) (flat l ++ a.cells)) (hgrow : (w.alloc o).drew.grownBy w1 (Value.slice ao n cap).ownBlock) (hat : (Value.slice ao n cap).ownBlock = some g ∨ g = w.heap.size + 1) (tn' : Int) :
    HAt T E base p (.slice (some ⟨g, 0, none⟩) (n + 1) cap1) tn' (l ++ [a]) ((w1.setCell ⟨p, 0, none⟩ (.slice (some ⟨g, 0, none⟩) (n + 1) cap1)).setCell ⟨p, 1, none⟩ (.int .i64 tn')) ∧ Fr p (.slice ao n cap) w ((w1.setCell ⟨p, 0, none⟩ (.slice (some ⟨g, 0, none⟩) (n + 1) cap1)).setCell ⟨p, 1, none⟩ (.int .i64 tn')) ∧ Nw w (.slice ao n cap) (.slice (some ⟨g, 0, none⟩) (n + 1) cap1) := by
  have hlt := h.lt
  have hsz : (w.alloc o).drew.heap.size = w.heap.size + 1 := by simp
  have hb0 : (w.alloc o).drew.heap[p]? = w.heap[p]? := Below.heap_alloc w o p hlt
  have hp1 : w1.heap[p]? = some (.cells #[.slice ao n cap, .int .i64 tn] T (0, 0)) := by
    rw [hgrow.block p (by omega) (fun e => h.ne e.symm), hb0]
    exact h.st
  have hgp : g ≠ p := by
    rcases hat with e | e
    · intro e2; exact h.ne (by rw [e, e2])
    · omega
  have hFr : Fr p (.slice ao n cap) w w1 := ⟨hgrow.os, hgrow.tape, hgrow.output, by have := hgrow.size; omega, fun k hk hkp hkv => (hgrow.block k (by omega) hkv).trans (Below.heap_alloc w o k hk)⟩
  refine ⟨⟨?_, ?_, ?_, h.bp⟩, (hFr.setP _).setP _, ?_⟩
  · have e1 := heap_setCell_same w1 p 0 _ T (.slice (some ⟨g, 0, none⟩) (n + 1) cap1) hp1
    have e2 := heap_setCell_same _ p 1 _ T (.int .i64 tn') e1
    rw [e2]
    rfl
  · have e : (l ++ [a]).length = n + 1 := by simp [hn]
    rw [e, flat_append]
    have r1 := hown.2
    rcases r1 with ⟨h0, _⟩ | ⟨g', cap', cur, hvv, hb, hg, hc, hmx, hs, ht⟩
    · cases h0
    simp only [Value.slice.injEq, Option.some.injEq, Addr.mk.injEq, and_true, true_and] at hvv
    obtain ⟨rfl, rfl⟩ := hvv
    refine ⟨by have := hown.1; simpa [flat] using this, .inr ⟨g, cap1, cur, rfl, hb, ?_, hc, hmx, hs, by simpa [flat] using ht⟩⟩
    rw [heap_setCell_other _ _ _ _ hgp, heap_setCell_other _ _ _ _ hgp]
    exact hg
  · intro e; exact hgp (by simpa [Value.ownBlock] using e)
  · rcases hat with e | e
    · exact Or.inl e.symm
    · exact Or.inr ⟨g, rfl, by omega⟩
end

/-- clear of some elements of a slice. -/
theorem run_clear_all {P : Program} (w : World) (t e : TypeId) (z : Value) (size : Nat) (ht : P.underlying t = some (.slice e)) (hv : ∀ w, (zeroValue e).run P w = .ok z w) (hz : z.cells.size = size) (h1 : ∀ u ∈ z.cells, u.oneCell' = true) (hs : 0 < size) (b o n : Nat) (hn : 0 < n)
    (hc : ∀ j, j < n * size → (w.cell? ⟨b, o + j, none⟩).isSome = true) (hf : ∀ j, j < n * size → w.frozen? ⟨b, o + j, none⟩ = false) :
    ∃ vs : List Value, vs.length = n * size ∧ ∀ ty c, (Builtin.clear_ #[t] ty #[.slice (some ⟨b, o, none⟩) n c]).run P w = .ok (.tuple #[]) (w.setCells b o vs) := by
  have hl : (Builtin.zeroCells z.cells n).toList.length = n * size := by simp [Builtin.zeroCells, hz]
  refine ⟨(Builtin.zeroCells z.cells n).toList, hl, ?_⟩
  have h2 : ∀ v ∈ (Builtin.zeroCells z.cells n).toList, v.oneCell' = true := by
    intro v hv'
    simp only [Builtin.zeroCells, Array.toList_map, List.mem_map] at hv'
    obtain ⟨i, _, rfl⟩ := hv'
    have hi : i % z.cells.size < z.cells.size := Nat.mod_lt _ (by omega)
    rw [getElem!_pos z.cells _ hi]
    exact h1 _ (Array.getElem_mem hi)
  have hst := run_storeCells_cells (P := P) b o (Builtin.zeroCells z.cells n).toList 0 w (by rw [hl]; simpa using hc) (by rw [hl]; simpa using hf) h2
  simp only [Nat.add_zero] at hst
  obtain ⟨m, rfl⟩ : ∃ m, n = m + 1 := ⟨n - 1, by omega⟩
  intro ty c
  simp [Builtin.clear_, run_underlying ht, hv, hst]

end Go.Proofs.Ytlfffalfnnmliaa.Hq
