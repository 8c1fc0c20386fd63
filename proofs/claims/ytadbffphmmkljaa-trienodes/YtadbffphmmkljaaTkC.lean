/- Contracts of package token: enter. -/
import Derived.Test.YtadbffphmmkljaaTkB
namespace Go.Proofs.Ytadbffphmmkljaa
open Go.RowKit Go.Maps
set_option linter.unusedVariables false
set_option linter.unusedSimpArgs false

theorem info_string : (Try.prog.info? 9).map (fun i => (i.zero, i.size, i.bytes)) = some (some (.string ⟨#[]⟩), 1, 16) := by kernel_rfl
theorem info_merge : (Try.prog.info? 44).map (fun i => (i.zero, i.size, i.bytes)) = some (some (.agg #[.int .i64 0, .int .i64 0]), 2, 16) := by kernel_rfl

theorem cell_old (w : World) (o : Obj) {b off : Nat} (hb : b < w.heap.size) : (w.alloc o).cell? ⟨b, off, none⟩ = w.cell? ⟨b, off, none⟩ := ((Below.refl w.heap.size w).alloc (Nat.le_refl _) o).cell hb
theorem frozen_old (w : World) (o : Obj) {b off : Nat} (hb : b < w.heap.size) : (w.alloc o).frozen? ⟨b, off, none⟩ = w.frozen? ⟨b, off, none⟩ := ((Below.refl w.heap.size w).alloc (Nat.le_refl _) o).frozen hb

section
variable {F : List Nat} {p : Nat} {v0 v1 : Value} {b2 b3 : Nat} {tx : List ByteArray} {mg : List (Int × Int)} {lg : Int} {w : World}

theorem TAt.pne0 (h : TAt F p v0 v1 b2 b3 tx mg lg w) : v0.ownBlock ≠ some p := by
  intro e
  rcases h.r0.2 with ⟨rfl, _⟩ | ⟨g, cap, cur, rfl, _, hg, _⟩
  · cases e
  · simp [Value.ownBlock] at e
    subst e
    rw [h.st] at hg
    simp at hg
theorem TAt.pne1 (h : TAt F p v0 v1 b2 b3 tx mg lg w) : v1.ownBlock ≠ some p := by
  intro e
  rcases h.r1.2 with ⟨rfl, _⟩ | ⟨g, cap, cur, rfl, _, hg, _⟩
  · cases e
  · simp [Value.ownBlock] at e
    subst e
    rw [h.st] at hg
    simp at hg
theorem TAt.ne01 (h : TAt F p v0 v1 b2 b3 tx mg lg w) : ∀ k, v0.ownBlock = some k → v1.ownBlock ≠ some k := by
  intro k e0 e1
  rcases h.r0.2 with ⟨rfl, _⟩ | ⟨g, cap, cur, rfl, _, hg, _⟩
  · cases e0
  rcases h.r1.2 with ⟨rfl, _⟩ | ⟨g1, cap1, cur1, rfl, _, hg1, _⟩
  · cases e1
  simp [Value.ownBlock] at e0 e1
  subst e0
  rw [e1, hg] at hg1
  simp at hg1
theorem TAt.pb2 (h : TAt F p v0 v1 b2 b3 tx mg lg w) : p ≠ b2 := by
  intro e
  obtain ⟨es, c, hm⟩ := h.m2.isMap
  rw [← e, h.st] at hm
  cases hm
theorem TAt.pb3 (h : TAt F p v0 v1 b2 b3 tx mg lg w) : p ≠ b3 := by
  intro e
  obtain ⟨es, c, hm⟩ := h.m3.isMap
  rw [← e, h.st] at hm
  cases hm
theorem row_ne_map {w : World} {B : Nat} {E : TypeId} {size n : Nat} {v : Value} {xs : List Value} (h : w.ownsRow B E size v n xs) {b : Nat} (hm : ∃ es c, w.heap[b]? = some (.map es c)) : v.ownBlock ≠ some b := by
  intro e
  obtain ⟨es, c, hm⟩ := hm
  rcases h.2 with ⟨rfl, _⟩ | ⟨g, cap, cur, rfl, _, hg, _⟩
  · cases e
  · simp [Value.ownBlock] at e
    subst e
    rw [hm] at hg
    cases hg

/-- What enter leaves: one text more. -/
theorem TAt.entered (h : TAt F p v0 v1 b2 b3 tx mg lg w) (s : ByteArray) (o : Obj) {g cap1 : Nat} {w1 : World} (hown : w1.ownsRow 0 9 1 (.slice (some ⟨g, 0, none⟩) (tx.length + 1) cap1) (tx.length + 1) (tx.map Value.string ++ [.string s])) (hgrow : (w.alloc o).grownBy w1 v0.ownBlock) (hat : v0.ownBlock = some g ∨ g = w.heap.size + 1)
    {w2 w3 : World} (hw2 : w2 = w1.setCell ⟨p, 0, none⟩ (.slice (some ⟨g, 0, none⟩) (tx.length + 1) cap1)) (hm2 : MapK Try.prog 9 3 0 w3 b2 (tx.map sk ++ [sk s])) (hg3 : w2.grownBy w3 (some b2)) (lg' : Int) :
    TAt (g :: F) p (.slice (some ⟨g, 0, none⟩) (tx.length + 1) cap1) v1 b2 b3 (tx ++ [s]) mg lg' (w3.setCell ⟨p, 4, none⟩ (.int .i64 lg')) ∧ FrL F w (w3.setCell ⟨p, 4, none⟩ (.int .i64 lg')) ∧ NwL w F (g :: F) := by
  have hlt := h.lt
  have hsz : (w.alloc o).heap.size = w.heap.size + 1 := by simp
  have hold : ∀ k, k < w.heap.size → (w.alloc o).heap[k]? = w.heap[k]? := fun k hk => Below.heap_alloc w o k hk
  have hF1 : FrL F w w1 := ⟨hgrow.os, hgrow.tape, hgrow.output, by have := hgrow.size; omega, fun k hk hF => (hgrow.block k (by omega) (fun e => hF (h.f0 k e.symm))).trans (hold k hk)⟩
  have hst1 : w1.heap[p]? = some (.cells #[v0, v1, .map (some b2), .map (some b3), .int .i64 lg] 70 (0, 0)) := ((hgrow.block p (by omega) (fun e => h.pne0 e.symm)).trans (hold p hlt)).trans h.st
  have hst2 : w2.heap[p]? = some (.cells #[.slice (some ⟨g, 0, none⟩) (tx.length + 1) cap1, v1, .map (some b2), .map (some b3), .int .i64 lg] 70 (0, 0)) := by
    rw [hw2, heap_setCell_same w1 p 0 _ _ _ hst1]; rfl
  have hF2 : FrL F w w2 := by rw [hw2]; exact hF1.set h.fp _
  have hst3 : w3.heap[p]? = some (.cells #[.slice (some ⟨g, 0, none⟩) (tx.length + 1) cap1, v1, .map (some b2), .map (some b3), .int .i64 lg] 70 (0, 0)) := (hg3.block p (by have := (Array.getElem?_eq_some_iff.1 hst2).1; exact this) (fun e => h.pb2 (Option.some.inj e))).trans hst2
  have hF3 : FrL F w w3 := hF2.trans' (FrL.ofGrown hg3 (fun k e => by cases e; exact h.f2))
  have hst4 : (w3.setCell ⟨p, 4, none⟩ (.int .i64 lg')).heap[p]? = some (.cells #[.slice (some ⟨g, 0, none⟩) (tx.length + 1) cap1, v1, .map (some b2), .map (some b3), .int .i64 lg'] 70 (0, 0)) := by
    rw [heap_setCell_same w3 p 4 _ _ _ hst3]; rfl
  have hF4 : FrL F w (w3.setCell ⟨p, 4, none⟩ (.int .i64 lg')) := hF3.set h.fp _
  have hgp : g ≠ p := by
    rcases hat with e | e
    · intro e2; exact h.pne0 (by rw [e, e2])
    · omega
  have hgb : g ≠ b2 := by
    rcases hat with e | e
    · intro e2; exact row_ne_map h.r0 h.m2.isMap (by rw [e, e2])
    · have := h.m2.lt; omega
  have hgl : g < w1.heap.size := (hown.lt g rfl).2
  have other : ∀ k, k < w.heap.size → k ≠ p → k ≠ b2 → v0.ownBlock ≠ some k → (w3.setCell ⟨p, 4, none⟩ (.int .i64 lg')).heap[k]? = w.heap[k]? := by
    intro k hk h1 h2 h3
    rw [heap_setCell_other _ _ _ _ h1, hg3.block k (by rw [hw2]; simp; have := hF1.size; omega) (by simpa using h2), hw2, heap_setCell_other _ _ _ _ h1, hgrow.block k (by omega) (fun e => h3 e.symm), hold k hk]
  refine ⟨⟨hst4, ?_, ?_, ?_, ?_, h.ne, List.mem_cons_of_mem _ h.fp, List.mem_cons_of_mem _ h.f2, List.mem_cons_of_mem _ h.f3, fun k e => ?_, fun k e => List.mem_cons_of_mem _ (h.f1 k e), ?_⟩, hF4, ?_⟩
  · have hl : (tx ++ [s]).length = tx.length + 1 := by simp
    rw [hl, List.map_append]
    rcases hown.2 with ⟨h0, _⟩ | ⟨g', cap', cur, hvv, hb, hg, rest⟩
    · cases h0
    · simp only [Value.slice.injEq, Option.some.injEq, Addr.mk.injEq, and_true, true_and] at hvv
      obtain ⟨rfl, rfl⟩ := hvv
      refine ⟨hown.1, .inr ⟨g, cap1, cur, rfl, hb, ?_, rest⟩⟩
      rw [heap_setCell_other _ _ _ _ hgp, hg3.block g (by rw [hw2]; simpa using hgl) (by simpa using hgb), hw2, heap_setCell_other _ _ _ _ hgp]
      exact hg
  · rcases h.r1.2 with hn | ⟨g1, c1, cur1, e1, hb, hg, rest⟩
    · exact ⟨h.r1.1, .inl hn⟩
    · subst e1
      have h1 := (h.r1.lt g1 rfl).2
      refine ⟨h.r1.1, .inr ⟨g1, c1, cur1, rfl, hb, ?_, rest⟩⟩
      rw [other g1 h1 (fun e => h.pne1 (by simp [Value.ownBlock, e])) (fun e => row_ne_map h.r1 h.m2.isMap (by simp [Value.ownBlock, e])) (fun e => h.ne01 g1 e rfl)]
      exact hg
  · rw [List.map_append]
    exact hm2.keep (heap_setCell_other _ _ _ _ (Ne.symm h.pb2))
  · refine h.m3.keep (other b3 h.m3.lt (Ne.symm h.pb3) (Ne.symm h.ne) (row_ne_map h.r0 h.m3.isMap))
  · simp [Value.ownBlock] at e
    rw [← e]; exact List.mem_cons_self ..
  · intro k hk
    rcases List.mem_cons.1 hk with rfl | hk
    · have := hg3.size; rw [hw2] at this; simp at this ⊢; omega
    · exact Nat.lt_of_lt_of_le (h.flt k hk) hF4.size
  · intro k hk
    rcases List.mem_cons.1 hk with rfl | hk
    · rcases hat with e | e
      · exact Or.inl (h.f0 _ e)
      · exact Or.inr (by omega)
    · exact Or.inl hk
end

end Go.Proofs.Ytadbffphmmkljaa
