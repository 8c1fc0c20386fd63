/- Contract of package token: Add. -/
import Derived.Test.YtadbffphmmkljaaTkE
import Derived.BigRegion
import Derived.Deep.RegionLaw
import Derived.Deep.DrawnRows
namespace Go.Proofs.Ytadbffphmmkljaa
open Go.RowKit Go.Maps
set_option linter.unusedVariables false
set_option linter.unusedSimpArgs false
attribute [local go_sem ↓] Go.wp_at_zero Go.wp_at_succ

section
variable {F : List Nat} {p : Nat} {v0 v1 : Value} {b2 b3 : Nat} {tx : List ByteArray} {mg : List (Int × Int)} {lg : Int} {w : World}

/-- What is left of Add behind enter: the merge, too. -/
theorem TAt.merged (h : TAt F p v0 v1 b2 b3 tx mg lg w) (m : Int × Int) (o : Obj) {g cap1 : Nat} {w1 : World} (hown : w1.ownsRow 0 44 2 (.slice (some ⟨g, 0, none⟩) (mg.length + 1) cap1) (mg.length + 1) (fl2 mg ++ fl2 [m])) (hgrow : (w.alloc o).drew.grownBy w1 v1.ownBlock) (hat : v1.ownBlock = some g ∨ g = w.heap.size + 1)
    {w2 w3 : World} (hw2 : w2 = (w1.setCell ⟨p, 1, none⟩ (.slice (some ⟨g, 0, none⟩) (mg.length + 1) cap1)).drew) (hm3 : MapK Try.prog 44 3 256 w3 b3 (mg.map kp ++ [kp m])) (hg3 : w2.grownBy w3 (some b3)) :
    TAt (g :: F) p v0 (.slice (some ⟨g, 0, none⟩) (mg.length + 1) cap1) b2 b3 tx (mg ++ [m]) lg w3 ∧ FrL F w w3 ∧ NwL w F (g :: F) := by
  have hlt := h.lt
  have hsz : (w.alloc o).drew.heap.size = w.heap.size + 1 := by simp
  have hold : ∀ k, k < w.heap.size → (w.alloc o).drew.heap[k]? = w.heap[k]? := fun k hk => Below.heap_alloc w o k hk
  have hF1 : FrL F w w1 := ⟨hgrow.os, hgrow.tape, hgrow.output, by have := hgrow.size; omega, fun k hk hF => (hgrow.block k (by omega) (fun e => hF (h.f1 k e.symm))).trans (hold k hk)⟩
  have hst1 : w1.heap[p]? = some (.cells #[v0, v1, .map (some b2), .map (some b3), .int .i64 lg] 70 (0, 0)) := ((hgrow.block p (by omega) (fun e => h.pne1 e.symm)).trans (hold p hlt)).trans h.st
  have hst2 : w2.heap[p]? = some (.cells #[v0, .slice (some ⟨g, 0, none⟩) (mg.length + 1) cap1, .map (some b2), .map (some b3), .int .i64 lg] 70 (0, 0)) := by
    rw [hw2]
    show (w1.setCell ⟨p, 1, none⟩ _).heap[p]? = _
    rw [heap_setCell_same w1 p 1 _ _ _ hst1]; rfl
  have hF2 : FrL F w w2 := by rw [hw2]; exact (hF1.set h.fp _).drew
  have hst3 : w3.heap[p]? = some (.cells #[v0, .slice (some ⟨g, 0, none⟩) (mg.length + 1) cap1, .map (some b2), .map (some b3), .int .i64 lg] 70 (0, 0)) := (hg3.block p (by have := (Array.getElem?_eq_some_iff.1 hst2).1; exact this) (fun e => h.pb3 (Option.some.inj e))).trans hst2
  have hF3 : FrL F w w3 := hF2.trans' (FrL.ofGrown hg3 (fun k e => by cases e; exact h.f3))
  have hgp : g ≠ p := by
    rcases hat with e | e
    · intro e2; exact h.pne1 (by rw [e, e2])
    · omega
  have hgb : g ≠ b3 := by
    rcases hat with e | e
    · intro e2; exact row_ne_map h.r1 h.m3.isMap (by rw [e, e2])
    · have := h.m3.lt; omega
  have hgl : g < w1.heap.size := (hown.lt g rfl).2
  have hz2 : w2.heap.size = w1.heap.size := by rw [hw2]; simp
  have two : ∀ k, k ≠ p → w2.heap[k]? = w1.heap[k]? := by
    intro k hk
    rw [hw2]
    show (w1.setCell ⟨p, 1, none⟩ _).heap[k]? = _
    exact heap_setCell_other _ _ _ _ hk
  have other : ∀ k, k < w.heap.size → k ≠ p → k ≠ b3 → v1.ownBlock ≠ some k → w3.heap[k]? = w.heap[k]? := by
    intro k hk h1 h2 h3
    rw [hg3.block k (by rw [hz2]; have := hF1.size; omega) (by simpa using h2), two k h1, hgrow.block k (by omega) (fun e => h3 e.symm), hold k hk]
  refine ⟨⟨hst3, ?_, ?_, ?_, ?_, h.ne, List.mem_cons_of_mem _ h.fp, List.mem_cons_of_mem _ h.f2, List.mem_cons_of_mem _ h.f3, fun k e => List.mem_cons_of_mem _ (h.f0 k e), fun k e => ?_, ?_⟩, hF3, ?_⟩
  · rcases h.r0.2 with hn | ⟨g1, c1, cur1, e1, hb, hg, rest⟩
    · exact ⟨h.r0.1, .inl hn⟩
    · subst e1
      have h1 := (h.r0.lt g1 rfl).2
      refine ⟨h.r0.1, .inr ⟨g1, c1, cur1, rfl, hb, ?_, rest⟩⟩
      rw [other g1 h1 (fun e => h.pne0 (by simp [Value.ownBlock, e])) (fun e => row_ne_map h.r0 h.m3.isMap (by simp [Value.ownBlock, e])) (fun e => h.ne01 g1 rfl e)]
      exact hg
  · have hl : (mg ++ [m]).length = mg.length + 1 := by simp
    rw [hl, fl2_append]
    rcases hown.2 with ⟨h0, _⟩ | ⟨g', cap', cur, hvv, hb, hg, rest⟩
    · cases h0
    · simp only [Value.slice.injEq, Option.some.injEq, Addr.mk.injEq, and_true, true_and] at hvv
      obtain ⟨rfl, rfl⟩ := hvv
      refine ⟨hown.1, .inr ⟨g, cap1, cur, rfl, hb, ?_, rest⟩⟩
      rw [hg3.block g (by rw [hz2]; exact hgl) (by simpa using hgb), two g hgp]
      exact hg
  · exact h.m2.keep (other b2 h.m2.lt (Ne.symm h.pb2) h.ne (row_ne_map h.r1 h.m2.isMap))
  · rw [List.map_append]
    exact hm3
  · simp [Value.ownBlock] at e
    rw [← e]; exact List.mem_cons_self ..
  · intro k hk
    rcases List.mem_cons.1 hk with rfl | hk
    · have := hg3.size; omega
    · exact Nat.lt_of_lt_of_le (h.flt k hk) hF3.size
  · intro k hk
    rcases List.mem_cons.1 hk with rfl | hk
    · rcases hat with e | e
      · exact Or.inl (h.f1 _ e)
      · exact Or.inr (by omega)
    · exact Or.inl hk

theorem TAt.merge_map (h : TAt F p v0 v1 b2 b3 tx mg lg w) (g cap1 : Nat) {o : Obj} {w1 : World} (hgrow : (w.alloc o).drew.grownBy w1 v1.ownBlock) : MapK Try.prog 44 3 256 (w1.setCell ⟨p, 1, none⟩ (.slice (some ⟨g, 0, none⟩) (mg.length + 1) cap1)).drew b3 (mg.map kp) ∧ (w1.setCell ⟨p, 1, none⟩ (.slice (some ⟨g, 0, none⟩) (mg.length + 1) cap1)).cell? ⟨p, 3, none⟩ = some (.map (some b3)) := by
  have hlt := h.m3.lt
  have hpl := h.lt
  constructor
  · refine h.m3.keep ?_
    show (w1.setCell ⟨p, 1, none⟩ _).heap[b3]? = _
    rw [heap_setCell_other _ _ _ _ (Ne.symm h.pb3), hgrow.block b3 (by simp; omega) (fun e => row_ne_map h.r1 h.m3.isMap e.symm)]
    exact Below.heap_alloc w o b3 hlt
  · have hst1 : w1.heap[p]? = some (.cells #[v0, v1, .map (some b2), .map (some b3), .int .i64 lg] 70 (0, 0)) := ((hgrow.block p (by simp; omega) (fun e => h.pne1 e.symm)).trans (Below.heap_alloc w o p hpl)).trans h.st
    have hst2 := heap_setCell_same w1 p 1 _ _ (.slice (some ⟨g, 0, none⟩) (mg.length + 1) cap1) hst1
    simp [World.cell?, hst2]
end

end Go.Proofs.Ytadbffphmmkljaa
