/- Contracts of a heap of pairs: Push. -/
import Derived.Test.YtlfffalfnnmliaaHqF
namespace Go.Proofs.Ytlfffalfnnmliaa.Hq
open Go.RowKit Go.Proofs.Ytlfffalfnnmliaa
set_option linter.unusedVariables false
set_option linter.unusedSimpArgs false
attribute [local go_sem ↓] Go.wp_at_zero Go.wp_at_succ

set_option maxRecDepth 20000 in
set_option maxHeartbeats 4000000 in
theorem push_any (base p : Nat) (v : Value) (tn : Int) (l : List It) (w : World) (h : HAt 126 133 base p v tn l w) (hHp : Hp l) (hn : l.length ≤ 900000) (ht : 0 ≤ tn ∧ tn ≤ 1000000000) (r q : Int) (y1 y2 y3 y4 : Int) (hbase : base ≤ w.heap.size) :
    Calls Try.prog 65 #[.pointer (some ⟨p, 0, none⟩), .int .i64 r, .int .i64 q, .agg #[.int .i64 y1, .int .i64 y2, .int .i64 y3, .int .i64 y4]] w fun e w' => e = .returned (.tuple #[]) ∧ ∃ v' l', HAt 126 133 base p v' (tn + 1) l' w' ∧ Hp l' ∧ l'.Perm (⟨r, q, tn, y1, y2, y3, y4⟩ :: l) ∧ Fr p v w w' ∧ Nw w v v' := by
  have hl := low1 w (.cells #[.int .i64 y1, .int .i64 y2, .int .i64 y3, .int .i64 y4] 114)
  have hx : (w.alloc (.cells #[.int .i64 y1, .int .i64 y2, .int .i64 y3, .int .i64 y4] 114)).heap[w.heap.size]? = some (.cells #[.int .i64 y1, .int .i64 y2, .int .i64 y3, .int .i64 y4] 114 (0, 0)) := heap_alloc_new w _
  have hzz : w.heap.size < (w.alloc (.cells #[.int .i64 y1, .int .i64 y2, .int .i64 y3, .int .i64 y4] 114)).heap.size := by simp
  have h1 := h.kept hl
  clear h
  generalize hW0 : w.alloc (.cells #[.int .i64 y1, .int .i64 y2, .int .i64 y3, .int .i64 y4] 114) = w0 at *
  have bx0 : w0.cell? ⟨w.heap.size, 0, none⟩ = some (.int .i64 y1) := by simp [World.cell?, hx]
  have bx1 : w0.cell? ⟨w.heap.size, 1, none⟩ = some (.int .i64 y2) := by simp [World.cell?, hx]
  have bx2 : w0.cell? ⟨w.heap.size, 2, none⟩ = some (.int .i64 y3) := by simp [World.cell?, hx]
  have bx3 : w0.cell? ⟨w.heap.size, 3, none⟩ = some (.int .i64 y4) := by simp [World.cell?, hx]
  have hbase0 : base ≤ w0.heap.size := by omega
  obtain ⟨i0, hi, hz0, hz1, hz2⟩ := info_parts info_item
  obtain ⟨ao, cap, rfl, hv1, hv2, hv3, hv4⟩ := h1.form
  have hp0 := h1.cell0
  have hp1 := h1.cell1
  have hfp := h1.fr
  have hlt := h1.lt
  obtain ⟨n, hln⟩ : ∃ n, l.length = n := ⟨_, rfl⟩
  rw [hln] at hp0 h1 hn hv3 ⊢
  have hrow := h1.row
  rw [hln] at hrow
  have H := hide h1
  have HL := hide hln
  have hl4 : (It.cells ⟨r, q, tn, y1, y2, y3, y4⟩).length = 1 * 7 := rfl
  have hone4 : ∀ u ∈ It.cells ⟨r, q, tn, y1, y2, y3, y4⟩, u.oneCell' = true := by
    intro u hu
    simp only [It.cells, List.mem_cons, List.not_mem_nil, or_false] at hu
    rcases hu with rfl | rfl | rfl | rfl | rfl | rfl | rfl <;> rfl
  have hpne : some p ≠ (Value.slice ao n cap).ownBlock := fun e => H.out.ne e.symm
  have hq0 : w0.heap.size ≠ p := by omega
  have hq1 : p ≠ w0.heap.size := by omega
  clear h1 hln hv1 hv2 hx
  go_enter Try.func65, Try.ntmps65
  go_wp2
  clear hW0
  go_region_law ((refine step_append_lies _ (by rfl) _ _ _ (by rfl) base 133 i0 _ 7 56 Try.underlying124 hi hz0 hz1 hz2 (by rfl) (by omega) _ n (flat l) (by rfl) (by first | exact (hrow.alloc _).drew | exact hrow.drew.alloc _) _ 1 _ (It.cells ⟨r, q, tn, y1, y2, y3, y4⟩) (by rfl) hl4 (by first | exact World.news_of_block (heap_alloc_new w0 _) | exact World.news_of_block (heap_alloc_new w0.drew _)) hone4 (by omega) (by unfold maxLen; omega) (by omega) (by simp; omega) (w0.heap.size + 1) (by simp) ?_; intro g cap1 w1 hown1 hgrow hat hlt1; have hc1 : w1.cell? ⟨p, 0, none⟩ = some (.slice ao n cap) := (hgrow.cell_far ⟨p, 0, none⟩ (by simp; omega) hpne).trans (by first | exact (cell_old w0 _ hlt).trans hp0 | exact (cell_old w0.drew _ hlt).trans hp0); have hc2 : w1.cell? ⟨p, 1, none⟩ = some (.int .i64 tn) := (hgrow.cell_far ⟨p, 1, none⟩ (by simp; omega) hpne).trans (by first | exact (cell_old w0 _ hlt).trans hp1 | exact (cell_old w0.drew _ hlt).trans hp1); have hf1 : w1.frozen? ⟨p, 0, none⟩ = false := (hgrow.frozen_far ⟨p, 0, none⟩ (by simp; omega) hpne).trans (by first | exact (frozen_old w0 _ hlt).trans (hfp 0) | exact (frozen_old w0.drew _ hlt).trans (hfp 0)); have hf2 : w1.frozen? ⟨p, 1, none⟩ = false := (hgrow.frozen_far ⟨p, 1, none⟩ (by simp; omega) hpne).trans (by first | exact (frozen_old w0 _ hlt).trans (hfp 1) | exact (frozen_old w0.drew _ hlt).trans (hfp 1))))
  all_goals
    obtain ⟨hH1, hF1, hN1⟩ := H.out.pushed HL.out ⟨r, q, tn, y1, y2, y3, y4⟩ _ hown1 hgrow hat (tn + 1)
    have HRI := hHp.pushed ⟨r, q, tn, y1, y2, y3, y4⟩
    rw [HL.out] at HRI
    clear hown1 hgrow hat
    go_wp2_with fail
    refine (rise_any base p _ (tn + 1) (l ++ [⟨r, q, tn, y1, y2, y3, y4⟩]) _ hH1 n HRI (by simp [HL.out]; omega)).mono ?_
    rintro e w2 ⟨rfl, l', hH2, hHp2, hP2, hF2⟩
    go_wp2
    go_end0
    exact ⟨rfl, _, l', hH2, hHp2, hP2.trans List.perm_append_comm, (Fr.ofBelow hl).trans (Nw.refl _ _) (hF1.trans hN1 hF2), (Nw.refl w _).trans hl.size hN1⟩

end Go.Proofs.Ytlfffalfnnmliaa.Hq
