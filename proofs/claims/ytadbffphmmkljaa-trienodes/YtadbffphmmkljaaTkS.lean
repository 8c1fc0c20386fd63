/- Contracts of the document's answer for tokens: Begin. -/
import Derived.Test.YtadbffphmmkljaaTkR
import Derived.Deep.Onto
namespace Go.Proofs.Ytadbffphmmkljaa
open Go.RowKit Go.Maps
set_option linter.unusedVariables false
set_option linter.unusedSimpArgs false
attribute [local go_sem ↓] Go.wp_at_zero Go.wp_at_succ

set_option maxRecDepth 20000 in
set_option maxHeartbeats 2000000 in
theorem rbegin_any (w : World) :
    Calls Try.prog 20 #[] w fun e w' => (∃ vb, e = .returned (.agg #[vb, .slice none 0 0]) ∧ RT vb (.slice none 0 0) (tb 256) [] w' ∧ (∀ k, vb.ownBlock = some k → w.heap.size ≤ k)) ∧ Below w.heap.size w w' := by
  obtain ⟨i0, hi, hz0, hz1, hz2⟩ := info_parts info_string
  go_enter Try.func20, Try.ntmps20
  go_wp2
  go_loopw [2] (fun i wr => ∃ (j : Nat) (vb : Value), i = .int .i64 j ∧ j ≤ 256 ∧ wr.heap[w.heap.size + 1]? = some (.cells #[vb, .slice none 0 0] 27 (0, 0)) ∧ wr.heap[w.heap.size]? = some (.cells #[.slice none 0 0, .slice none 0 0] 27 (0, 0)) ∧ wr.ownsRow (w.heap.size + 2) 9 1 vb j ((tb j).map Value.string) ∧ Below w.heap.size w wr) (fun i _ => 256 - (intOf i).toNat)
  case atStart =>
    refine ⟨0, .slice none 0 0, rfl, by omega, ?_, ?_, World.ownsRow_nil _ _ _ _, ((Below.refl _ _).alloc (Nat.le_refl _) _).alloc (by simp) _⟩
    · have := heap_alloc_new (w.alloc (.cells #[.slice none 0 0, .slice none 0 0] 27)) (.cells #[.slice none 0 0, .slice none 0 0] 27)
      simpa using this
    · rw [Below.heap_alloc _ _ _ (by simp)]
      exact heap_alloc_new w _
  case round =>
    obtain ⟨j, vb, rfl, hj, hst, hst0, hrow, hB⟩ := hrel
    by_cases hlt : j < 256
    · obtain ⟨ao, cap, rfl⟩ := row_form hrow
      have hpl : w.heap.size + 1 < wr.heap.size := (Array.getElem?_eq_some_iff.1 hst).1
      have hj0 : (0 : Int) ≤ (j : Int) := by omega
      have hj1 : (j : Int) < 256 := by omega
      have hcv := conv_one wr j
      have c0 : wr.cell? ⟨w.heap.size + 1, 0, none⟩ = some (.slice ao j cap) := by simp [World.cell?, hst]
      have hrow1 := hrow.alloc (.cells #[.int .u8 j] 5)
      have hnb : ((wr.alloc (.cells #[.int .u8 j] 5)).alloc (.cells #[.string (one j)] 9)).heap[wr.heap.size + 1]? = some (.cells #[.string (one j)] 9 (0, 0)) := by
        have := heap_alloc_new (wr.alloc (.cells #[.int .u8 j] 5)) (.cells #[.string (one j)] 9)
        have e1 : (wr.alloc (.cells #[.int .u8 j] 5)).heap.size = wr.heap.size + 1 := by simp
        rw [e1] at this
        exact this
      have HNB := hide hnb
      clear hnb
      obtain ⟨g, cap1, w1, hrun, hown1, hgrow, hat1, hlt1⟩ := run_append_lies (P := Try.prog) ((wr.alloc (.cells #[.int .u8 j] 5)).alloc (.cells #[.string (one j)] 9)) 24 24 (w.heap.size + 2) 9 i0 _ 1 16 Try.underlying24 hi hz0 hz1 hz2 rfl (by omega) (.slice ao j cap) j ((tb j).map Value.string) (hrow1.alloc _) ⟨wr.heap.size + 1, 0, none⟩ 1 1 [.string (one j)] rfl (World.news_of_block HNB.out) (by simp [Value.oneCell']) (by omega) (by unfold maxLen; omega) (by omega) (by simp; omega) (wr.heap.size + 1 + 1) (by simp)
      have hst1 : w1.heap[w.heap.size + 1]? = some (.cells #[.slice ao j cap, .slice none 0 0] 27 (0, 0)) := (hgrow.block _ (by simp; omega) (fun e => by have := (hrow.lt _ e.symm).1; omega)).trans ((Below.heap_alloc _ _ _ (by simp; omega)).trans ((Below.heap_alloc _ _ _ hpl).trans hst))
      have c1 : w1.cell? ⟨w.heap.size + 1, 0, none⟩ = some (.slice ao j cap) := by simp [World.cell?, hst1]
      have f1 : w1.frozen? ⟨w.heap.size + 1, 0, none⟩ = false := by simp [World.frozen?, hst1]
      have HR := hide hrun
      clear hrun
      go_wp2_with (at_builtin; refine Lib.wpList_append_run _ rfl _ _ _ _ rfl _ _ rfl rfl _ _ HR.out ?_)
      refine ⟨⟨j + 1, .slice (some ⟨g, 0, none⟩) (j + 1) cap1, by go_num, by omega, ?_, ?_, ?_, ?_⟩, by simp [intOf]; omega⟩
      · rw [heap_setCell_same w1 (w.heap.size + 1) 0 _ _ _ hst1]
        rfl
      · rw [heap_setCell_other _ _ _ _ (by simp)]
        exact (hgrow.block _ (by simp; omega) (fun e => by have := (hrow.lt _ e.symm).1; omega)).trans ((Below.heap_alloc _ _ _ (by simp; omega)).trans ((Below.heap_alloc _ _ _ (by omega)).trans hst0))
      · rw [tb_succ, List.map_append]
        exact ownsRow_setCell_below hown1 (by simp) _
      · have h1 : Below w.heap.size w ((wr.alloc (.cells #[.int .u8 j] 5)).alloc (.cells #[.string (one j)] 9)) := (hB.alloc hB.size _).alloc (by simp; omega) _
        exact (h1.trans ⟨hgrow.os, hgrow.tape, hgrow.output, hgrow.size, fun k hk => hgrow.block k (by simp; omega) (fun e => by have := (hrow.lt k e.symm).1; omega)⟩).setCell (by simp) _
    · obtain rfl : j = 256 := by omega
      have c0 : wr.cell? ⟨w.heap.size + 1, 0, none⟩ = some vb := by simp [World.cell?, hst]
      have c1 : wr.cell? ⟨w.heap.size + 1, 1, none⟩ = some (.slice none 0 0) := by simp [World.cell?, hst]
      have d0 : wr.cell? ⟨w.heap.size, 0, none⟩ = some (.slice none 0 0) := by simp [World.cell?, hst0]
      have d1 : wr.cell? ⟨w.heap.size, 1, none⟩ = some (.slice none 0 0) := by simp [World.cell?, hst0]
      have df : ∀ o, wr.frozen? ⟨w.heap.size, o, none⟩ = false := by intro o; simp [World.frozen?, hst0]
      obtain ⟨ao, cap, rfl⟩ := row_form hrow
      go_wp2
      (try simp only [Exit.inBlock, Exit.then])
      refine bodyPost_ret (v := .agg #[.slice ao 256 cap, .slice none 0 0]) (by simp [results, Try.results20, go_sem, d0, d1]) rfl ?_
      refine ⟨⟨_, rfl, ⟨?_, World.ownsRow_nil _ _ _ _, fun _ => rfl⟩, fun k e => by have := (hrow.lt k e).1; omega⟩, (hB.setCell (Nat.le_refl _) _).setCell (Nat.le_refl _) _⟩
      have h1 := ownsRow_setCell_below (ownsRow_setCell_below hrow (a := ⟨w.heap.size, 0, none⟩) (by simp) (.slice ao 256 cap)) (a := ⟨w.heap.size, 1, none⟩) (by simp) (.slice none 0 0)
      rw [tb_len]
      exact World.ownsRow.mono h1 (by omega)

end Go.Proofs.Ytadbffphmmkljaa
