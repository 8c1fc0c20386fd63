/- Contract of package token: Add: a token more. -/
import Derived.Test.YtadbffphmmkljaaTkG
namespace Go.Proofs.Ytadbffphmmkljaa
open Go.RowKit Go.Maps
set_option linter.unusedVariables false
set_option linter.unusedSimpArgs false
attribute [local go_sem ↓] Go.wp_at_zero Go.wp_at_succ

section
variable {F : List Nat} {p : Nat} {v0 v1 : Value} {b2 b3 : Nat} {tx : List ByteArray} {mg : List (Int × Int)} {lg : Int} {w : World}

set_option maxRecDepth 20000 in
set_option maxHeartbeats 8000000 in
theorem add_ok (h : TAt F p v0 v1 b2 b3 tx mg lg w) (i j : Nat) (hi : i < tx.length) (hj : j < tx.length) (hzi : (gs tx i).size ≤ 64) (hzj : (gs tx j).size ≤ 64) (s : ByteArray) (hs : gs tx i ++ gs tx j = s) (hl : s.size ≤ 64) (hf : tx.length < 1000) (hn : s ∉ tx)
    (hlen : tx.length = 256 + mg.length) (hg : ∀ x ∈ mg, wfM x) (hnm : ((i : Int), (j : Int)) ∉ mg) (hlg : 0 ≤ lg ∧ lg ≤ 1000) (lg' : Int) (hlg' : lg' = if lg ≤ s.size then (s.size : Int) else lg) :
    Calls Try.prog 18 #[.pointer (some ⟨p, 0, none⟩), .agg #[.int .i64 i, .int .i64 j]] w fun e w' => e = .returned (two tx.length 0) ∧ ∃ F' v0' v1', TAt F' p v0' v1' b2 b3 (tx ++ [s]) (mg ++ [((i : Int), (j : Int))]) lg' w' ∧ FrL F w w' ∧ NwL w F F' := by
  have hlow := low1 w (.cells #[.int .i64 i, .int .i64 j] 44)
  have hT := h.keptB hlow
  have HT := hide hT
  obtain ⟨ao0, cap0, hv0⟩ := row_form hT.r0
  have hc0 := hT.cells.1
  rw [hv0] at hc0
  have hlt := h.lt
  have hbF : w.heap.size ∉ F := fun e => by have := h.flt _ e; omega
  have hbox : (w.alloc (.cells #[.int .i64 i, .int .i64 j] 44)).heap[w.heap.size]? = some (.cells #[.int .i64 i, .int .i64 j] 44 (0, 0)) := heap_alloc_new w _
  have HEN := hide (enter_any hT s (by omega) hn (by omega) hlg lg' hlg')
  have hl2 : ¬ (64 : Int) < (s.size : Int) := by omega
  have hf2 : ¬ (1000 : Int) ≤ (tx.length : Int) := by omega
  have HLEN := hide hlen
  have HLG := hide hlg'
  have hwm : wfM ((i : Int), (j : Int)) := ⟨WalkArith.wf_i64 (by omega), WalkArith.wf_i64 (by omega)⟩
  have hkn : kp ((i : Int), (j : Int)) ∉ mg.map kp := fun e => hnm (kp_mem hwm hg e)
  obtain ⟨i0, hii, hz0, hz1, hz2⟩ := info_parts info_merge
  clear hT hlen hlg' hnm
  go_enter Try.func18, Try.ntmps18
  go_wp2_with fail
  refine (tbytes_any HT.out i hi).mono ?_
  rintro e w1 ⟨rfl, hw⟩
  subst hw
  go_wp2_with fail
  refine (tbytes_any HT.out j hj).mono ?_
  rintro e w1 ⟨rfl, hw⟩
  subst hw
  go_wp2_with fail
  refine (tfind_none HT.out s (by unfold maxLen; omega) hn).mono ?_
  rintro e w1 ⟨rfl, hw⟩
  subst hw
  go_wp2_with fail
  refine (unhide HEN).mono ?_
  rintro e w2 ⟨rfl, F2, v2, hT2, hFr2, hN2⟩
  have hbox2 : w2.heap[w.heap.size]? = some (.cells #[.int .i64 i, .int .i64 j] 44 (0, 0)) := (hFr2.block _ (by simp) hbF).trans hbox
  have bc0 : w2.cell? ⟨w.heap.size, 0, none⟩ = some (.int .i64 i) := by simp [World.cell?, hbox2]
  have bc1 : w2.cell? ⟨w.heap.size, 1, none⟩ = some (.int .i64 j) := by simp [World.cell?, hbox2]
  obtain ⟨ao1, cap1', hv1⟩ := row_form hT2.r1
  subst hv1
  have hr1 := hT2.r1
  have tc1 := hT2.cells.2.1
  have tc3 := hT2.cells.2.2.2.1
  have tfp := hT2.fr
  have tlt := hT2.lt
  have hbz2 : w.heap.size < w2.heap.size := by have := hFr2.size; simp at this; omega
  have hpne1 : some p ≠ (Value.slice ao1 mg.length cap1').ownBlock := fun e => hT2.pne1 e.symm
  have hbne1 : some w.heap.size ≠ (Value.slice ao1 mg.length cap1').ownBlock := fun e => hbF ((HT.out.f1 w.heap.size (by first | exact e.symm | skip)))
  have hpb : p ≠ w.heap.size := by omega
  have hbp : w.heap.size ≠ p := by omega
  have HT2 := hide hT2
  clear hT2 hbox hbox2
  go_wp2
  go_region_law ((refine step_append_lies _ (by rfl) _ _ _ (by rfl) 0 44 i0 _ 2 16 Try.underlying25 hii hz0 hz1 hz2 (by rfl) (by omega) _ mg.length (fl2 mg) (by rfl) (by first | exact (hr1.alloc _).drew | exact hr1.drew.alloc _) _ 1 _ (fl2 [((i : Int), (j : Int))]) (by rfl) (by rfl) (by first | exact World.news_of_block (heap_alloc_new w2 _) | exact World.news_of_block (heap_alloc_new w2.drew _)) (fl2_one _) (by omega) (by unfold maxLen; have := HLEN.out; omega) (by have := HLEN.out; omega) (by omega) (w2.heap.size + 1) (by simp) ?_; intro g cap1 w3 hown hgrow hat hlt3; have e1 : w3.cell? ⟨p, 1, none⟩ = some (.slice ao1 mg.length cap1') := (hgrow.cell_far ⟨p, 1, none⟩ (by simp; omega) hpne1).trans (by first | exact (cell_old w2 _ tlt).trans tc1 | exact (cell_old w2.drew _ tlt).trans tc1); have ef : w3.frozen? ⟨p, 1, none⟩ = false := (hgrow.frozen_far ⟨p, 1, none⟩ (by simp; omega) hpne1).trans (by first | exact (frozen_old w2 _ tlt).trans (tfp 1) | exact (frozen_old w2.drew _ tlt).trans (tfp 1))))
  all_goals
    have hgrow' : (w2.alloc (.cells #[.int .i64 i, .int .i64 j] 44)).drew.grownBy w3 (Value.slice ao1 mg.length cap1').ownBlock := hgrow
    have hat' : (Value.slice ao1 mg.length cap1').ownBlock = some g ∨ g = w2.heap.size + 1 := hat
    clear hgrow hat
    obtain ⟨hmk, hc3⟩ := HT2.out.merge_map g cap1 hgrow'
    obtain ⟨w5, hrun, hm5, hg5⟩ := hmk.put keyM Try.underlying68 Try.underlying3 (kp_key hwm) hkn (by rw [List.length_map]; unfold maxLen; have := HLEN.out; omega) (v := (tx.length : Int)) (by rw [List.length_map, HLEN.out]; omega) (WalkArith.wf_i64 (by omega))
    unfold mv at hrun
    have b0 : w3.cell? ⟨w.heap.size, 0, none⟩ = some (.int .i64 i) := (hgrow'.cell_far ⟨w.heap.size, 0, none⟩ (by simp; omega) hbne1).trans ((cell_old w2 _ hbz2).trans bc0)
    have b1 : w3.cell? ⟨w.heap.size, 1, none⟩ = some (.int .i64 j) := (hgrow'.cell_far ⟨w.heap.size, 1, none⟩ (by simp; omega) hbne1).trans ((cell_old w2 _ hbz2).trans bc1)
    obtain ⟨hTf, hFf, hNf⟩ := HT2.out.merged ((i : Int), (j : Int)) _ hown hgrow' hat' rfl hm5 hg5
    have HTF := hide hTf
    have HFF := hide hFf
    have HNF := hide hNf
    clear hTf hFf hNf hm5 hg5 hmk hown hgrow' hat'
    go_wp2
    go_region
    all_goals
      go_wp2
      (try simp only [Exit.inBlock, Exit.then])
      refine bodyPost_ret (v := two tx.length 0) (by simp [two, results, Try.results18, go_sem]) rfl ?_
      have hN0 : NwL w F F2 := by
        intro k hk
        rcases hN2 k hk with h1 | h1
        · exact Or.inl h1
        · exact Or.inr (by simp at h1; omega)
      have hz0 : w.heap.size ≤ w2.heap.size := by omega
      first
      | exact ⟨rfl, _, _, _, HTF.out, ((FrL.ofBelow hlow).trans' hFr2).trans hN0 HFF.out, hN0.trans hz0 HNF.out⟩
      | exact ⟨rfl, _, ⟨_, _, HTF.out⟩, ((FrL.ofBelow hlow).trans' hFr2).trans hN0 HFF.out, hN0.trans hz0 HNF.out⟩
end

end Go.Proofs.Ytadbffphmmkljaa
