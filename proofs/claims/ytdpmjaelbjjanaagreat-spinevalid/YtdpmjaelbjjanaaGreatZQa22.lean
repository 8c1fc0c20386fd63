/- Contracts of the document's answer for tokens: Begin. Contracts of the document's answer for tokens: Add. -/
import Derived.Test.YtdpmjaelbjjanaaGreatZQa21
import Derived.Deep.Onto
import Derived.BigRegion
import Derived.Deep.RegionLaw
namespace Go.Proofs.YtdpmjaelbjjanaaGreat
open Go.RowKit Go.Maps
set_option linter.unusedVariables false
set_option linter.unusedSimpArgs false
attribute [local go_sem ↓] Go.wp_at_zero Go.wp_at_succ

set_option maxRecDepth 20000 in
set_option maxHeartbeats 2000000 in
theorem rbegin_any (w : World) :
    Calls Tryz.prog 45 #[] w fun e w' => (∃ vb, e = .returned (.agg #[vb, .slice none 0 0]) ∧ RT vb (.slice none 0 0) (tb 256) [] w' ∧ (∀ k, vb.ownBlock = some k → w.heap.size ≤ k)) ∧ Below w.heap.size w w' := by
  obtain ⟨i0, hi, hz0, hz1, hz2⟩ := info_parts info_string
  go_enter Tryz.func45, Tryz.ntmps45
  go_wp2
  go_loopw [2] (fun i wr => ∃ (j : Nat) (vb : Value), i = .int .i64 j ∧ j ≤ 256 ∧ wr.heap[w.heap.size + 1]? = some (.cells #[vb, .slice none 0 0] 34 (0, 0)) ∧ wr.heap[w.heap.size]? = some (.cells #[.slice none 0 0, .slice none 0 0] 34 (0, 0)) ∧ wr.ownsRow (w.heap.size + 2) 9 1 vb j ((tb j).map Value.string) ∧ Below w.heap.size w wr) (fun i _ => 256 - (intOf i).toNat)
  case atStart =>
    refine ⟨0, .slice none 0 0, rfl, by omega, ?_, ?_, World.ownsRow_nil _ _ _ _, ((Below.refl _ _).alloc (Nat.le_refl _) _).alloc (by simp) _⟩
    · have := heap_alloc_new (w.alloc (.cells #[.slice none 0 0, .slice none 0 0] 34)) (.cells #[.slice none 0 0, .slice none 0 0] 34)
      simpa using this
    · rw [Below.heap_alloc _ _ _ (by simp)]
      exact heap_alloc_new w _
  case round =>
    obtain ⟨j, vb, rfl, hj, hst, hst0, hrow, hB⟩ := hrel
    by_cases hlt : j < 256
    · obtain ⟨ao, cap, rfl⟩ := row_form hrow
      have hpl : w.heap.size + 1 < wr.heap.size := (Array.getElem?_eq_some_iff.1 hst).1
      have hj0 : (0 : Int) ≤ (j : Int) := by omega
      have hj1 : (j : Int) < 256 := by omega
      have hcv := conv_one wr j
      have c0 : wr.cell? ⟨w.heap.size + 1, 0, none⟩ = some (.slice ao j cap) := by simp [World.cell?, hst]
      have hrow1 := hrow.alloc (.cells #[.int .u8 j] 5)
      have hnb : ((wr.alloc (.cells #[.int .u8 j] 5)).alloc (.cells #[.string (one j)] 9)).heap[wr.heap.size + 1]? = some (.cells #[.string (one j)] 9 (0, 0)) := by
        have := heap_alloc_new (wr.alloc (.cells #[.int .u8 j] 5)) (.cells #[.string (one j)] 9)
        have e1 : (wr.alloc (.cells #[.int .u8 j] 5)).heap.size = wr.heap.size + 1 := by simp
        rw [e1] at this
        exact this
      have HNB := hide hnb
      clear hnb
      obtain ⟨g, cap1, w1, hrun, hown1, hgrow, hat1, hlt1⟩ := run_append_lies (P := Tryz.prog) ((wr.alloc (.cells #[.int .u8 j] 5)).alloc (.cells #[.string (one j)] 9)) 31 31 (w.heap.size + 2) 9 i0 _ 1 16 Tryz.underlying31 hi hz0 hz1 hz2 rfl (by omega) (.slice ao j cap) j ((tb j).map Value.string) (hrow1.alloc _) ⟨wr.heap.size + 1, 0, none⟩ 1 1 [.string (one j)] rfl (World.news_of_block HNB.out) (by simp [Value.oneCell']) (by omega) (by unfold maxLen; omega) (by omega) (by simp; omega) (wr.heap.size + 1 + 1) (by simp)
      have hst1 : w1.heap[w.heap.size + 1]? = some (.cells #[.slice ao j cap, .slice none 0 0] 34 (0, 0)) := (hgrow.block _ (by simp; omega) (fun e => by have := (hrow.lt _ e.symm).1; omega)).trans ((Below.heap_alloc _ _ _ (by simp; omega)).trans ((Below.heap_alloc _ _ _ hpl).trans hst))
      have c1 : w1.cell? ⟨w.heap.size + 1, 0, none⟩ = some (.slice ao j cap) := by simp [World.cell?, hst1]
      have f1 : w1.frozen? ⟨w.heap.size + 1, 0, none⟩ = false := by simp [World.frozen?, hst1]
      have HR := hide hrun
      clear hrun
      go_wp2_with (at_builtin; refine Lib.wpList_append_run _ rfl _ _ _ _ rfl _ _ rfl rfl _ _ HR.out ?_)
      refine ⟨⟨j + 1, .slice (some ⟨g, 0, none⟩) (j + 1) cap1, by go_num, by omega, ?_, ?_, ?_, ?_⟩, by simp [intOf]; omega⟩
      · rw [heap_setCell_same w1 (w.heap.size + 1) 0 _ _ _ hst1]
        rfl
      · rw [heap_setCell_other _ _ _ _ (by simp)]
        exact (hgrow.block _ (by simp; omega) (fun e => by have := (hrow.lt _ e.symm).1; omega)).trans ((Below.heap_alloc _ _ _ (by simp; omega)).trans ((Below.heap_alloc _ _ _ (by omega)).trans hst0))
      · rw [tb_succ, List.map_append]
        exact ownsRow_setCell_below hown1 (by simp) _
      · have h1 : Below w.heap.size w ((wr.alloc (.cells #[.int .u8 j] 5)).alloc (.cells #[.string (one j)] 9)) := (hB.alloc hB.size _).alloc (by simp; omega) _
        exact (h1.trans ⟨hgrow.os, hgrow.tape, hgrow.output, hgrow.size, fun k hk => hgrow.block k (by simp; omega) (fun e => by have := (hrow.lt k e.symm).1; omega)⟩).setCell (by simp) _
    · obtain rfl : j = 256 := by omega
      have c0 : wr.cell? ⟨w.heap.size + 1, 0, none⟩ = some vb := by simp [World.cell?, hst]
      have c1 : wr.cell? ⟨w.heap.size + 1, 1, none⟩ = some (.slice none 0 0) := by simp [World.cell?, hst]
      have d0 : wr.cell? ⟨w.heap.size, 0, none⟩ = some (.slice none 0 0) := by simp [World.cell?, hst0]
      have d1 : wr.cell? ⟨w.heap.size, 1, none⟩ = some (.slice none 0 0) := by simp [World.cell?, hst0]
      have df : ∀ o, wr.frozen? ⟨w.heap.size, o, none⟩ = false := by intro o; simp [World.frozen?, hst0]
      obtain ⟨ao, cap, rfl⟩ := row_form hrow
      go_wp2
      (try simp only [Exit.inBlock, Exit.then])
      refine bodyPost_ret (v := .agg #[.slice ao 256 cap, .slice none 0 0]) (by simp [results, Tryz.results45, go_sem, d0, d1]) rfl ?_
      refine ⟨⟨_, rfl, ⟨?_, World.ownsRow_nil _ _ _ _, fun _ => rfl⟩, fun k e => by have := (hrow.lt k e).1; omega⟩, (hB.setCell (Nat.le_refl _) _).setCell (Nat.le_refl _) _⟩
      have h1 := ownsRow_setCell_below (ownsRow_setCell_below hrow (a := ⟨w.heap.size, 0, none⟩) (by simp) (.slice ao 256 cap)) (a := ⟨w.heap.size, 1, none⟩) (by simp) (.slice none 0 0)
      rw [tb_len]
      exact World.ownsRow.mono h1 (by omega)

end Go.Proofs.YtdpmjaelbjjanaaGreat

namespace Go.Proofs.YtdpmjaelbjjanaaGreat
open Go.RowKit Go.Maps
set_option linter.unusedVariables false
set_option linter.unusedSimpArgs false
attribute [local go_sem ↓] Go.wp_at_zero Go.wp_at_succ

/-- The boxes that Add lays first: the table, the merge, the answer's room. -/
structure Bx (n : Nat) (vb vm : Value) (m : Int × Int) (W : World) : Prop where
  b0 : W.heap[n]? = some (.cells #[vb, vm] 34 (0, 0))
  b1 : W.heap[n + 1]? = some (.cells #[.int .i64 m.1, .int .i64 m.2] 77 (0, 0))
  b2 : W.heap[n + 1 + 1]? = some (.cells #[.slice none 0 0, .slice none 0 0] 34 (0, 0))
theorem Bx.lt {n : Nat} {vb vm : Value} {m : Int × Int} {W : World} (h : Bx n vb vm m W) : n + 1 + 1 < W.heap.size := (Array.getElem?_eq_some_iff.1 h.b2).1
theorem Bx.kept {n : Nat} {vb vm : Value} {m : Int × Int} {W W' : World} (h : Bx n vb vm m W) (hb : Below W.heap.size W W') : Bx n vb vm m W' := by
  have := h.lt
  exact ⟨(hb.block _ (by omega)).trans h.b0, (hb.block _ (by omega)).trans h.b1, (hb.block _ (by omega)).trans h.b2⟩
theorem Bx.cells {n : Nat} {vb vm : Value} {m : Int × Int} {W : World} (h : Bx n vb vm m W) : W.cell? ⟨n, 0, none⟩ = some vb ∧ W.cell? ⟨n, 1, none⟩ = some vm ∧ W.cell? ⟨n + 1, 0, none⟩ = some (.int .i64 m.1) ∧ W.cell? ⟨n + 1, 1, none⟩ = some (.int .i64 m.2) ∧ W.cell? ⟨n + 1 + 1, 0, none⟩ = some (.slice none 0 0) ∧ W.cell? ⟨n + 1 + 1, 1, none⟩ = some (.slice none 0 0) ∧ ∀ o, W.frozen? ⟨n + 1 + 1, o, none⟩ = false := by
  simp [World.cell?, World.frozen?, h.b0, h.b1, h.b2]
theorem bx_begin (w : World) (vb vm : Value) (m : Int × Int) : Bx w.heap.size vb vm m (((w.alloc (.cells #[vb, vm] 34)).alloc (.cells #[.int .i64 m.1, .int .i64 m.2] 77)).alloc (.cells #[.slice none 0 0, .slice none 0 0] 34)) ∧ Below w.heap.size w (((w.alloc (.cells #[vb, vm] 34)).alloc (.cells #[.int .i64 m.1, .int .i64 m.2] 77)).alloc (.cells #[.slice none 0 0, .slice none 0 0] 34)) := by
  have e1 : (w.alloc (.cells #[vb, vm] 34)).heap.size = w.heap.size + 1 := by simp
  have e2 : ((w.alloc (.cells #[vb, vm] 34)).alloc (.cells #[.int .i64 m.1, .int .i64 m.2] 77)).heap.size = w.heap.size + 1 + 1 := by simp
  refine ⟨⟨?_, ?_, ?_⟩, (((Below.refl _ _).alloc (Nat.le_refl _) _).alloc (by simp) _).alloc (by simp; omega) _⟩
  · rw [Below.heap_alloc _ _ _ (by omega), Below.heap_alloc _ _ _ (by omega)]
    exact heap_alloc_new w _
  · rw [Below.heap_alloc _ _ _ (by omega)]
    have := heap_alloc_new (w.alloc (.cells #[vb, vm] 34)) (.cells #[.int .i64 m.1, .int .i64 m.2] 77)
    rw [e1] at this
    exact this
  · have := heap_alloc_new ((w.alloc (.cells #[vb, vm] 34)).alloc (.cells #[.int .i64 m.1, .int .i64 m.2] 77)) (.cells #[.slice none 0 0, .slice none 0 0] 34)
    rw [e2] at this
    exact this

theorem RT.drew {vb vm : Value} {tx : List ByteArray} {mg : List (Int × Int)} {w : World} (h : RT vb vm tx mg w) : RT vb vm tx mg w.drew := ⟨h.rb, h.rm, h.nl⟩
def rtR (vb vm : Value) (c : Int) : Value := .tuple #[.agg #[vb, vm], .int .i64 c]

section
variable {vb vm : Value} {tx : List ByteArray} {mg : List (Int × Int)} {w : World}

set_option maxRecDepth 20000 in
set_option maxHeartbeats 4000000 in
theorem radd_id (h : RT vb vm tx mg w) (m : Int × Int) (hid : (m.1 < 0 ∨ (tx.length : Int) ≤ m.1) ∨ (m.2 < 0 ∨ (tx.length : Int) ≤ m.2)) :
    Calls Tryz.prog 46 #[.agg #[vb, vm], .agg #[.int .i64 m.1, .int .i64 m.2]] w fun e w' => e = .returned (rtR vb vm 4) ∧ Below w.heap.size w w' := by
  obtain ⟨ao, cap, hvb⟩ := row_form h.rb
  obtain ⟨am, capm, hvm⟩ := row_form h.rm
  obtain ⟨hX, hB0⟩ := bx_begin w vb vm m
  have h0 := h.kept hB0
  subst hvb hvm
  by_cases ha : m.1 < 0 ∨ (tx.length : Int) ≤ m.1
  · have hd : decide (0 ≤ m.1 ∧ m.1 < (tx.length : Int)) = false := by simp; omega
    have HH := hide (rhas_any h0 m.1)
    rw [hd] at HH
    clear hd
    go_enter Tryz.func46, Tryz.ntmps46
    go_wp2_with fail
    refine (unhide HH).mono ?_
    rintro e w1 ⟨rfl, hb1⟩
    obtain ⟨c0, c1, c2, c3, c4, c5, cf⟩ := (hX.kept hb1).cells
    have HB := hide (hB0.trans (hb1.mono hB0.size))
    clear hb1
    go_wp2
    (try simp only [Exit.inBlock, Exit.then])
    exact bodyPost_ret (v := rtR _ _ 4) (by simp [rtR, results, Tryz.results46, go_sem, c4, c5]) rfl ⟨rfl, (HB.out.setCell (by simp; omega) _).setCell (by simp; omega) _⟩
  · have hd : decide (0 ≤ m.1 ∧ m.1 < (tx.length : Int)) = true := by simp; omega
    have hd2 : decide (0 ≤ m.2 ∧ m.2 < (tx.length : Int)) = false := by simp; omega
    have HH := hide (rhas_any h0 m.1)
    rw [hd] at HH
    clear hd
    go_enter Tryz.func46, Tryz.ntmps46
    go_wp2_with fail
    refine (unhide HH).mono ?_
    rintro e w1 ⟨rfl, hb1⟩
    have hX1 := hX.kept hb1
    obtain ⟨c0, c1, c2, c3, c4, c5, cf⟩ := hX1.cells
    have hB1 := hB0.trans (hb1.mono hB0.size)
    have HH2 := hide (rhas_any (h0.kept hb1) m.2)
    rw [hd2] at HH2
    clear hb1 hd2
    go_wp2_with fail
    refine (unhide HH2).mono ?_
    rintro e w2 ⟨rfl, hb2⟩
    clear c0 c1 c2 c3 c4 c5 cf
    obtain ⟨c0, c1, c2, c3, c4, c5, cf⟩ := (hX1.kept hb2).cells
    have HB := hide (hB1.trans (hb2.mono hB1.size))
    clear hb2
    go_wp2
    (try simp only [Exit.inBlock, Exit.then])
    exact bodyPost_ret (v := rtR _ _ 4) (by simp [rtR, results, Tryz.results46, go_sem, c4, c5]) rfl ⟨rfl, (HB.out.setCell (by simp; omega) _).setCell (by simp; omega) _⟩

set_option maxRecDepth 20000 in
set_option maxHeartbeats 8000000 in
theorem radd_long (h : RT vb vm tx mg w) (i j : Nat) (hi : i < tx.length) (hj : j < tx.length) (hzi : (gs tx i).size ≤ 64) (hzj : (gs tx j).size ≤ 64) (s : ByteArray) (hs : gs tx i ++ gs tx j = s) (hl : 64 < s.size) :
    Calls Tryz.prog 46 #[.agg #[vb, vm], .agg #[.int .i64 i, .int .i64 j]] w fun e w' => e = .returned (rtR vb vm 3) ∧ Below w.heap.size w w' := by
  obtain ⟨ao, cap, hvb⟩ := row_form h.rb
  obtain ⟨am, capm, hvm⟩ := row_form h.rm
  obtain ⟨hX, hB0⟩ := bx_begin w vb vm ((i : Int), (j : Int))
  have h0 := h.kept hB0
  subst hvb hvm
  have hd : decide (0 ≤ (i : Int) ∧ (i : Int) < (tx.length : Int)) = true := by simp; omega
  have hd2 : decide (0 ≤ (j : Int) ∧ (j : Int) < (tx.length : Int)) = true := by simp; omega
  have HH := hide (rhas_any h0 (i : Int))
  rw [hd] at HH
  clear hd
  have hi0 : (0 : Int) ≤ (i : Int) := by omega
  have hi1 : (i : Int) < (tx.length : Int) := by omega
  have hj0 : (0 : Int) ≤ (j : Int) := by omega
  have hj1 : (j : Int) < (tx.length : Int) := by omega
  have hl2 : (64 : Int) < (s.size : Int) := by omega
  go_enter Tryz.func46, Tryz.ntmps46
  go_wp2_with fail
  refine (unhide HH).mono ?_
  rintro e w1 ⟨rfl, hb1⟩
  have hX1 := hX.kept hb1
  obtain ⟨c0, c1, c2, c3, c4, c5, cf⟩ := hX1.cells
  have hB1 := hB0.trans (hb1.mono hB0.size)
  have h1 := h0.kept hb1
  have HH2 := hide (rhas_any h1 (j : Int))
  rw [hd2] at HH2
  clear hb1 hd2
  go_wp2_with fail
  refine (unhide HH2).mono ?_
  rintro e w2 ⟨rfl, hb2⟩
  clear c0 c1 c2 c3 c4 c5 cf
  have hX2 := hX1.kept hb2
  obtain ⟨c0, c1, c2, c3, c4, c5, cf⟩ := hX2.cells
  have hB2 := hB1.trans (hb2.mono hB1.size)
  have h2 := h1.kept hb2
  obtain ⟨g, cap', hv, hgl, ti⟩ := h2.text hi
  simp only [Value.slice.injEq] at hv
  obtain ⟨rfl, _, rfl⟩ := hv
  obtain ⟨g', cap', hv, _, tj⟩ := h2.text hj
  simp only [Value.slice.injEq, Option.some.injEq, Addr.mk.injEq, and_true] at hv
  obtain ⟨rfl, _, rfl⟩ := hv
  clear hb2
  go_wp2
  go_region
  go_wp2_with fail
  have HB := hide hB2
  (try simp only [Exit.inBlock, Exit.then])
  exact bodyPost_ret (v := rtR _ _ 3) (by simp [rtR, results, Tryz.results46, go_sem, c4, c5]) rfl ⟨rfl, ((HB.out.setCell (by simp; omega) _).setCell (by simp; omega) _).drew⟩

set_option maxRecDepth 20000 in
set_option maxHeartbeats 8000000 in
theorem radd_full (h : RT vb vm tx mg w) (i j : Nat) (hi : i < tx.length) (hj : j < tx.length) (hzi : (gs tx i).size ≤ 64) (hzj : (gs tx j).size ≤ 64) (s : ByteArray) (hs : gs tx i ++ gs tx j = s) (hl : s.size ≤ 64) (hf : 1000 ≤ tx.length) :
    Calls Tryz.prog 46 #[.agg #[vb, vm], .agg #[.int .i64 i, .int .i64 j]] w fun e w' => e = .returned (rtR vb vm 5) ∧ Below w.heap.size w w' := by
  obtain ⟨ao, cap, hvb⟩ := row_form h.rb
  obtain ⟨am, capm, hvm⟩ := row_form h.rm
  obtain ⟨hX, hB0⟩ := bx_begin w vb vm ((i : Int), (j : Int))
  have h0 := h.kept hB0
  subst hvb hvm
  have hd : decide (0 ≤ (i : Int) ∧ (i : Int) < (tx.length : Int)) = true := by simp; omega
  have hd2 : decide (0 ≤ (j : Int) ∧ (j : Int) < (tx.length : Int)) = true := by simp; omega
  have HH := hide (rhas_any h0 (i : Int))
  rw [hd] at HH
  clear hd
  have hi0 : (0 : Int) ≤ (i : Int) := by omega
  have hi1 : (i : Int) < (tx.length : Int) := by omega
  have hj0 : (0 : Int) ≤ (j : Int) := by omega
  have hj1 : (j : Int) < (tx.length : Int) := by omega
  have hl2 : ¬ (64 : Int) < (s.size : Int) := by omega
  have hf2 : (1000 : Int) ≤ (tx.length : Int) := by omega
  go_enter Tryz.func46, Tryz.ntmps46
  go_wp2_with fail
  refine (unhide HH).mono ?_
  rintro e w1 ⟨rfl, hb1⟩
  have hX1 := hX.kept hb1
  obtain ⟨c0, c1, c2, c3, c4, c5, cf⟩ := hX1.cells
  have hB1 := hB0.trans (hb1.mono hB0.size)
  have h1 := h0.kept hb1
  have HH2 := hide (rhas_any h1 (j : Int))
  rw [hd2] at HH2
  clear hb1 hd2
  go_wp2_with fail
  refine (unhide HH2).mono ?_
  rintro e w2 ⟨rfl, hb2⟩
  clear c0 c1 c2 c3 c4 c5 cf
  have hX2 := hX1.kept hb2
  obtain ⟨c0, c1, c2, c3, c4, c5, cf⟩ := hX2.cells
  have hB2 := hB1.trans (hb2.mono hB1.size)
  have h2 := h1.kept hb2
  obtain ⟨g, cap', hv, hgl, ti⟩ := h2.text hi
  simp only [Value.slice.injEq] at hv
  obtain ⟨rfl, _, rfl⟩ := hv
  obtain ⟨g', cap', hv, _, tj⟩ := h2.text hj
  simp only [Value.slice.injEq, Option.some.injEq, Addr.mk.injEq, and_true] at hv
  obtain ⟨rfl, _, rfl⟩ := hv
  clear hb2
  go_wp2
  go_region
  go_wp2_with fail
  have HB := hide hB2
  (try simp only [Exit.inBlock, Exit.then])
  exact bodyPost_ret (v := rtR _ _ 5) (by simp [rtR, results, Tryz.results46, go_sem, c4, c5]) rfl ⟨rfl, ((HB.out.setCell (by simp; omega) _).setCell (by simp; omega) _).drew⟩

set_option maxRecDepth 20000 in
set_option maxHeartbeats 8000000 in
theorem radd_twice (h : RT vb vm tx mg w) (i j : Nat) (hi : i < tx.length) (hj : j < tx.length) (hzi : (gs tx i).size ≤ 64) (hzj : (gs tx j).size ≤ 64) (s : ByteArray) (hs : gs tx i ++ gs tx j = s) (hl : s.size ≤ 64) (hf : tx.length < 1000) (hm : s ∈ tx) :
    Calls Tryz.prog 46 #[.agg #[vb, vm], .agg #[.int .i64 i, .int .i64 j]] w fun e w' => e = .returned (rtR vb vm 10) ∧ Below w.heap.size w w' := by
  obtain ⟨ao, cap, hvb⟩ := row_form h.rb
  obtain ⟨am, capm, hvm⟩ := row_form h.rm
  obtain ⟨hX, hB0⟩ := bx_begin w vb vm ((i : Int), (j : Int))
  have h0 := h.kept hB0
  subst hvb hvm
  have hd : decide (0 ≤ (i : Int) ∧ (i : Int) < (tx.length : Int)) = true := by simp; omega
  have hd2 : decide (0 ≤ (j : Int) ∧ (j : Int) < (tx.length : Int)) = true := by simp; omega
  have HH := hide (rhas_any h0 (i : Int))
  rw [hd] at HH
  clear hd
  have hi0 : (0 : Int) ≤ (i : Int) := by omega
  have hi1 : (i : Int) < (tx.length : Int) := by omega
  have hj0 : (0 : Int) ≤ (j : Int) := by omega
  have hj1 : (j : Int) < (tx.length : Int) := by omega
  have hl2 : ¬ (64 : Int) < (s.size : Int) := by omega
  have hf2 : ¬ (1000 : Int) ≤ (tx.length : Int) := by omega
  go_enter Tryz.func46, Tryz.ntmps46
  go_wp2_with fail
  refine (unhide HH).mono ?_
  rintro e w1 ⟨rfl, hb1⟩
  have hX1 := hX.kept hb1
  obtain ⟨c0, c1, c2, c3, c4, c5, cf⟩ := hX1.cells
  have hB1 := hB0.trans (hb1.mono hB0.size)
  have h1 := h0.kept hb1
  have HH2 := hide (rhas_any h1 (j : Int))
  rw [hd2] at HH2
  clear hb1 hd2
  go_wp2_with fail
  refine (unhide HH2).mono ?_
  rintro e w2 ⟨rfl, hb2⟩
  clear c0 c1 c2 c3 c4 c5 cf
  have hX2 := hX1.kept hb2
  obtain ⟨c0, c1, c2, c3, c4, c5, cf⟩ := hX2.cells
  have hB2 := hB1.trans (hb2.mono hB1.size)
  have h2 := h1.kept hb2
  obtain ⟨g, cap', hv, hgl, ti⟩ := h2.text hi
  simp only [Value.slice.injEq] at hv
  obtain ⟨rfl, _, rfl⟩ := hv
  obtain ⟨g', cap', hv, _, tj⟩ := h2.text hj
  simp only [Value.slice.injEq, Option.some.injEq, Addr.mk.injEq, and_true] at hv
  obtain ⟨rfl, _, rfl⟩ := hv
  clear hb2
  go_wp2
  go_region
  go_wp2_with fail
  refine (rfind_any h2.drew s (by omega)).mono ?_
  rintro e w3 ⟨⟨r, rfl, hr⟩, hb3⟩
  have hX3 := (hX2.kept (Below.drew (Below.refl _ _))).kept hb3
  clear c0 c1 c2 c3 c4 c5 cf
  obtain ⟨c0, c1, c2, c3, c4, c5, cf⟩ := hX3.cells
  have HB := hide (hB2.drew.trans (hb3.mono hB2.size))
  have hr0 : (0 : Int) ≤ r := by
    rcases hr with ⟨_, h1⟩ | ⟨k, rfl, _⟩
    · exact absurd hm h1
    · omega
  clear hb3
  go_wp2
  (try simp only [Exit.inBlock, Exit.then])
  exact bodyPost_ret (v := rtR _ _ 10) (by simp [rtR, results, Tryz.results46, go_sem, c4, c5]) rfl ⟨rfl, (HB.out.setCell (by simp; omega) _).setCell (by simp; omega) _⟩

end

end Go.Proofs.YtdpmjaelbjjanaaGreat
