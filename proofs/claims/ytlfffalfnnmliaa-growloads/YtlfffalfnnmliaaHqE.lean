/- Contracts of a heap of pairs: takeTop. -/
import Derived.Test.YtlfffalfnnmliaaHqD
import Derived.BigRegion
import Derived.Test.YtlfffalfnnmliaaHqA2
namespace Go.Proofs.Ytlfffalfnnmliaa.Hq
open Go.RowKit Go.Proofs.Ytlfffalfnnmliaa
set_option linter.unusedVariables false
set_option linter.unusedSimpArgs false
attribute [local go_sem ↓] Go.wp_at_zero Go.wp_at_succ

theorem info_item : (Try.prog.info? 133).map (fun i => (i.zero, i.size, i.bytes)) = some (some (.agg #[.int .i64 0, .int .i64 0, .int .i64 0, .int .i64 0, .int .i64 0, .int .i64 0, .int .i64 0]), 7, 56) := by kernel_rfl
theorem zero_item (w : World) : (zeroValue 133).run Try.prog w = .ok (.agg #[.int .i64 0, .int .i64 0, .int .i64 0, .int .i64 0, .int .i64 0, .int .i64 0, .int .i64 0]) w := by
  obtain ⟨i0, hi, hz0, hz1, hz2⟩ := info_parts info_item
  simp [zeroValue, typeInfo, hi, hz0]

set_option maxRecDepth 20000 in
set_option maxHeartbeats 4000000 in
theorem takeTop_any (base p : Nat) (v : Value) (tn : Int) (l : List It) (w : World) (h : HAt 126 133 base p v tn l w) (hHp : Hp l) (h0 : 0 < l.length) (hn : l.length ≤ 1000000) :
    Calls Try.prog 67 #[.pointer (some ⟨p, 0, none⟩)] w fun e w' => e = .returned (.tuple #[]) ∧ ∃ v' l', HAt 126 133 base p v' tn l' w' ∧ Hp l' ∧ l'.Perm l.tail ∧ Fr p v w w' ∧ v'.ownBlock = v.ownBlock := by
  obtain ⟨g, cap, rfl, hg, hbg, hgp, hc1, hc2⟩ := h.pos h0
  obtain ⟨n, hln⟩ : ∃ n, l.length = n + 1 := ⟨l.length - 1, by omega⟩
  rw [hln] at h hn hc1 ⊢
  have h' := h
  rw [← hln] at h'
  obtain ⟨i0, i1, i2, i3, i4, i5, i6⟩ := h'.at (show n < l.length by omega)
  obtain ⟨j0, j1, j2, j3, j4, j5, j6⟩ := h'.at (show 0 < l.length by omega)
  simp only [Nat.zero_mul, Nat.zero_add] at j0 j1 j2 j3 j4 j5 j6
  clear h'
  have hp0 := h.cell0
  have hfp := h.fr
  have hfz : ∀ o, w.frozen? ⟨g, o, none⟩ = false := h.fz
  obtain ⟨a, ha⟩ : ∃ a, gi l n = a := ⟨_, rfl⟩
  obtain ⟨b, hb⟩ : ∃ b, gi l 0 = b := ⟨_, rfl⟩
  rw [ha] at i0 i1 i2 i3 i4 i5 i6
  rw [hb] at j0 j1 j2 j3 j4 j5 j6
  have H := hide h
  have HL := hide hln
  have HA := hide ha
  have hn0 : (0 : Int) ≤ (n : Int) := by omega
  have hn1 : (n : Int) < (n : Int) + 1 := by omega
  clear h hln ha hb
  go_enter Try.func67, Try.ntmps67
  go_wp2
  go_region
  obtain ⟨W1, hW1, hH1, hF1⟩ := H.out.put0 h0 a
  rw [← hW1]
  clear hW1 i0 i1 i2 i3 i4 i5 i6 j0 j1 j2 j3 j4 j5 j6 hp0 hfp hfz
  have hl1 : (l.set 0 a).length = n + 1 := by rw [List.length_set]; exact HL.out
  obtain ⟨vs, hvl, hcl⟩ := run_clear_all (P := Try.prog) W1 124 133 _ 7 Try.underlying124 zero_item rfl (by simp [Value.cells, Value.oneCell']) (by omega) g (n * 7) 1 (by omega) (fun j hj => (hH1.room (by omega)).1) (fun j hj => (hH1.room (by omega)).2)
  obtain ⟨hH2, hgr⟩ := hH1.cut n (n * 7) vs (by omega) (Nat.le_refl _) (by omega)
  have hp0 := hH1.cell0
  have hp2 : (W1.setCells g (n * 7) vs).cell? ⟨p, 0, none⟩ = some (.slice (some ⟨g, 0, none⟩) (n + 1) cap) := (hgr.cell_far ⟨p, 0, none⟩ hH1.lt (by simp; omega)).trans hp0
  have hf2 : (W1.setCells g (n * 7) vs).frozen? ⟨p, 0, none⟩ = false := (hgr.frozen_far ⟨p, 0, none⟩ hH1.lt (by simp; omega)).trans (hH1.fr 0)
  have hF2 : Fr p (.slice (some ⟨g, 0, none⟩) (n + 1) cap) W1 (W1.setCells g (n * 7) vs) := Fr.ofGrown hgr (Or.inr (Or.inr rfl))
  generalize hW2 : W1.setCells g (n * 7) vs = W2 at hcl hH2 hp2 hf2 hF2
  clear hW2 hgr
  have HP : Hid ((l.set 0 a).take n = topped l) := by
    unfold topped
    rw [HL.out, Nat.add_sub_cancel, HA.out]
    exact hide rfl
  rw [HP.out] at hH2
  have hSI := topped_SI hHp
  have HT := hide (topped_len l)
  have HTP := hide (topped_perm l h0)
  go_wp2_with fail
  refine (sink_any base p _ tn (topped l) _ hH2 hSI (by rw [HT.out, HL.out]; omega)).mono ?_
  rintro e w3 ⟨rfl, l', hH3, hHp3, hP3, hF3⟩
  go_wp2
  go_end0
  exact ⟨rfl, _, l', hH3, hHp3, hP3.trans HTP.out, ((hF1.trans' hF2).setP _).trans (Nw.refl _ _) (by exact ⟨hF3.os, hF3.tape, hF3.output, hF3.size, hF3.block⟩), rfl⟩

end Go.Proofs.Ytlfffalfnnmliaa.Hq
