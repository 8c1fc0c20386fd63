/- Contract of the law's own reference: Add, and where its answer lies. -/
import Derived.Test.YtceofnkjdkbebaaRefB
namespace Go.Proofs.Ytceofnkjdkbebaa
open Go.RowKit
set_option linter.unusedVariables false
set_option linter.unusedSimpArgs false

set_option maxHeartbeats 1600000 in
theorem radd_own (ao1 ao2 : Option Addr) (n1 cap1 n2 cap2 : Nat) (V U : Int) (w : World) (hN1 : IsDec w ao1 n1 V) (hN2 : IsDec w ao2 n2 U) (hn1 : n1 ≤ 100000) (hn2 : n2 ≤ 100000) :
    Calls Try.prog 8 #[.slice ao1 n1 cap1, .slice ao2 n2 cap2] w fun e w' => ∃ ao' m' cap', e = .returned (.slice ao' m' cap') ∧ (∃ D, Own .u8 5 w' w.heap.size ao' m' cap' D ∧ Dg 10 D ∧ Nz D ∧ pv 10 D = V + U) ∧ Below w.heap.size w w' := by
  obtain ⟨i0, hi, hz0, hz1, hz2⟩ := info_parts info_byte
  obtain ⟨A, hR1, hD1, hNz1, hV⟩ := hN1
  obtain ⟨B, hR2, hD2, hNz2, hU⟩ := hN2
  have HV := hide hV
  have HU := hide hU
  clear hV hU
  go_enter Try.func8, Try.ntmps8
  go_wp2
  go_loopw [5, 6, 7] (fun v c i wr => ∃ (k : Nat) (cy : Int) (aoE : Option Addr) (capE : Nat) (E : List Int), i = .int .i64 k ∧ c = .int .i64 cy ∧ v = .slice aoE k capE ∧ 0 ≤ cy ∧ cy ≤ 1 ∧ k + cy ≤ n1 + n2 + 1 ∧ Own .u8 5 wr w.heap.size aoE k capE E ∧ Dg 10 E ∧ Hid (pv 10 E + 10 ^ k * cy = pv 10 (A.take k) + pv 10 (B.take k)) ∧ Below w.heap.size w wr)
    (fun _ c i _ => (n1 + n2 + 1 - (intOf i).toNat) * 10 + (intOf c).toNat)
  case atStart => exact ⟨0, 0, none, 0, [], rfl, rfl, rfl, by omega, by omega, by omega, Own.nil _ _ _ _, Dg.nil _, hide (by simp [pv]), Below.refl _ _⟩
  case round =>
    obtain ⟨k, cy, aoE, capE, E, rfl, rfl, rfl, hc0, hc1, hkb, hOE, hED, hEp, hbr⟩ := hrel
    have hws := hbr.size
    have hEl : E.length = k := hOE.1
    by_cases h1 : k < n1
    · by_cases h2 : k < n2
      · skip
        obtain ⟨b1, off1, rfl, hcell1⟩ := hR1.at h1
        obtain ⟨d1, hd1⟩ : ∃ d, d = A.getD k 0 := ⟨_, rfl⟩
        have hdb1 : 0 ≤ d1 ∧ d1 < 10 := by rw [hd1]; exact hD1.getD (by decide) k
        have hck1 := (bcell hbr (World.block_lt_of_cell? w _ (hcell1 k h1))).trans (hcell1 k h1)
        rw [← hd1] at hck1
        have HD1 := hide hd1
        clear hd1 hcell1
        obtain ⟨b2, off2, rfl, hcell2⟩ := hR2.at h2
        obtain ⟨d2, hd2⟩ : ∃ d, d = B.getD k 0 := ⟨_, rfl⟩
        have hdb2 : 0 ≤ d2 ∧ d2 < 10 := by rw [hd2]; exact hD2.getD (by decide) k
        have hck2 := (bcell hbr (World.block_lt_of_cell? w _ (hcell2 k h2))).trans (hcell2 k h2)
        rw [← hd2] at hck2
        have HD2 := hide hd2
        clear hd2 hcell2
        have HEP : Hid (pv 10 (E ++ [(cy + d1 + d2) % 10]) + 10 ^ (k + 1) * ((cy + d1 + d2) / 10) = pv 10 (A.take (k + 1)) + pv 10 (B.take (k + 1))) := by
          rw [pv_snoc, hEl, Int.pow_succ, pv_take_any, pv_take_any, ← HD1.out, ← HD2.out]
          exact hide (radd_step hEp.out)
        go_wp2_with (first | (at_builtin; refine wpList_append_one wr rfl _ _ 27 rfl 5 i0 (.int .u8 0) 1 Try.underlying27 hi hz0 hz1 hz2 rfl .u8 w.heap.size aoE k capE E _ rfl hOE rfl (by omega) (by omega) hws ?_) | fail)
        · intro ao' cap' w5 hO5 hg5
          have HB := hide (hbr.grown hg5 hws (fun b hb => (hOE.lt b hb).1))
          have HO := hide hO5
          clear hO5 hg5 hOE hbr hEl
          go_wp2
          go_roundw
          case rel => exact ⟨k + 1, (cy + d1 + d2) / 10, ao', cap', E ++ [(cy + d1 + d2) % 10], by go_num, rfl, rfl, by omega, by omega, by omega, HO.out, hED.append (Dg.cons (by omega) (by omega) (Dg.nil _)), HEP, HB.out⟩
          case measure => simp [intOf]; omega
      · skip
        obtain ⟨b1, off1, rfl, hcell1⟩ := hR1.at h1
        obtain ⟨d1, hd1⟩ : ∃ d, d = A.getD k 0 := ⟨_, rfl⟩
        have hdb1 : 0 ≤ d1 ∧ d1 < 10 := by rw [hd1]; exact hD1.getD (by decide) k
        have hck1 := (bcell hbr (World.block_lt_of_cell? w _ (hcell1 k h1))).trans (hcell1 k h1)
        rw [← hd1] at hck1
        have HD1 := hide hd1
        clear hd1 hcell1
        have HZ2 : Hid (B.getD k 0 = 0) := hide (by rw [List.getD_eq_getElem?_getD, List.getElem?_eq_none (by have := hR2.1; omega)]; rfl)
        have HEP : Hid (pv 10 (E ++ [(cy + d1) % 10]) + 10 ^ (k + 1) * ((cy + d1) / 10) = pv 10 (A.take (k + 1)) + pv 10 (B.take (k + 1))) := by
          rw [pv_snoc, hEl, Int.pow_succ, pv_take_any, pv_take_any, ← HD1.out, HZ2.out]
          have h9 := radd_step (a := d1) (b := 0) hEp.out
          simp only [Int.add_zero] at h9
          simp only [Int.mul_zero, Int.add_zero] at h9 ⊢
          exact hide h9
        go_wp2_with (first | (at_builtin; refine wpList_append_one wr rfl _ _ 27 rfl 5 i0 (.int .u8 0) 1 Try.underlying27 hi hz0 hz1 hz2 rfl .u8 w.heap.size aoE k capE E _ rfl hOE rfl (by omega) (by omega) hws ?_) | fail)
        · intro ao' cap' w5 hO5 hg5
          have HB := hide (hbr.grown hg5 hws (fun b hb => (hOE.lt b hb).1))
          have HO := hide hO5
          clear hO5 hg5 hOE hbr hEl
          go_wp2
          go_roundw
          case rel => exact ⟨k + 1, (cy + d1) / 10, ao', cap', E ++ [(cy + d1) % 10], by go_num, rfl, rfl, by omega, by omega, by omega, HO.out, hED.append (Dg.cons (by omega) (by omega) (Dg.nil _)), HEP, HB.out⟩
          case measure => simp [intOf]; omega
    · by_cases h2 : k < n2
      · skip
        have HZ1 : Hid (A.getD k 0 = 0) := hide (by rw [List.getD_eq_getElem?_getD, List.getElem?_eq_none (by have := hR1.1; omega)]; rfl)
        obtain ⟨b2, off2, rfl, hcell2⟩ := hR2.at h2
        obtain ⟨d2, hd2⟩ : ∃ d, d = B.getD k 0 := ⟨_, rfl⟩
        have hdb2 : 0 ≤ d2 ∧ d2 < 10 := by rw [hd2]; exact hD2.getD (by decide) k
        have hck2 := (bcell hbr (World.block_lt_of_cell? w _ (hcell2 k h2))).trans (hcell2 k h2)
        rw [← hd2] at hck2
        have HD2 := hide hd2
        clear hd2 hcell2
        have HEP : Hid (pv 10 (E ++ [(cy + d2) % 10]) + 10 ^ (k + 1) * ((cy + d2) / 10) = pv 10 (A.take (k + 1)) + pv 10 (B.take (k + 1))) := by
          rw [pv_snoc, hEl, Int.pow_succ, pv_take_any, pv_take_any, HZ1.out, ← HD2.out]
          have h9 := radd_step (a := 0) (b := d2) hEp.out
          simp only [Int.add_zero] at h9
          simp only [Int.mul_zero, Int.add_zero] at h9 ⊢
          exact hide h9
        go_wp2_with (first | (at_builtin; refine wpList_append_one wr rfl _ _ 27 rfl 5 i0 (.int .u8 0) 1 Try.underlying27 hi hz0 hz1 hz2 rfl .u8 w.heap.size aoE k capE E _ rfl hOE rfl (by omega) (by omega) hws ?_) | fail)
        · intro ao' cap' w5 hO5 hg5
          have HB := hide (hbr.grown hg5 hws (fun b hb => (hOE.lt b hb).1))
          have HO := hide hO5
          clear hO5 hg5 hOE hbr hEl
          go_wp2
          go_roundw
          case rel => exact ⟨k + 1, (cy + d2) / 10, ao', cap', E ++ [(cy + d2) % 10], by go_num, rfl, rfl, by omega, by omega, by omega, HO.out, hED.append (Dg.cons (by omega) (by omega) (Dg.nil _)), HEP, HB.out⟩
          case measure => simp [intOf]; omega
      · by_cases hcy : cy = 0
        · subst hcy
          have HEV : Hid (pv 10 E = V + U) := by
            have h3 := hEp.out
            rw [List.take_of_length_le (by have := hR1.1; omega), List.take_of_length_le (by have := hR2.1; omega), HV.out, HU.out, Int.mul_zero, Int.add_zero] at h3
            exact hide h3
          clear hEl hEp
          go_wp2_with fail
          refine (trim_any w.heap.size aoE k capE E wr hOE (by omega)).mono ?_
          rintro e w3 ⟨m3, rfl, hO3, hw3⟩
          subst hw3
          go_wp2
          go_ret
          exact ⟨aoE, m3, capE, rfl, ⟨chop E, hO3, chop_Dg hED, chop_Nz E, by rw [chop_pv]; exact HEV.out⟩, hbr⟩
        · have hcp : 0 < cy := by omega
          clear hcy
          have HZ1 : Hid (A.getD k 0 = 0) := hide (by rw [List.getD_eq_getElem?_getD, List.getElem?_eq_none (by have := hR1.1; omega)]; rfl)
          have HZ2 : Hid (B.getD k 0 = 0) := hide (by rw [List.getD_eq_getElem?_getD, List.getElem?_eq_none (by have := hR2.1; omega)]; rfl)
          have HEP : Hid (pv 10 (E ++ [cy % 10]) + 10 ^ (k + 1) * (cy / 10) = pv 10 (A.take (k + 1)) + pv 10 (B.take (k + 1))) := by
            rw [pv_snoc, hEl, Int.pow_succ, pv_take_any, pv_take_any, HZ1.out, HZ2.out]
            have h9 := radd_step (a := 0) (b := 0) hEp.out
            simp only [Int.add_zero] at h9
            simp only [Int.mul_zero, Int.add_zero] at h9 ⊢
            exact hide h9
          go_wp2_with (first | (at_builtin; refine wpList_append_one wr rfl _ _ 27 rfl 5 i0 (.int .u8 0) 1 Try.underlying27 hi hz0 hz1 hz2 rfl .u8 w.heap.size aoE k capE E _ rfl hOE rfl (by omega) (by omega) hws ?_) | fail)
          · intro ao' cap' w5 hO5 hg5
            have HB := hide (hbr.grown hg5 hws (fun b hb => (hOE.lt b hb).1))
            have HO := hide hO5
            clear hO5 hg5 hOE hbr hEl
            go_wp2
            go_roundw
            case rel => exact ⟨k + 1, cy / 10, ao', cap', E ++ [cy % 10], by go_num, rfl, rfl, by omega, by omega, by omega, HO.out, hED.append (Dg.cons (by omega) (by omega) (Dg.nil _)), HEP, HB.out⟩
            case measure => simp [intOf]; omega


end Go.Proofs.Ytceofnkjdkbebaa
