/- Contracts of the document's answer for layer 1: Add, Print, Compare. -/
import Derived.Test.YtceofnkjdkbebaaRefA
namespace Go.Proofs.Ytceofnkjdkbebaa
open Go.RowKit
set_option linter.unusedVariables false
set_option linter.unusedSimpArgs false

theorem pv_take_any (B : Int) (zs : List Int) (k : Nat) : pv B (zs.take (k + 1)) = pv B (zs.take k) + B ^ k * zs.getD k 0 := by
  by_cases h : k < zs.length
  · exact pv_take_succ B zs k h
  · rw [List.take_of_length_le (by omega), List.take_of_length_le (by omega), List.getD_eq_getElem?_getD, List.getElem?_eq_none (by omega)]
    simp

theorem radd_step {P T c a b A B : Int} (h : P + T * c = A + B) : P + T * ((c + a + b) % 10) + T * 10 * ((c + a + b) / 10) = A + T * a + (B + T * b) := by
  have e : c + a + b = (c + a + b) % 10 + 10 * ((c + a + b) / 10) := by omega
  have h2 : T * (c + a + b) = T * ((c + a + b) % 10) + T * 10 * ((c + a + b) / 10) := by
    conv => lhs; rw [e]
    rw [Int.mul_add, Int.mul_assoc]
  rw [Int.mul_add, Int.mul_add] at h2
  omega

set_option maxHeartbeats 1600000 in
theorem radd_any (ao1 ao2 : Option Addr) (n1 cap1 n2 cap2 : Nat) (V U : Int) (w : World) (hN1 : IsDec w ao1 n1 V) (hN2 : IsDec w ao2 n2 U) (hn1 : n1 ≤ 100000) (hn2 : n2 ≤ 100000) :
    Calls Try.prog 8 #[.slice ao1 n1 cap1, .slice ao2 n2 cap2] w fun e w' => ∃ ao' m' cap', e = .returned (.slice ao' m' cap') ∧ IsDec w' ao' m' (V + U) ∧ Below w.heap.size w w' := by
  obtain ⟨i0, hi, hz0, hz1, hz2⟩ := info_parts info_byte
  obtain ⟨A, hR1, hD1, hNz1, hV⟩ := hN1
  obtain ⟨B, hR2, hD2, hNz2, hU⟩ := hN2
  have HV := hide hV
  have HU := hide hU
  clear hV hU
  go_enter Try.func8, Try.ntmps8
  go_wp2
  go_loopw [5, 6, 7] (fun v c i wr => ∃ (k : Nat) (cy : Int) (aoE : Option Addr) (capE : Nat) (E : List Int), i = .int .i64 k ∧ c = .int .i64 cy ∧ v = .slice aoE k capE ∧ 0 ≤ cy ∧ cy ≤ 1 ∧ k + cy ≤ n1 + n2 + 1 ∧ Own .u8 5 wr w.heap.size aoE k capE E ∧ Dg 10 E ∧ Hid (pv 10 E + 10 ^ k * cy = pv 10 (A.take k) + pv 10 (B.take k)) ∧ Below w.heap.size w wr)
    (fun _ c i _ => (n1 + n2 + 1 - (intOf i).toNat) * 10 + (intOf c).toNat)
  case atStart => exact ⟨0, 0, none, 0, [], rfl, rfl, rfl, by omega, by omega, by omega, Own.nil _ _ _ _, Dg.nil _, hide (by simp [pv]), Below.refl _ _⟩
  case round =>
    obtain ⟨k, cy, aoE, capE, E, rfl, rfl, rfl, hc0, hc1, hkb, hOE, hED, hEp, hbr⟩ := hrel
    have hws := hbr.size
    have hEl : E.length = k := hOE.1
    by_cases h1 : k < n1
    · by_cases h2 : k < n2
      · skip
        obtain ⟨b1, off1, rfl, hcell1⟩ := hR1.at h1
        obtain ⟨d1, hd1⟩ : ∃ d, d = A.getD k 0 := ⟨_, rfl⟩
        have hdb1 : 0 ≤ d1 ∧ d1 < 10 := by rw [hd1]; exact hD1.getD (by decide) k
        have hck1 := (bcell hbr (World.block_lt_of_cell? w _ (hcell1 k h1))).trans (hcell1 k h1)
        rw [← hd1] at hck1
        have HD1 := hide hd1
        clear hd1 hcell1
        obtain ⟨b2, off2, rfl, hcell2⟩ := hR2.at h2
        obtain ⟨d2, hd2⟩ : ∃ d, d = B.getD k 0 := ⟨_, rfl⟩
        have hdb2 : 0 ≤ d2 ∧ d2 < 10 := by rw [hd2]; exact hD2.getD (by decide) k
        have hck2 := (bcell hbr (World.block_lt_of_cell? w _ (hcell2 k h2))).trans (hcell2 k h2)
        rw [← hd2] at hck2
        have HD2 := hide hd2
        clear hd2 hcell2
        have HEP : Hid (pv 10 (E ++ [(cy + d1 + d2) % 10]) + 10 ^ (k + 1) * ((cy + d1 + d2) / 10) = pv 10 (A.take (k + 1)) + pv 10 (B.take (k + 1))) := by
          rw [pv_snoc, hEl, Int.pow_succ, pv_take_any, pv_take_any, ← HD1.out, ← HD2.out]
          exact hide (radd_step hEp.out)
        go_wp2_with (first | (at_builtin; refine wpList_append_one wr rfl _ _ 27 rfl 5 i0 (.int .u8 0) 1 Try.underlying27 hi hz0 hz1 hz2 rfl .u8 w.heap.size aoE k capE E _ rfl hOE rfl (by omega) (by omega) hws ?_) | fail)
        · intro ao' cap' w5 hO5 hg5
          have HB := hide (hbr.grown hg5 hws (fun b hb => (hOE.lt b hb).1))
          have HO := hide hO5
          clear hO5 hg5 hOE hbr hEl
          go_wp2
          go_roundw
          case rel => exact ⟨k + 1, (cy + d1 + d2) / 10, ao', cap', E ++ [(cy + d1 + d2) % 10], by go_num, rfl, rfl, by omega, by omega, by omega, HO.out, hED.append (Dg.cons (by omega) (by omega) (Dg.nil _)), HEP, HB.out⟩
          case measure => simp [intOf]; omega
      · skip
        obtain ⟨b1, off1, rfl, hcell1⟩ := hR1.at h1
        obtain ⟨d1, hd1⟩ : ∃ d, d = A.getD k 0 := ⟨_, rfl⟩
        have hdb1 : 0 ≤ d1 ∧ d1 < 10 := by rw [hd1]; exact hD1.getD (by decide) k
        have hck1 := (bcell hbr (World.block_lt_of_cell? w _ (hcell1 k h1))).trans (hcell1 k h1)
        rw [← hd1] at hck1
        have HD1 := hide hd1
        clear hd1 hcell1
        have HZ2 : Hid (B.getD k 0 = 0) := hide (by rw [List.getD_eq_getElem?_getD, List.getElem?_eq_none (by have := hR2.1; omega)]; rfl)
        have HEP : Hid (pv 10 (E ++ [(cy + d1) % 10]) + 10 ^ (k + 1) * ((cy + d1) / 10) = pv 10 (A.take (k + 1)) + pv 10 (B.take (k + 1))) := by
          rw [pv_snoc, hEl, Int.pow_succ, pv_take_any, pv_take_any, ← HD1.out, HZ2.out]
          have h9 := radd_step (a := d1) (b := 0) hEp.out
          simp only [Int.add_zero] at h9
          simp only [Int.mul_zero, Int.add_zero] at h9 ⊢
          exact hide h9
        go_wp2_with (first | (at_builtin; refine wpList_append_one wr rfl _ _ 27 rfl 5 i0 (.int .u8 0) 1 Try.underlying27 hi hz0 hz1 hz2 rfl .u8 w.heap.size aoE k capE E _ rfl hOE rfl (by omega) (by omega) hws ?_) | fail)
        · intro ao' cap' w5 hO5 hg5
          have HB := hide (hbr.grown hg5 hws (fun b hb => (hOE.lt b hb).1))
          have HO := hide hO5
          clear hO5 hg5 hOE hbr hEl
          go_wp2
          go_roundw
          case rel => exact ⟨k + 1, (cy + d1) / 10, ao', cap', E ++ [(cy + d1) % 10], by go_num, rfl, rfl, by omega, by omega, by omega, HO.out, hED.append (Dg.cons (by omega) (by omega) (Dg.nil _)), HEP, HB.out⟩
          case measure => simp [intOf]; omega
    · by_cases h2 : k < n2
      · skip
        have HZ1 : Hid (A.getD k 0 = 0) := hide (by rw [List.getD_eq_getElem?_getD, List.getElem?_eq_none (by have := hR1.1; omega)]; rfl)
        obtain ⟨b2, off2, rfl, hcell2⟩ := hR2.at h2
        obtain ⟨d2, hd2⟩ : ∃ d, d = B.getD k 0 := ⟨_, rfl⟩
        have hdb2 : 0 ≤ d2 ∧ d2 < 10 := by rw [hd2]; exact hD2.getD (by decide) k
        have hck2 := (bcell hbr (World.block_lt_of_cell? w _ (hcell2 k h2))).trans (hcell2 k h2)
        rw [← hd2] at hck2
        have HD2 := hide hd2
        clear hd2 hcell2
        have HEP : Hid (pv 10 (E ++ [(cy + d2) % 10]) + 10 ^ (k + 1) * ((cy + d2) / 10) = pv 10 (A.take (k + 1)) + pv 10 (B.take (k + 1))) := by
          rw [pv_snoc, hEl, Int.pow_succ, pv_take_any, pv_take_any, HZ1.out, ← HD2.out]
          have h9 := radd_step (a := 0) (b := d2) hEp.out
          simp only [Int.add_zero] at h9
          simp only [Int.mul_zero, Int.add_zero] at h9 ⊢
          exact hide h9
        go_wp2_with (first | (at_builtin; refine wpList_append_one wr rfl _ _ 27 rfl 5 i0 (.int .u8 0) 1 Try.underlying27 hi hz0 hz1 hz2 rfl .u8 w.heap.size aoE k capE E _ rfl hOE rfl (by omega) (by omega) hws ?_) | fail)
        · intro ao' cap' w5 hO5 hg5
          have HB := hide (hbr.grown hg5 hws (fun b hb => (hOE.lt b hb).1))
          have HO := hide hO5
          clear hO5 hg5 hOE hbr hEl
          go_wp2
          go_roundw
          case rel => exact ⟨k + 1, (cy + d2) / 10, ao', cap', E ++ [(cy + d2) % 10], by go_num, rfl, rfl, by omega, by omega, by omega, HO.out, hED.append (Dg.cons (by omega) (by omega) (Dg.nil _)), HEP, HB.out⟩
          case measure => simp [intOf]; omega
      · by_cases hcy : cy = 0
        · subst hcy
          have HEV : Hid (pv 10 E = V + U) := by
            have h3 := hEp.out
            rw [List.take_of_length_le (by have := hR1.1; omega), List.take_of_length_le (by have := hR2.1; omega), HV.out, HU.out, Int.mul_zero, Int.add_zero] at h3
            exact hide h3
          clear hEl hEp
          go_wp2_with fail
          refine (trim_any w.heap.size aoE k capE E wr hOE (by omega)).mono ?_
          rintro e w3 ⟨m3, rfl, hO3, hw3⟩
          subst hw3
          go_wp2
          go_ret
          refine ⟨aoE, m3, capE, rfl, ?_, hbr⟩
          have h := isDec_chop hO3 hED
          rw [HEV.out] at h
          exact h
        · have hcp : 0 < cy := by omega
          clear hcy
          have HZ1 : Hid (A.getD k 0 = 0) := hide (by rw [List.getD_eq_getElem?_getD, List.getElem?_eq_none (by have := hR1.1; omega)]; rfl)
          have HZ2 : Hid (B.getD k 0 = 0) := hide (by rw [List.getD_eq_getElem?_getD, List.getElem?_eq_none (by have := hR2.1; omega)]; rfl)
          have HEP : Hid (pv 10 (E ++ [cy % 10]) + 10 ^ (k + 1) * (cy / 10) = pv 10 (A.take (k + 1)) + pv 10 (B.take (k + 1))) := by
            rw [pv_snoc, hEl, Int.pow_succ, pv_take_any, pv_take_any, HZ1.out, HZ2.out]
            have h9 := radd_step (a := 0) (b := 0) hEp.out
            simp only [Int.add_zero] at h9
            simp only [Int.mul_zero, Int.add_zero] at h9 ⊢
            exact hide h9
          go_wp2_with (first | (at_builtin; refine wpList_append_one wr rfl _ _ 27 rfl 5 i0 (.int .u8 0) 1 Try.underlying27 hi hz0 hz1 hz2 rfl .u8 w.heap.size aoE k capE E _ rfl hOE rfl (by omega) (by omega) hws ?_) | fail)
          · intro ao' cap' w5 hO5 hg5
            have HB := hide (hbr.grown hg5 hws (fun b hb => (hOE.lt b hb).1))
            have HO := hide hO5
            clear hO5 hg5 hOE hbr hEl
            go_wp2
            go_roundw
            case rel => exact ⟨k + 1, cy / 10, ao', cap', E ++ [cy % 10], by go_num, rfl, rfl, by omega, by omega, by omega, HO.out, hED.append (Dg.cons (by omega) (by omega) (Dg.nil _)), HEP, HB.out⟩
            case measure => simp [intOf]; omega


theorem strOfNums_append (a b : List Int) : strOfNums a ++ strOfNums b = strOfNums (a ++ b) := by
  apply ByteArray.ext
  rw [ByteArray.data_append]
  simp [strOfNums]

set_option maxHeartbeats 400000 in
theorem print_any (ao : Option Addr) (n cap : Nat) (D : List Int) (w : World) (hR : Reads .u8 w ao n D) (hD : Dg 10 D) (hn : n ≤ 10000000) :
    Calls Try.prog 12 #[.slice ao n cap] w fun e w' => e = .returned (.string (decStr D)) ∧ Below w.heap.size w w' := by
  go_enter Try.func12, Try.ntmps12
  go_wp2
  go_loopw [3, 4] (fun v i wr => ∃ (k : Nat) (S : ByteArray), k ≤ n ∧ i = .int .i64 k ∧ v = .string S ∧ S.size ≤ k ∧ Hid (S = strOfNums (asc (D.take k)).reverse) ∧ Below w.heap.size w wr)
    (fun _ i _ => n - (intOf i).toNat)
  case atStart => exact ⟨0, _, Nat.zero_le _, rfl, rfl, Nat.le_refl _, hide rfl, Below.refl _ _⟩
  case round =>
    obtain ⟨k, S, hk, rfl, rfl, hSs, hS, hbr⟩ := hrel
    have hws := hbr.size
    by_cases hlt : k < n
    · obtain ⟨b, off, rfl, hcell⟩ := hR.at hlt
      obtain ⟨d, hd⟩ : ∃ d, d = D.getD k 0 := ⟨_, rfl⟩
      have hdb : 0 ≤ d ∧ d < 10 := by rw [hd]; exact hD.getD (by decide) k
      have hck := (bcell hbr (World.block_lt_of_cell? w _ (hcell k hlt))).trans (hcell k hlt)
      rw [← hd] at hck
      have HD := hide hd
      have hcv := run_convert_bytes_arg (P := Try.prog) (wr.alloc (.cells #[.int .u8 (48 + d)] 5)) 26 5 Try.underlying26 Try.underlying5 wr.heap.size 0 1 1 [48 + d] rfl (by intro i hi; obtain rfl : i = 0 := (by omega); simp) 9 Try.underlying9
      have HS : Hid (strOfNums [48 + d] ++ S = strOfNums (asc (D.take (k + 1))).reverse) := by
        rw [hS.out, strOfNums_append, take_getD D k (by have := hR.1; omega), asc_append, List.reverse_append, ← hd]
        exact hide rfl
      have HB := hide (hbr.alloc hws (.cells #[.int .u8 (48 + d)] 5))
      have hsz1 : (strOfNums [48 + d]).size = 1 := strOfNums_size _
      clear hd hcell hS hbr
      go_wp2
      go_roundw
      case rel => exact ⟨k + 1, _, by omega, by go_num, rfl, by rw [ByteArray.size_append, hsz1]; omega, HS, HB.out⟩
      case measure => simp [intOf]; omega
    · have HE : Hid (D.take k = D) := hide (List.take_of_length_le (by have := hR.1; omega))
      by_cases h0 : n = 0
      · have HE0 : Hid (decStr D = strOfNums [48]) := hide (by rw [decStr, if_pos (List.eq_nil_of_length_eq_zero (by rw [hR.1]; exact h0))])
        have hS0 : S = ⟨#[]⟩ := by
          rw [hS.out, HE.out, List.eq_nil_of_length_eq_zero (show D.length = 0 by rw [hR.1]; exact h0)]; rfl
        subst hS0
        clear h0
        go_wp2
        go_ret
        exact ⟨by rw [HE0.out]; rfl, hbr⟩
      · have HE0 : Hid (decStr D = S) := hide (by rw [decStr, if_neg (by intro h; rw [h] at hR; have := hR.1; simp at this; omega), hS.out, HE.out])
        have hne : 0 < S.size := by rw [hS.out, strOfNums_size, List.length_reverse, asc_length, HE.out, hR.1]; omega
        have hSe : S.toList.isEmpty = false := by
          rw [ByteArray.toList_eq]
          cases hx : S.data.toList with
          | nil =>
            have h1 : S.size = ([] : List UInt8).length := by rw [← hx]; rfl
            rw [List.length_nil] at h1
            omega
          | cons a r => rfl
        clear h0
        go_wp2
        go_ret
        exact ⟨by rw [HE0.out]; rfl, hbr⟩

end Go.Proofs.Ytceofnkjdkbebaa
