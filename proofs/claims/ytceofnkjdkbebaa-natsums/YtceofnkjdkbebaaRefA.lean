/- Contracts of the document's answer for layer 1: trim, Times, Of, Small. -/
import Derived.Test.YtceofnkjdkbebaaNatG
namespace Go.Proofs.Ytceofnkjdkbebaa
open Go.RowKit
set_option linter.unusedVariables false
set_option linter.unusedSimpArgs false

/-- The slice (ao, m) holds the decimal digits of V, the lowest first, without noughts at the end. -/
def IsDec (w : World) (ao : Option Addr) (m : Nat) (V : Int) : Prop := ∃ D, Reads .u8 w ao m D ∧ Dg 10 D ∧ Nz D ∧ pv 10 D = V

theorem IsDec.kept {w w' : World} {ao : Option Addr} {m : Nat} {V : Int} (h : IsDec w ao m V) (hb : Below w.heap.size w w') : IsDec w' ao m V := by
  obtain ⟨ds, hR, r⟩ := h
  exact ⟨ds, hR.kept hb, r⟩

theorem IsDec.nil (w : World) (ao : Option Addr) : IsDec w ao 0 0 := ⟨[], Reads.nil _ _ _, Dg.nil _, Or.inl rfl, rfl⟩

theorem IsDec.len {w : World} {ao : Option Addr} {m : Nat} {V : Int} (h : IsDec w ao m V) {K : Nat} (hK : V < 10 ^ K) : m ≤ K := by
  obtain ⟨D, hR, hD, hN, rfl⟩ := h
  by_cases h0 : D = []
  · have := hR.1; rw [h0] at this; simp at this; omega
  · have h1 := pv_lower (by decide) hD hN h0
    rw [hR.1] at h1
    by_cases hm : m ≤ K
    · exact hm
    · have := pow_mono (show (1 : Int) < 10 by decide) (show K ≤ m - 1 by omega)
      omega

theorem isDec_chop {w : World} {ao : Option Addr} {m cap base : Nat} {zs : List Int} (hO : Own .u8 5 w base ao m cap (chop zs)) (hD : Dg 10 zs) : IsDec w ao m (pv 10 zs) :=
  ⟨chop zs, hO.reads, chop_Dg hD, chop_Nz zs, chop_pv _ zs⟩

set_option maxHeartbeats 400000 in
theorem trim_any (base : Nat) (ao : Option Addr) (n cap : Nat) (zs : List Int) (w : World) (hO : Own .u8 5 w base ao n cap zs) (hn : n ≤ 140737488355328) :
    Calls Try.prog 22 #[.slice ao n cap] w fun e w' => ∃ m, e = .returned (.slice ao m cap) ∧ Own .u8 5 w base ao m cap (chop zs) ∧ w' = w := by
  have hcap := hO.le_cap
  go_enter Try.func22, Try.ntmps22
  go_wp2
  go_loop [3] (fun i => ∃ k : Nat, k ≤ n ∧ i = .int .i64 k ∧ Hid (chop (zs.take k) = chop zs)) (fun i => (intOf i).toNat)
  case atStart => exact ⟨n, Nat.le_refl _, rfl, hide (by rw [← hO.1, List.take_length])⟩
  case round =>
    obtain ⟨k, hk, rfl, hch⟩ := hrel
    by_cases hk0 : k = 0
    · subst hk0
      have HO : Hid (Own .u8 5 w base ao 0 cap (chop zs)) := by
        rw [← hch.out, List.take_zero]
        exact hide (by simpa [chop] using hO.take (m := 0) (by omega))
      clear hch
      go_wp2
      go_ret
      exact ⟨0, rfl, HO.out, rfl⟩
    · obtain ⟨j, rfl⟩ : ∃ j, k = j + 1 := ⟨k - 1, by omega⟩
      obtain ⟨g, rfl, hbg, hgs, hcell, _⟩ := hO.at (i := j) (by omega)
      have hc := hcell j (by omega)
      obtain ⟨d, hd⟩ : ∃ d, d = zs.getD j 0 := ⟨_, rfl⟩
      rw [← hd] at hc
      have HD := hide hd
      clear hd hcell hk0
      by_cases hz : d = 0
      · subst hz
        have HR : Hid (chop (zs.take j) = chop zs) := by
          rw [← hch.out]
          exact hide (chop_take_succ zs j HD.out.symm).symm
        clear hch
        go_wp2
        go_round
        case rel => exact ⟨j, by omega, by go_num, HR⟩
        case measure => simp [intOf]
      · have hz' : (d == 0) = false := by simp; omega
        have HR : Hid (chop zs = zs.take (j + 1)) := by
          rw [← hch.out]
          exact hide (chop_of_Nz (Nz_take zs j (by have := hO.1; omega) (by rw [← HD.out]; exact hz)))
        clear hz hch
        go_wp2
        go_ret
        refine ⟨j + 1, ret_slice (by omega) rfl, ?_, rfl⟩
        rw [HR.out]
        exact hO.take (by omega)

theorem dec_step {P T c x d A m : Int} (h : P + T * c = A * x + m) : P + T * ((c + x * d) % 10) + T * 10 * ((c + x * d) / 10) = (A + T * d) * x + m := by
  have e : c + x * d = (c + x * d) % 10 + 10 * ((c + x * d) / 10) := by omega
  have h2 : T * (c + x * d) = T * ((c + x * d) % 10) + T * 10 * ((c + x * d) / 10) := by
    conv => lhs; rw [e]
    rw [Int.mul_add, Int.mul_assoc]
  rw [Int.add_mul, Int.mul_assoc T d x, Int.mul_comm d x]
  rw [Int.mul_add] at h2
  omega

set_option maxHeartbeats 800000 in
theorem rtimes_any (ao : Option Addr) (n cap : Nat) (V x m : Int) (w : World) (hN : IsDec w ao n V) (hn : n ≤ 100000) (hx : 0 ≤ x ∧ x ≤ 4294967296) (hm : 0 ≤ m ∧ m < 4294967296) :
    Calls Try.prog 16 #[.slice ao n cap, .int .u64 x, .int .u64 m] w fun e w' => ∃ ao' m' cap', e = .returned (.slice ao' m' cap') ∧ IsDec w' ao' m' (V * x + m) ∧ Below w.heap.size w w' := by
  obtain ⟨i0, hi, hz0, hz1, hz2⟩ := info_parts info_byte
  obtain ⟨A, hR, hD, hNz, hV⟩ := hN
  have HV := hide hV
  clear hV
  go_enter Try.func16, Try.ntmps16
  go_wp2
  go_loopw [7, 8, 9] (fun v c i wr => ∃ (k : Nat) (cy : Int) (aoE : Option Addr) (capE : Nat) (E : List Int), i = .int .i64 k ∧ c = .int .u64 cy ∧ v = .slice aoE k capE ∧ 0 ≤ cy ∧ cy < 8589934592 ∧ (k ≤ n ∨ k + cy ≤ n + 8589934592) ∧ Own .u8 5 wr w.heap.size aoE k capE E ∧ Dg 10 E ∧ Hid (pv 10 E + 10 ^ k * cy = pv 10 (A.take k) * x + m) ∧ Below w.heap.size w wr)
    (fun _ c i _ => (n - (intOf i).toNat) * 8589934592 + (intOf c).toNat)
  case atStart => exact ⟨0, m, none, 0, [], rfl, rfl, rfl, hm.1, by omega, by omega, Own.nil _ _ _ _, Dg.nil _, hide (by simp [pv]), Below.refl _ _⟩
  case round =>
    obtain ⟨k, cy, aoE, capE, E, rfl, rfl, rfl, hc0, hc1, hkb, hOE, hED, hEp, hbr⟩ := hrel
    have hws := hbr.size
    by_cases hlt : k < n
    · obtain ⟨b, off, rfl, hcell⟩ := hR.at hlt
      obtain ⟨d, hd⟩ : ∃ d, d = A.getD k 0 := ⟨_, rfl⟩
      have hdb : 0 ≤ d ∧ d < 10 := by rw [hd]; exact hD.getD (by decide) k
      have hck := (bcell hbr (World.block_lt_of_cell? w _ (hcell k hlt))).trans (hcell k hlt)
      rw [← hd] at hck
      have HD := hide hd
      have hxd : 0 ≤ x * d ∧ x * d ≤ 38654705664 := by
        refine ⟨Int.mul_nonneg hx.1 hdb.1, ?_⟩
        have h1 : x * d ≤ 4294967296 * d := Int.mul_le_mul_of_nonneg_right hx.2 hdb.1
        omega
      clear hd hcell
      go_wp2_with (first | (at_builtin; refine wpList_append_one wr rfl _ _ 27 rfl 5 i0 (.int .u8 0) 1 Try.underlying27 hi hz0 hz1 hz2 rfl .u8 w.heap.size aoE k capE E _ rfl hOE rfl (by omega) (by omega) hws ?_) | fail)
      · intro ao' cap' w5 hO5 hg5
        have hEl : E.length = k := hOE.1
        have HEP : Hid (pv 10 (E ++ [(cy + x * d) % 10]) + 10 ^ (k + 1) * ((cy + x * d) / 10) = pv 10 (A.take (k + 1)) * x + m) := by
          rw [pv_snoc, hEl, Int.pow_succ, pv_take_succ _ _ _ (by have := hR.1; omega), ← HD.out]
          exact hide (dec_step hEp.out)
        have HB := hide (hbr.grown hg5 hws (fun b hb => (hOE.lt b hb).1))
        have HO := hide hO5
        clear hO5 hg5 hOE hbr hEl
        go_wp2
        go_roundw
        case rel => exact ⟨k + 1, (cy + x * d) / 10, ao', cap', E ++ [(cy + x * d) % 10], by go_num, rfl, rfl, by omega, by omega, by omega, HO.out, hED.append (Dg.cons (by omega) (by omega) (Dg.nil _)), HEP, HB.out⟩
        case measure => simp [intOf]; omega
    · have htk : A.take k = A := List.take_of_length_le (by have := hR.1; omega)
      have hEl : E.length = k := hOE.1
      by_cases hcy : cy = 0
      · subst hcy
        have hEV : pv 10 E = V * x + m := by
          have h1 := hEp.out
          rw [htk, HV.out, Int.mul_zero, Int.add_zero] at h1
          exact h1
        have HEV := hide hEV
        clear htk hEl hEV hEp
        go_wp2_with fail
        refine (trim_any w.heap.size aoE k capE E wr hOE (by omega)).mono ?_
        rintro e w3 ⟨m3, rfl, hO3, hw3⟩
        subst hw3
        go_wp2
        go_ret
        refine ⟨aoE, m3, capE, rfl, ?_, hbr⟩
        have h := isDec_chop hO3 hED
        rw [HEV.out] at h
        exact h
      · have hcp : 0 < cy := by omega
        have HEP : Hid (pv 10 (E ++ [cy % 10]) + 10 ^ (k + 1) * (cy / 10) = pv 10 (A.take (k + 1)) * x + m) := by
          rw [pv_snoc, hEl, Int.pow_succ, List.take_of_length_le (show A.length ≤ k + 1 by have := hR.1; omega)]
          have h1 := hEp.out
          rw [htk] at h1
          exact hide (digit_step h1)
        clear htk hEl hcy
        go_wp2_with (first | (at_builtin; refine wpList_append_one wr rfl _ _ 27 rfl 5 i0 (.int .u8 0) 1 Try.underlying27 hi hz0 hz1 hz2 rfl .u8 w.heap.size aoE k capE E _ rfl hOE rfl (by omega) (by omega) hws ?_) | fail)
        · intro ao' cap' w5 hO5 hg5
          have HB := hide (hbr.grown hg5 hws (fun b hb => (hOE.lt b hb).1))
          have HO := hide hO5
          clear hO5 hg5 hOE hbr
          go_wp2
          go_roundw
          case rel => exact ⟨k + 1, cy / 10, ao', cap', E ++ [cy % 10], by go_num, rfl, rfl, by omega, by omega, by omega, HO.out, hED.append (Dg.cons (by omega) (by omega) (Dg.nil _)), HEP, HB.out⟩
          case measure => simp [intOf]; omega

/-- The number of n limbs has at most ten times as many digits. -/
theorem limbs_lt {zs : List Int} {n : Nat} (hD : Dg 4294967296 zs) (hl : zs.length ≤ n) : pv 4294967296 zs < 10 ^ (10 * n) := by
  have h1 := (pv_bound (by decide) hD).2
  have h2 : (4294967296 : Int) ^ zs.length ≤ 10 ^ (10 * zs.length) := by rw [Int.pow_mul]; exact (pow_base (by decide) (by decide) _).2
  have h3 := pow_mono (show (1 : Int) < 10 by decide) (show 10 * zs.length ≤ 10 * n by omega)
  omega

set_option maxHeartbeats 400000 in
theorem rof_any (ao : Option Addr) (n cap : Nat) (zs : List Int) (w : World) (hR : Reads .u32 w ao n zs) (hD : Dg 4294967296 zs) (hn : n ≤ 1000) :
    Calls Try.prog 9 #[.slice ao n cap] w fun e w' => ∃ ao' m cap', e = .returned (.slice ao' m cap') ∧ IsDec w' ao' m (pv 4294967296 zs) ∧ m ≤ 10 * n ∧ Below w.heap.size w w' := by
  go_enter Try.func9, Try.ntmps9
  go_wp2
  go_loopw [3, 4] (fun v i wr => ∃ (k : Nat) (aoE : Option Addr) (mE capE : Nat), k ≤ n ∧ i = .int .i64 ((k : Int) - 1) ∧ v = .slice aoE mE capE ∧ IsDec wr aoE mE (pv 4294967296 (zs.drop k)) ∧ mE ≤ 10 * n ∧ Below w.heap.size w wr)
    (fun _ i _ => (intOf i + 1).toNat)
  case atStart => exact ⟨n, none, 0, 0, Nat.le_refl _, rfl, rfl, by rw [← hR.1, List.drop_length]; exact IsDec.nil _ _, by omega, Below.refl _ _⟩
  case round =>
    obtain ⟨k, aoE, mE, capE, hk, rfl, rfl, hE, hmE, hbr⟩ := hrel
    by_cases hk0 : k = 0
    · subst hk0
      rw [List.drop_zero] at hE
      go_wp2
      go_ret
      exact ⟨aoE, mE, capE, rfl, hE, hmE, hbr⟩
    · obtain ⟨j, rfl⟩ : ∃ j, k = j + 1 := ⟨k - 1, by omega⟩
      obtain ⟨b, off, rfl, hcell⟩ := hR.at (i := j) (by omega)
      obtain ⟨z, hz⟩ : ∃ z, z = zs.getD j 0 := ⟨_, rfl⟩
      have hzb : 0 ≤ z ∧ z < 4294967296 := by rw [hz]; exact hD.getD (by decide) j
      have hck := (bcell hbr (World.block_lt_of_cell? w _ (hcell j (by omega)))).trans (hcell j (by omega))
      rw [← hz] at hck
      have HZ := hide hz
      clear hz hcell hk0
      go_wp2_with fail
      refine (rtimes_any aoE mE capE _ 4294967296 z wr hE (by omega) (by omega) hzb).mono ?_
      rintro e w3 ⟨ao3, m3, cap3, rfl, h3, hb3⟩
      have hV3 : pv 4294967296 (zs.drop (j + 1)) * 4294967296 + z = pv 4294967296 (zs.drop j) := by
        rw [drop_getD zs j (by have := hR.1; omega), ← HZ.out, pv, Int.mul_comm]; omega
      rw [hV3] at h3
      have hm3 := h3.len (limbs_lt (n := n) (hD.drop j) (by rw [List.length_drop]; have := hR.1; omega))
      have hb3' := hbr.trans (hb3.mono hbr.size)
      clear hV3
      go_wp2
      go_roundw
      case rel => exact ⟨j, ao3, m3, cap3, by omega, by go_num, rfl, h3, hm3, hb3'⟩
      case measure => simp [intOf]

end Go.Proofs.Ytceofnkjdkbebaa
