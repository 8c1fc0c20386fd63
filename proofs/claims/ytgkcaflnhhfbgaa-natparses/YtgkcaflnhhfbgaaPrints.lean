/- Printed digits, read again; the walk of the statement NatPrints. -/
import Derived.Test.YtgkcaflnhhfbgaaParseA
namespace Go.Proofs.Ytgkcaflnhhfbgaa
open Go.RowKit
set_option linter.unusedVariables false
set_option linter.unusedSimpArgs false

theorem nums_str {l : List Int} (h : ∀ c ∈ l, 0 ≤ c ∧ c < 256) : nums (strOfNums l) = l := by
  rw [nums, strOfNums_data, List.map_map]
  conv => rhs; rw [← List.map_id l]
  apply List.map_congr_left
  intro c hc
  have := h c hc
  simp only [Function.comp, id]
  rw [UInt8.toNat_ofNat']
  omega

theorem asc_range {D : List Int} (hD : Dg 10 D) : ∀ c ∈ asc D, 48 ≤ c ∧ c ≤ 57 := by
  intro c hc
  obtain ⟨d, hd, rfl⟩ := List.mem_map.1 hc
  have := hD d hd
  omega

theorem tv_asc (D : List Int) : tv (asc D).reverse = pv 10 D := by
  induction D with
  | nil => rfl
  | cons d r ih =>
    show tv ((48 + d) :: asc r).reverse = _
    rw [List.reverse_cons, tv_snoc, ih, pv]
    omega

theorem dec_nums {D : List Int} (hD : Dg 10 D) (hN : Nz D) : printed (nums (decStr D)) = true ∧ tv (nums (decStr D)) = pv 10 D ∧ (decStr D).size ≤ D.length + 1 := by
  by_cases h0 : D = []
  · subst h0
    rw [decStr, if_pos rfl, nums_str (by intro c hc; simp at hc; omega)]
    exact ⟨by decide, by decide, by rw [strOfNums_size]; simp⟩
  · have hr : ∀ c ∈ (asc D).reverse, 48 ≤ c ∧ c ≤ 57 := fun c hc => asc_range hD c (List.mem_reverse.1 hc)
    rw [decStr, if_neg h0, nums_str (fun c hc => by have := hr c hc; omega)]
    refine ⟨?_, tv_asc D, by rw [strOfNums_size, List.length_reverse, asc_length]; omega⟩
    have hl : 0 < D.length := List.length_pos_iff.2 h0
    have hall : (asc D).reverse.all isDg = true := by
      rw [List.all_eq_true]
      intro c hc
      have := hr c hc
      simp [isDg, this]
    have hne : (asc D).reverse.isEmpty = false := by
      rw [List.isEmpty_eq_false_iff]
      intro e
      have := congrArg List.length e
      rw [List.length_reverse, asc_length, List.length_nil] at this
      omega
    have hh : (asc D).reverse.getD 0 0 = 48 + D.getD (D.length - 1) 0 := by
      rw [List.getD_eq_getElem?_getD, List.getElem?_reverse (by rw [asc_length]; exact hl), asc_length, asc, List.getElem?_map, List.getD_eq_getElem?_getD, Nat.sub_zero, List.getElem?_eq_getElem (by omega)]
      rfl
    have hz : D.getD (D.length - 1) 0 ≠ 0 := by
      rcases hN with h | h
      · exact absurd h h0
      · exact h
    have hb : (((asc D).reverse.getD 0 0) != 48) = true := by rw [hh, bne_iff_ne]; omega
    rw [printed, hall, hne, hb]
    simp

set_option maxHeartbeats 1000000 in
theorem prints_walk (a0 : Option Addr) (len0 cap0 : Nat) (z0 : List Int) (w : World) (r0 : IsRow .u32 w a0 len0 cap0 z0) :
    Calls Try.prog 3 #[.slice a0 len0 cap0] w fun e w' => e = .returned (.bool true) ∧ Below w.heap.size w w' := by
  obtain ⟨hR0, hm0⟩ := r0.reads
  have hD0 := r0.dg
  generalize z0.take len0 = x0 at hR0 hD0
  clear r0
  go_enter Try.func3, Try.ntmps3
  go_wp2_with fail
  refine (few_any _ 1 1 [(a0, len0, cap0)] _ ?_ rfl (by omega) (by intro x hx; simp at hx; rcases hx with rfl; assumption)).mono ?_
  · refine Or.inr ⟨w.heap.size, 0, rfl, fun i hi => ?_⟩
    match i, hi with
    | 0, _ => simp
  rintro e w1 ⟨rfl, hw1⟩
  have hb1 : Below w.heap.size w w1 := by rw [hw1]; exact below_alloc _ _
  clear hw1
  by_cases hl0 : len0 ≤ 20
  · have hall : ([(a0, len0, cap0)].all (fun x => decide (x.2.1 ≤ 20))) = true := by simp [hl0]
    rw [hall]
    clear hall
    go_wp2_with fail
    refine (of_nat a0 len0 cap0 x0 w1 (hR0.kept hb1) hD0 (by omega)).mono ?_
    rintro e w2 ⟨aoX, mX, rfl, hX, hmX, hb⟩
    have hb2 := hb1.trans (hb.mono hb1.size)
    clear hb
    go_wp2_with fail
    obtain ⟨W2, hW2, hb, hc1, hs1⟩ := one_box w2 (.slice aoX mX mX) 26
    rw [← hW2]
    have hX := hX.kept hb
    have hB2 := hb2.trans (hb.mono hb2.size)
    clear hb hW2
    refine (rof_any a0 len0 cap0 x0 W2 (hR0.kept hB2) hD0 (by omega)).mono ?_
    rintro e w3 ⟨aoA, mA, capA, rfl, hA, hmA, hb⟩
    have hX := hX.kept hb
    have hc1 := (bcell hb hs1).trans hc1
    have hs3 : w2.heap.size < w3.heap.size := by have := hb.size; omega
    have hb3 := hB2.trans (hb.mono hB2.size)
    obtain ⟨D1, hR1, hD1, hN1, hV1⟩ := hA
    clear hb
    go_wp2_with fail
    refine (print_any aoA mA capA D1 w3 hR1 hD1 (by omega)).mono ?_
    rintro e w4 ⟨rfl, hb⟩
    have hX := hX.kept hb
    have hc1 := (bcell hb hs3).trans hc1
    have hs4 : w2.heap.size < w4.heap.size := by have := hb.size; omega
    have hb4 := hb3.trans (hb.mono hb3.size)
    have hdn := dec_nums hD1 hN1
    have hD1l := hR1.1
    clear hb
    obtain ⟨T, hT⟩ : ∃ T, T = decStr D1 := ⟨_, rfl⟩
    rw [← hT] at hdn ⊢
    have HT := hide hT
    clear hT
    go_wp2_with fail
    refine (parse_yes T w4 (by have := hdn.2.2; omega) hdn.1).mono ?_
    rintro e w5 ⟨aoY, mY, rfl, hY, hmY, hb⟩
    rw [hdn.2.1, hV1] at hY
    have hmY2 : mY ≤ 201 := by have := hdn.2.2; omega
    have hX := hX.kept hb
    have hc1 := (bcell hb hs4).trans hc1
    have hs5 : w2.heap.size < w5.heap.size := by have := hb.size; omega
    have hb5 := hb4.trans (hb.mono hb4.size)
    clear hb hdn
    obtain ⟨W5, hW5, hb, hc5, hs5'⟩ := one_box w5 (.slice aoY mY mY) 26
    have hX := hX.kept hb
    have hY := hY.kept hb
    have hc1 := (bcell hb hs5).trans hc1
    have hB5 := hb5.trans (hb.mono hb5.size)
    have hsW : w2.heap.size < W5.heap.size := by omega
    have hR5 := hR0.kept hB5
    clear hb
    go_wp2_with fail
    rw [← hW5]
    clear hW5
    go_loop [7] (fun i => ∃ k : Nat, k ≤ len0 ∧ i = .int .i64 k ∧ Hid (chop (x0.take k) = chop x0)) (fun i => (intOf i).toNat)
    case atStart => exact ⟨len0, Nat.le_refl _, rfl, hide (by rw [← hR0.1, List.take_length])⟩
    case round =>
      obtain ⟨k, hk, rfl, hch⟩ := hrel
      by_cases hmore : 0 < k ∧ x0.getD (k - 1) 0 = 0
      · obtain ⟨hk0, hz⟩ := hmore
        obtain ⟨j, rfl⟩ : ∃ j, k = j + 1 := ⟨k - 1, by omega⟩
        rw [Nat.add_sub_cancel] at hz
        obtain ⟨b, off, rfl, hcell⟩ := hR5.at (i := j) (by omega)
        have hcj := hcell j (by omega)
        rw [hz] at hcj
        have HR : Hid (chop (x0.take j) = chop x0) := by
          rw [← hch.out]
          exact hide (chop_take_succ x0 j hz).symm
        clear hch hcell hz
        go_wp2
        go_round
        case rel => exact ⟨j, by omega, by go_num, HR⟩
        case measure => simp [intOf]
      · have HC : Hid (chop x0 = x0.take k) := by
          by_cases hk0 : k = 0
          · have h1 := hch.out
            rw [hk0, List.take_zero] at h1
            rw [hk0, List.take_zero, ← h1]; exact hide rfl
          · have h1 := Nz_take x0 (k - 1) (by have := hR0.1; omega) (fun h => hmore ⟨by omega, h⟩)
            rw [show k - 1 + 1 = k by omega] at h1
            rw [← hch.out]; exact hide (chop_of_Nz h1)
        clear hch
        obtain ⟨dsX, hRX, hDX, hNX, hVX⟩ := hX
        have hX' : IsNat W5 aoX mX (pv 4294967296 x0) := ⟨dsX, hRX, hDX, hNX, hVX⟩
        have hds : dsX = x0.take k := by
          rw [← HC.out]
          exact pv_inj (by decide) hDX (chop_Dg hD0) hNX (chop_Nz x0) (by rw [hVX, chop_pv])
        have hmk : mX = k := by
          have h1 := hRX.1
          rw [hds, List.length_take] at h1
          have := hR0.1
          omega
        subst hmk
        have HDS := hide hds
        have HVX := hide hVX
        clear hds hVX
        by_cases hk0 : mX = 0
        · subst hk0
          go_wp2_with fail
          refine (limbs_any aoX 0 0 dsX W5 hRX (by omega)).mono ?_
          rintro e w6 ⟨g, rfl, hO6, hb⟩
          have hX6 := hX'.kept hb
          have hY6 := hY.kept hb
          have hc1' := (bcell hb hsW).trans hc1
          have hc5' := (bcell hb hs5').trans hc5
          have hs6 : w2.heap.size < w6.heap.size := by have := hb.size; omega
          have hs6' : w5.heap.size < w6.heap.size := by have := hb.size; omega
          have hb6 := hB5.trans (hb.mono hB5.size)
          clear hb
          go_wp2_with fail
          refine (string_any aoX 0 0 _ w6 hX6 (by omega)).mono ?_
          rintro e w7 ⟨D2, rfl, hD2, hN2, hV2, hb⟩
          rw [decStr_eq hD2 hN2 hV2 hD1 hN1 hV1, ← HT.out]
          have hX7 := hX6.kept hb
          have hY7 := hY6.kept hb
          have hO7 := hO6.below hb
          have hc1 := (bcell hb hs6).trans hc1'
          have hc5 := (bcell hb hs6').trans hc5'
          have hs7 : w2.heap.size < w7.heap.size := by have := hb.size; omega
          have hb7 := hb6.trans (hb.mono hb6.size)
          clear hb hc1' hc5' hV2
          go_wp2_with fail
          refine (compare_any aoY aoX mY mY 0 0 _ _ w7 hY7 hX7 (by omega) (by omega)).mono ?_
          rintro e w8 ⟨c, rfl, hc, hb⟩
          obtain rfl : c = 0 := hc.eq rfl
          have hO8 := hO7.below hb
          have hc1 := (bcell hb hs7).trans hc1
          have hb8 := hb7.trans (hb.mono hb7.size)
          clear hb hc hc5
          go_wp2_with fail
          refine (zero_any aoX 0 0 w8 (by omega)).mono ?_
          rintro e w9 ⟨rfl, hb⟩
          have hO9 := hO8.below hb
          have hb9 := hb8.trans (hb.mono hb8.size)
          clear hb
          go_wp2
          refine wp_loop_rounds 1 ?_
          rw [rounds_succ]
          go_wp2_with fail
          refine (awake_any _).mono ?_
          rintro e wa ⟨rfl, hb⟩
          go_wp2
          go_ret
          exact ⟨rfl, hb9.trans (hb.mono hb9.size)⟩
        · obtain ⟨j, rfl⟩ : ∃ j, mX = j + 1 := ⟨mX - 1, by omega⟩
          obtain ⟨b0, off0, hao0, hcell0⟩ := hR5.at (i := j) (by omega)
          subst hao0
          obtain ⟨z0, hz0⟩ : ∃ z, z = x0.getD j 0 := ⟨_, rfl⟩
          have hc0 := hcell0 j (by omega)
          rw [← hz0] at hc0
          have hzn : (z0 == 0) = false := by
            rw [beq_eq_false_iff_ne, hz0]
            intro h
            exact hmore ⟨by omega, by rw [Nat.add_sub_cancel]; exact h⟩
          clear hz0 hcell0 hmore hk0
          go_wp2_with fail
          refine (limbs_any aoX (j + 1) (j + 1) dsX W5 hRX (by omega)).mono ?_
          rintro e w6 ⟨g, rfl, hO6, hb⟩
          have hX6 := hX'.kept hb
          have hY6 := hY.kept hb
          have hc1' := (bcell hb hsW).trans hc1
          have hc5' := (bcell hb hs5').trans hc5
          have hs6 : w2.heap.size < w6.heap.size := by have := hb.size; omega
          have hs6' : w5.heap.size < w6.heap.size := by have := hb.size; omega
          have hb6 := hB5.trans (hb.mono hB5.size)
          clear hb
          go_wp2_with fail
          refine (string_any aoX (j + 1) (j + 1) _ w6 hX6 (by omega)).mono ?_
          rintro e w7 ⟨D2, rfl, hD2, hN2, hV2, hb⟩
          rw [decStr_eq hD2 hN2 hV2 hD1 hN1 hV1, ← HT.out]
          have hX7 := hX6.kept hb
          have hY7 := hY6.kept hb
          have hO7 := hO6.below hb
          have hc1 := (bcell hb hs6).trans hc1'
          have hc5 := (bcell hb hs6').trans hc5'
          have hs7 : w2.heap.size < w7.heap.size := by have := hb.size; omega
          have hb7 := hb6.trans (hb.mono hb6.size)
          clear hb hc1' hc5' hV2
          go_wp2_with fail
          refine (compare_any aoY aoX mY mY (j + 1) (j + 1) _ _ w7 hY7 hX7 (by omega) (by omega)).mono ?_
          rintro e w8 ⟨c, rfl, hc, hb⟩
          obtain rfl : c = 0 := hc.eq rfl
          have hO8 := hO7.below hb
          have hc1 := (bcell hb hs7).trans hc1
          have hb8 := hb7.trans (hb.mono hb7.size)
          clear hb hc hc5
          go_wp2_with fail
          refine (zero_any aoX (j + 1) (j + 1) w8 (by omega)).mono ?_
          rintro e w9 ⟨rfl, hb⟩
          have hO9 := hO8.below hb
          have hb9 := hb8.trans (hb.mono hb8.size)
          clear hb
          have hne0 : decide ((j + 1) = 0) = false := by simp
          rw [hne0]
          clear hne0
          have hRw := hR0.kept hb9
          have hlX := hRX.1
          go_wp2
          go_loopw [9] (fun i wr => ∃ k : Nat, k ≤ (j + 1) ∧ i = .int .i64 k ∧ Below w9.heap.size w9 wr) (fun i _ => (j + 1) - (intOf i).toNat)
          case atStart => exact ⟨0, Nat.zero_le _, rfl, Below.refl _ _⟩
          case round =>
            obtain ⟨k, hk, rfl, hbr⟩ := hrel
            by_cases hlt : k < (j + 1)
            · obtain ⟨b, off, hao, hcell⟩ := (hRw.kept hbr).at (i := k) (by omega)
              simp only [Option.some.injEq, Addr.mk.injEq, and_true] at hao
              obtain ⟨rfl, rfl⟩ := hao
              obtain ⟨g', hg', _, _, hcell2, _⟩ := (hO9.below hbr).at hlt
              simp only [Option.some.injEq, Addr.mk.injEq, and_true] at hg'
              subst hg'
              obtain ⟨z, hz⟩ : ∃ z, z = x0.getD k 0 := ⟨_, rfl⟩
              have ck := hcell k (by omega)
              have ck2 := hcell2 k hlt
              have hdk : dsX.getD k 0 = x0.getD k 0 := by
                rw [HDS.out, List.getD_eq_getElem?_getD, List.getD_eq_getElem?_getD, List.getElem?_take_of_lt hlt]
              rw [hdk, ← hz] at ck2
              rw [← hz] at ck
              clear hz hdk hcell hcell2
              go_wp2
              go_quiet (fail)
              go_wp2
              go_roundw
              case rel => exact ⟨k + 1, by omega, by go_num, below_drewN hbr _⟩
              case measure => simp [intOf]; omega
            · go_wp2_with fail
              refine (awake_any _).mono ?_
              rintro e wa ⟨rfl, hb⟩
              go_wp2
              go_ret
              exact ⟨rfl, (hb9.trans (hbr.mono hb9.size)).trans (hb.mono (by have := hb9.size; have := hbr.size; omega))⟩
  · have hall : ([(a0, len0, cap0)].all (fun x => decide (x.2.1 ≤ 20))) = false := by simp; omega
    rw [hall]
    go_wp2_with fail
    refine (awake_any _).mono ?_
    rintro e w2 ⟨rfl, hb2⟩
    go_wp2
    go_ret
    exact ⟨rfl, hb1.trans (hb2.mono hb1.size)⟩

end Go.Proofs.Ytgkcaflnhhfbgaa
