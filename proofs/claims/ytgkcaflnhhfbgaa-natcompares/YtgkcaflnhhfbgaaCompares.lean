/- The walk of the statement NatCompares. -/
import Derived.Test.YtgkcaflnhhfbgaaLawA
namespace Go.Proofs.Ytgkcaflnhhfbgaa
open Go.RowKit
set_option linter.unusedVariables false
set_option linter.unusedSimpArgs false

set_option maxHeartbeats 2000000 in
theorem compares_walk (a0 : Option Addr) (len0 cap0 : Nat) (z0 : List Int) (a1 : Option Addr) (len1 cap1 : Nat) (z1 : List Int) (w : World) (r0 : IsRow .u32 w a0 len0 cap0 z0) (r1 : IsRow .u32 w a1 len1 cap1 z1) :
    Calls Try.prog 5 #[.slice a0 len0 cap0, .slice a1 len1 cap1] w fun e w' => e = .returned (.bool true) ∧ Below w.heap.size w w' := by
  obtain ⟨hR0, hm0⟩ := r0.reads
  obtain ⟨hR1, hm1⟩ := r1.reads
  have hD0 := r0.dg
  have hD1 := r1.dg
  generalize z0.take len0 = x0 at hR0 hD0
  generalize z1.take len1 = x1 at hR1 hD1
  clear r0 r1
  go_enter Try.func5, Try.ntmps5
  go_wp2_with fail
  refine (few_any _ 2 2 [(a0, len0, cap0), (a1, len1, cap1)] _ ?_ rfl (by omega) (by intro x hx; simp at hx; rcases hx with rfl | rfl <;> assumption)).mono ?_
  · refine Or.inr ⟨w.heap.size, 0, rfl, fun i hi => ?_⟩
    match i, hi with
    | 0, _ => simp
    | 1, _ => simp
  rintro e w1 ⟨rfl, hw1⟩
  have hb1 : Below w.heap.size w w1 := by rw [hw1]; exact below_alloc _ _
  clear hw1
  by_cases hfew : len0 ≤ 20 ∧ len1 ≤ 20
  · obtain ⟨hl0, hl1⟩ := hfew
    have hall : ([(a0, len0, cap0), (a1, len1, cap1)].all (fun x => decide (x.2.1 ≤ 20))) = true := by simp [hl0, hl1]
    rw [hall]
    clear hall
    go_wp2_with fail
    refine (of_nat a0 len0 cap0 x0 w1 (hR0.kept hb1) hD0 (by omega)).mono ?_
    rintro e w2 ⟨aoX, mX, rfl, hX, hmX, hb⟩
    have hb2 := hb1.trans (hb.mono hb1.size)
    clear hb
    go_wp2_with fail
    refine (of_nat a1 len1 cap1 x1 w2 (hR1.kept hb2) hD1 (by omega)).mono ?_
    rintro e w3 ⟨aoY, mY, rfl, hY, hmY, hb⟩
    have hX := hX.kept hb
    have hb3 := hb2.trans (hb.mono hb2.size)
    clear hb
    go_wp2_with fail
    obtain ⟨W3, hW3, hb, hc1, hc2, hs3⟩ := two_boxes w3 (.slice aoX mX mX) (.slice aoY mY mY) 26
    rw [← hW3]
    have hX := hX.kept hb
    have hY := hY.kept hb
    have hb3' := hb3.trans (hb.mono hb3.size)
    clear hb hW3
    refine (rof_any a0 len0 cap0 x0 W3 (hR0.kept hb3') hD0 (by omega)).mono ?_
    rintro e w4 ⟨aoA, mA, capA, rfl, hA, hmA, hb⟩
    have hX := hX.kept hb
    have hY := hY.kept hb
    have hc1 := (bcell hb (by omega)).trans hc1
    have hc2 := (bcell hb (by omega)).trans hc2
    have hs4 : w3.heap.size + 1 < w4.heap.size := by have := hb.size; omega
    have hb4 := hb3'.trans (hb.mono hb3'.size)
    clear hb
    go_wp2_with fail
    refine (rof_any a1 len1 cap1 x1 w4 (hR1.kept hb4) hD1 (by omega)).mono ?_
    rintro e w5 ⟨aoB, mB, capB, rfl, hB, hmB, hb⟩
    have hX := hX.kept hb
    have hY := hY.kept hb
    have hA := hA.kept hb
    have hc1 := (bcell hb (by omega)).trans hc1
    have hc2 := (bcell hb (by omega)).trans hc2
    have hs5 : w3.heap.size + 1 < w5.heap.size := by have := hb.size; omega
    have hb5 := hb4.trans (hb.mono hb4.size)
    clear hb
    go_wp2_with fail
    refine (rcompare_any aoA aoB mA capA mB capB _ _ w5 hA hB (by omega) (by omega)).mono ?_
    rintro e w6 ⟨c, rfl, hc, hb⟩
    have hX := hX.kept hb
    have hY := hY.kept hb
    have hc1 := (bcell hb (by omega)).trans hc1
    have hc2 := (bcell hb (by omega)).trans hc2
    have hs6 : w3.heap.size + 1 < w6.heap.size := by have := hb.size; omega
    have hb6 := hb5.trans (hb.mono hb5.size)
    clear hb
    go_wp2_with fail
    rcases hc with ⟨rfl, hcmp⟩ | ⟨rfl, hcmp⟩ | ⟨rfl, hcmp⟩
    · skip
      refine (sub_no aoX aoY mX mX mY mY _ _ w6 hX hY (by omega) (by omega) hcmp).mono ?_
      rintro e w7 ⟨rfl, hb⟩
      have hX := hX.kept hb
      have hY := hY.kept hb
      have hc1 := (bcell hb (by omega)).trans hc1
      have hc2 := (bcell hb (by omega)).trans hc2
      have hs : w3.heap.size + 1 < w7.heap.size := by have := hb.size; omega
      have hs0 : w3.heap.size < w7.heap.size := by omega
      have hb7 := hb6.trans (hb.mono hb6.size)
      clear hb
      go_wp2_with fail
      obtain ⟨W7, hW7, hb, hcd, hsd⟩ := one_box w7 (.slice none 0 0) 26
      rw [← hW7]
      have hX := hX.kept hb
      have hY := hY.kept hb
      have hc1 := (bcell hb (by omega)).trans hc1
      have hc2 := (bcell hb (by omega)).trans hc2
      have hb7' := hb7.trans (hb.mono hb7.size)
      clear hb hW7
      refine (compare_any aoX aoY mX mX mY mY _ _ W7 hX hY (by omega) (by omega)).mono ?_
      rintro e w8 ⟨c8, rfl, hc8, hb⟩
      obtain rfl : c8 = -1 := hc8.lt hcmp
      have hX := hX.kept hb
      have hY := hY.kept hb
      have hc1 := (bcell hb (by omega)).trans hc1
      have hc2 := (bcell hb (by omega)).trans hc2
      have hcd := (bcell hb (by omega)).trans hcd
      have hs8 : w7.heap.size < w8.heap.size := by have := hb.size; omega
      have hb8 := hb7'.trans (hb.mono hb7'.size)
      clear hb hc8
      go_wp2_with fail
      refine (compare_any aoY aoX mY mY mX mX _ _ w8 hY hX (by omega) (by omega)).mono ?_
      rintro e w9 ⟨c9, rfl, hc9, hb⟩
      obtain rfl : c9 = 1 := hc9.gt hcmp
      have hcd := (bcell hb (by omega)).trans hcd
      have hb9 := hb8.trans (hb.mono hb8.size)
      clear hb hc9
      go_wp2_with fail
      refine (zero_any none 0 0 w9 (by omega)).mono ?_
      rintro e wa ⟨rfl, hb⟩
      have hba := hb9.trans (hb.mono hb9.size)
      go_wp2_with fail
      refine (awake_any _).mono ?_
      rintro e wb ⟨rfl, hb'⟩
      go_wp2
      go_ret
      exact ⟨rfl, hba.trans (hb'.mono hba.size)⟩
    · skip
      refine (sub_yes aoX aoY mX mX mY mY _ _ w6 hX hY (by omega) (by omega) (by omega)).mono ?_
      rintro e w7 ⟨aoD, mD, rfl, hD, hmD, hb⟩
      have hX := hX.kept hb
      have hY := hY.kept hb
      have hc1 := (bcell hb (by omega)).trans hc1
      have hc2 := (bcell hb (by omega)).trans hc2
      have hs : w3.heap.size + 1 < w7.heap.size := by have := hb.size; omega
      have hs0 : w3.heap.size < w7.heap.size := by omega
      have hb7 := hb6.trans (hb.mono hb6.size)
      clear hb
      go_wp2_with fail
      obtain ⟨W7, hW7, hb, hcd, hsd⟩ := one_box w7 (.slice aoD mD mD) 26
      rw [← hW7]
      have hX := hX.kept hb
      have hY := hY.kept hb
      have hD := hD.kept hb
      have hc1 := (bcell hb (by omega)).trans hc1
      have hc2 := (bcell hb (by omega)).trans hc2
      have hb7' := hb7.trans (hb.mono hb7.size)
      clear hb hW7
      refine (compare_any aoX aoY mX mX mY mY _ _ W7 hX hY (by omega) (by omega)).mono ?_
      rintro e w8 ⟨c8, rfl, hc8, hb⟩
      obtain rfl : c8 = 0 := hc8.eq hcmp
      have hX := hX.kept hb
      have hY := hY.kept hb
      have hD := hD.kept hb
      have hc1 := (bcell hb (by omega)).trans hc1
      have hc2 := (bcell hb (by omega)).trans hc2
      have hcd := (bcell hb (by omega)).trans hcd
      have hs8 : w7.heap.size < w8.heap.size := by have := hb.size; omega
      have hb8 := hb7'.trans (hb.mono hb7'.size)
      clear hb hc8
      go_wp2_with fail
      refine (compare_any aoY aoX mY mY mX mX _ _ w8 hY hX (by omega) (by omega)).mono ?_
      rintro e w9 ⟨c9, rfl, hc9, hb⟩
      obtain rfl : c9 = 0 := hc9.eq hcmp.symm
      have hD := hD.kept hb
      have hcd := (bcell hb (by omega)).trans hcd
      have hb9 := hb8.trans (hb.mono hb8.size)
      clear hb hc9
      go_wp2_with fail
      obtain ⟨dsD, hRD, hDD, hND, hVD⟩ := hD
      refine (limbs_any aoD mD mD dsD w9 hRD (by omega)).mono ?_
      rintro e wa ⟨gD, rfl, hOD, hb⟩
      have hba := hb9.trans (hb.mono hb9.size)
      clear hb
      go_wp2_with fail
      refine (rof_any _ mD mD dsD wa hOD.reads hDD (by omega)).mono ?_
      rintro e wb ⟨aoE, mE, capE, rfl, hE, hmE, hb⟩
      have hbb := hba.trans (hb.mono hba.size)
      clear hb
      go_wp2_with fail
      refine (rof_any a1 len1 cap1 x1 wb (hR1.kept hbb) hD1 (by omega)).mono ?_
      rintro e wc ⟨aoF, mF, capF, rfl, hF, hmF, hb⟩
      have hE := hE.kept hb
      have hbc := hbb.trans (hb.mono hbb.size)
      clear hb
      go_wp2_with fail
      refine (radd_any aoE aoF mE capE mF capF _ _ wc hE hF (by omega) (by omega)).mono ?_
      rintro e wd ⟨aoG, mG, capG, rfl, hG, hb⟩
      have hbd := hbc.trans (hb.mono hbc.size)
      rw [hVD, Int.sub_add_cancel] at hG
      have hmG := hG.len (limbs_lt (n := 20) hD0 (by rw [hR0.1]; exact hl0))
      obtain ⟨DG, hRG, hDG, hNG, hVG⟩ := hG
      clear hb
      go_wp2_with fail
      refine (print_any aoG mG capG DG wd hRG hDG (by omega)).mono ?_
      rintro e we ⟨rfl, hb⟩
      have hbe := hbd.trans (hb.mono hbd.size)
      clear hb
      go_wp2_with fail
      refine (rof_any a0 len0 cap0 x0 we (hR0.kept hbe) hD0 (by omega)).mono ?_
      rintro e wf ⟨aoH, mH, capH, rfl, hH, hmH, hb⟩
      have hbf := hbe.trans (hb.mono hbe.size)
      obtain ⟨DH, hRH, hDH, hNH, hVH⟩ := hH
      clear hb
      go_wp2_with fail
      refine (print_any aoH mH capH DH wf hRH hDH (by omega)).mono ?_
      rintro e wg ⟨rfl, hb⟩
      have hbg := hbf.trans (hb.mono hbf.size)
      rw [decStr_eq hDH hNH hVH hDG hNG hVG]
      clear hb hVH hVG hVD
      go_wp2_with fail
      refine (awake_any _).mono ?_
      rintro e wh ⟨rfl, hb⟩
      go_wp2
      go_ret
      exact ⟨rfl, hbg.trans (hb.mono hbg.size)⟩
    · skip
      refine (sub_yes aoX aoY mX mX mY mY _ _ w6 hX hY (by omega) (by omega) (by omega)).mono ?_
      rintro e w7 ⟨aoD, mD, rfl, hD, hmD, hb⟩
      have hX := hX.kept hb
      have hY := hY.kept hb
      have hc1 := (bcell hb (by omega)).trans hc1
      have hc2 := (bcell hb (by omega)).trans hc2
      have hs : w3.heap.size + 1 < w7.heap.size := by have := hb.size; omega
      have hs0 : w3.heap.size < w7.heap.size := by omega
      have hb7 := hb6.trans (hb.mono hb6.size)
      clear hb
      go_wp2_with fail
      obtain ⟨W7, hW7, hb, hcd, hsd⟩ := one_box w7 (.slice aoD mD mD) 26
      rw [← hW7]
      have hX := hX.kept hb
      have hY := hY.kept hb
      have hD := hD.kept hb
      have hc1 := (bcell hb (by omega)).trans hc1
      have hc2 := (bcell hb (by omega)).trans hc2
      have hb7' := hb7.trans (hb.mono hb7.size)
      clear hb hW7
      refine (compare_any aoX aoY mX mX mY mY _ _ W7 hX hY (by omega) (by omega)).mono ?_
      rintro e w8 ⟨c8, rfl, hc8, hb⟩
      obtain rfl : c8 = 1 := hc8.gt hcmp
      have hX := hX.kept hb
      have hY := hY.kept hb
      have hD := hD.kept hb
      have hc1 := (bcell hb (by omega)).trans hc1
      have hc2 := (bcell hb (by omega)).trans hc2
      have hcd := (bcell hb (by omega)).trans hcd
      have hs8 : w7.heap.size < w8.heap.size := by have := hb.size; omega
      have hb8 := hb7'.trans (hb.mono hb7'.size)
      clear hb hc8
      go_wp2_with fail
      refine (compare_any aoY aoX mY mY mX mX _ _ w8 hY hX (by omega) (by omega)).mono ?_
      rintro e w9 ⟨c9, rfl, hc9, hb⟩
      obtain rfl : c9 = -1 := hc9.lt hcmp
      have hD := hD.kept hb
      have hcd := (bcell hb (by omega)).trans hcd
      have hb9 := hb8.trans (hb.mono hb8.size)
      clear hb hc9
      go_wp2_with fail
      obtain ⟨dsD, hRD, hDD, hND, hVD⟩ := hD
      refine (limbs_any aoD mD mD dsD w9 hRD (by omega)).mono ?_
      rintro e wa ⟨gD, rfl, hOD, hb⟩
      have hba := hb9.trans (hb.mono hb9.size)
      clear hb
      go_wp2_with fail
      refine (rof_any _ mD mD dsD wa hOD.reads hDD (by omega)).mono ?_
      rintro e wb ⟨aoE, mE, capE, rfl, hE, hmE, hb⟩
      have hbb := hba.trans (hb.mono hba.size)
      clear hb
      go_wp2_with fail
      refine (rof_any a1 len1 cap1 x1 wb (hR1.kept hbb) hD1 (by omega)).mono ?_
      rintro e wc ⟨aoF, mF, capF, rfl, hF, hmF, hb⟩
      have hE := hE.kept hb
      have hbc := hbb.trans (hb.mono hbb.size)
      clear hb
      go_wp2_with fail
      refine (radd_any aoE aoF mE capE mF capF _ _ wc hE hF (by omega) (by omega)).mono ?_
      rintro e wd ⟨aoG, mG, capG, rfl, hG, hb⟩
      have hbd := hbc.trans (hb.mono hbc.size)
      rw [hVD, Int.sub_add_cancel] at hG
      have hmG := hG.len (limbs_lt (n := 20) hD0 (by rw [hR0.1]; exact hl0))
      obtain ⟨DG, hRG, hDG, hNG, hVG⟩ := hG
      clear hb
      go_wp2_with fail
      refine (print_any aoG mG capG DG wd hRG hDG (by omega)).mono ?_
      rintro e we ⟨rfl, hb⟩
      have hbe := hbd.trans (hb.mono hbd.size)
      clear hb
      go_wp2_with fail
      refine (rof_any a0 len0 cap0 x0 we (hR0.kept hbe) hD0 (by omega)).mono ?_
      rintro e wf ⟨aoH, mH, capH, rfl, hH, hmH, hb⟩
      have hbf := hbe.trans (hb.mono hbe.size)
      obtain ⟨DH, hRH, hDH, hNH, hVH⟩ := hH
      clear hb
      go_wp2_with fail
      refine (print_any aoH mH capH DH wf hRH hDH (by omega)).mono ?_
      rintro e wg ⟨rfl, hb⟩
      have hbg := hbf.trans (hb.mono hbf.size)
      rw [decStr_eq hDH hNH hVH hDG hNG hVG]
      clear hb hVH hVG hVD
      go_wp2_with fail
      refine (awake_any _).mono ?_
      rintro e wh ⟨rfl, hb⟩
      go_wp2
      go_ret
      exact ⟨rfl, hbg.trans (hb.mono hbg.size)⟩
  · have hall : ([(a0, len0, cap0), (a1, len1, cap1)].all (fun x => decide (x.2.1 ≤ 20))) = false := by simp; omega
    rw [hall]
    go_wp2_with fail
    refine (awake_any _).mono ?_
    rintro e w2 ⟨rfl, hb2⟩
    go_wp2
    go_ret
    exact ⟨rfl, hb1.trans (hb2.mono hb1.size)⟩

end Go.Proofs.Ytgkcaflnhhfbgaa
