/- Contract of Uint64; the walk of the statement NatSmalls. -/
import Derived.Test.YtgkcaflnhhfbgaaLawA
namespace Go.Proofs.Ytgkcaflnhhfbgaa
open Go.RowKit
set_option linter.unusedVariables false
set_option linter.unusedSimpArgs false

theorem small_len {w : World} {ao : Option Addr} {m : Nat} {V : Int} (h : IsNat w ao m V) : m ≤ 2 ↔ V < 18446744073709551616 := by
  obtain ⟨ds, hR, hD, hN, rfl⟩ := h
  constructor
  · intro hm
    have h1 := (pv_bound (by decide) hD).2
    rw [hR.1] at h1
    have h2 := pow_mono (show (1 : Int) < 4294967296 by decide) hm
    have h3 : (4294967296 : Int) ^ 2 = 18446744073709551616 := by decide
    omega
  · intro hV
    by_cases hm : m ≤ 2
    · exact hm
    · have h1 := pv_lower (by decide) hD hN (by intro e; rw [e] at hR; have := hR.1; simp at this; omega)
      rw [hR.1] at h1
      have h2 := pow_mono (show (1 : Int) < 4294967296 by decide) (show 2 ≤ m - 1 by omega)
      have h3 : (4294967296 : Int) ^ 2 = 18446744073709551616 := by decide
      omega

theorem two_limbs {ds : List Int} (h : ds.length ≤ 2) : pv 4294967296 ds = ds.getD 1 0 * 4294967296 + ds.getD 0 0 := by
  match ds, h with
  | [], _ => simp [pv]
  | [a], _ => simp [pv]
  | [a, b], _ => simp [pv]; omega

set_option maxHeartbeats 800000 in
theorem uint64_yes (ao : Option Addr) (n cap : Nat) (V : Int) (w : World) (hN : IsNat w ao n V) (hn : n ≤ 2) :
    Calls Try.prog 27 #[.agg #[.slice ao n cap]] w fun e w' => e = .returned (.tuple #[.int .u64 V, .bool true]) ∧ Below w.heap.size w w' := by
  obtain ⟨ds, hR, hD, hNz, hV⟩ := hN
  obtain ⟨W, hW, hbW, hc, hs⟩ := one_box w (.slice ao n cap) 26
  obtain ⟨hi, hhi⟩ : ∃ x, x = ds.getD 1 0 := ⟨_, rfl⟩
  obtain ⟨lo, hlo⟩ : ∃ x, x = ds.getD 0 0 := ⟨_, rfl⟩
  have hhb : 0 ≤ hi ∧ hi < 4294967296 := by rw [hhi]; exact hD.getD (by decide) 1
  have hlb : 0 ≤ lo ∧ lo < 4294967296 := by rw [hlo]; exact hD.getD (by decide) 0
  have hor := or_halves hi lo hhb.1 hhb.2 hlb
  have e : V = hi * 4294967296 + lo := by rw [← hV, two_limbs (by rw [hR.1]; exact hn), ← hhi, ← hlo]
  have HE := hide e
  have c1 : ∀ nd, Calls Try.prog 42 #[.slice ao n cap, .int .i64 1] (W.drewN nd) fun e w' => e = .returned (.int .u32 hi) ∧ w' = W.drewN nd := by
    intro nd; rw [hhi]; exact limbAt_any ao n cap ds 1 _ (hR.kept (below_drewN hbW nd)) (by omega) (by omega)
  have c0 : ∀ nd, Calls Try.prog 42 #[.slice ao n cap, .int .i64 0] (W.drewN nd) fun e w' => e = .returned (.int .u32 lo) ∧ w' = W.drewN nd := by
    intro nd; rw [hlo]; exact limbAt_any ao n cap ds 0 _ (hR.kept (below_drewN hbW nd)) (by omega) (by omega)
  have HC1 := hide c1
  have HC0 := hide c0
  have HB := hide hbW
  clear hhi hlo e c1 c0 hV hbW
  go_enter Try.func27, Try.ntmps27
  go_wp2
  rw [← hW]
  clear hW
  go_quiet ((first | (go_at_call_of 42 (Value.int IntKind.i64 1); exact Calls.quiet_of_same ((unhide HC1) _)) | (go_at_call_of 42 (Value.int IntKind.i64 0); exact Calls.quiet_of_same ((unhide HC0) _))))
  go_wp2
  go_ret2
  exact ⟨by rw [HE.out]; rfl, below_drewN HB.out _⟩

set_option maxHeartbeats 400000 in
theorem uint64_no (ao : Option Addr) (n cap : Nat) (w : World) (hn : 2 < n) (hm : n ≤ 1000000) :
    Calls Try.prog 27 #[.agg #[.slice ao n cap]] w fun e w' => e = .returned (.tuple #[.int .u64 0, .bool false]) ∧ Below w.heap.size w w' := by
  go_enter Try.func27, Try.ntmps27
  go_wp2
  go_ret2
  exact ⟨rfl, below_alloc _ _⟩

set_option maxHeartbeats 2000000 in
theorem smalls_walk (x : Int) (a0 : Option Addr) (len0 cap0 : Nat) (z0 : List Int) (w : World) (hwf : (Lit.int .u64 x).wf = true) (r0 : IsRow .u32 w a0 len0 cap0 z0) :
    Calls Try.prog 7 #[.int .u64 x, .slice a0 len0 cap0] w fun e w' => e = .returned (.bool true) ∧ Below w.heap.size w w' := by
  have hx := wf_u64 hwf
  clear hwf
  obtain ⟨hR0, hm0⟩ := r0.reads
  have hD0 := r0.dg
  generalize z0.take len0 = x0 at hR0 hD0
  clear r0
  go_enter Try.func7, Try.ntmps7
  go_wp2_with fail
  refine (few_any _ 1 1 [(a0, len0, cap0)] _ ?_ rfl (by omega) (by intro x hx; simp at hx; rcases hx with rfl; assumption)).mono ?_
  · refine Or.inr ⟨w.heap.size, 0, rfl, fun i hi => ?_⟩
    match i, hi with
    | 0, _ => simp
  rintro e w1 ⟨rfl, hw1⟩
  have hb1 : Below w.heap.size w w1 := by rw [hw1]; exact below_alloc _ _
  clear hw1
  by_cases hl0 : len0 ≤ 20
  · have hall : ([(a0, len0, cap0)].all (fun x => decide (x.2.1 ≤ 20))) = true := by simp [hl0]
    rw [hall]
    clear hall
    go_wp2_with fail
    refine (int_nat x w1 hx.1 hx.2).mono ?_
    rintro e w2 ⟨aoN, mN, rfl, hN, hmN, hb⟩
    have hb2 := hb1.trans (hb.mono hb1.size)
    clear hb
    go_wp2_with fail
    refine (uint64_yes aoN mN mN x w2 hN hmN).mono ?_
    rintro e w3 ⟨rfl, hb⟩
    have hb3 := hb2.trans (hb.mono hb2.size)
    clear hb
    go_wp2_with fail
    refine (of_nat a0 len0 cap0 x0 w3 (hR0.kept hb3) hD0 (by omega)).mono ?_
    rintro e w4 ⟨aoX, mX, rfl, hX, hmX, hb⟩
    have hb4 := hb3.trans (hb.mono hb3.size)
    clear hb
    go_wp2_with fail
    by_cases hsm : pv 4294967296 x0 < 18446744073709551616
    · have hm2 := (small_len hX).2 hsm
      refine (uint64_yes aoX mX mX _ w4 hX hm2).mono ?_
      rintro e w5 ⟨rfl, hb⟩
      have hb5 := hb4.trans (hb.mono hb4.size)
      clear hb
      go_wp2_with fail
      refine (rof_any a0 len0 cap0 x0 w5 (hR0.kept hb5) hD0 (by omega)).mono ?_
      rintro e w6 ⟨aoA, mA, capA, rfl, hA, hmA, hb⟩
      have hb6 := hb5.trans (hb.mono hb5.size)
      clear hb
      go_wp2_with fail
      refine (rsmall_any 18446744073709551615 w6 (by omega)).mono ?_
      rintro e w7 ⟨aoB, mB, capB, rfl, hB, hb⟩
      have hA := hA.kept hb
      have hmB := hB.len (K := 20) (by decide)
      have hb7 := hb6.trans (hb.mono hb6.size)
      clear hb
      go_wp2_with fail
      refine (rcompare_any aoA aoB mA capA mB capB _ _ w7 hA hB (by omega) (by omega)).mono ?_
      rintro e w8 ⟨c, rfl, hc, hb⟩
      have hb8 := hb7.trans (hb.mono hb7.size)
      have hcd : decide (c ≤ 0) = true := by
        simp only [decide_eq_true_eq]
        rcases hc with ⟨h1, h2⟩ | ⟨h1, h2⟩ | ⟨h1, h2⟩ <;> omega
      clear hb hc
      go_wp2_with fail
      refine (int_nat x _ hx.1 hx.2).mono ?_
      rintro e w9 ⟨aoC, mC, rfl, hC, hmC, hb⟩
      have hb9 := hb8.trans (hb.mono hb8.size)
      clear hb
      go_wp2_with fail
      refine (string_any aoC mC mC _ w9 hC (by omega)).mono ?_
      rintro e wa ⟨D1, rfl, hD1, hN1, hV1, hb⟩
      have hba := hb9.trans (hb.mono hb9.size)
      clear hb
      go_wp2_with fail
      refine (rsmall_any x wa hx).mono ?_
      rintro e wb ⟨aoE, mE, capE, rfl, hE, hb⟩
      have hmE := hE.len (K := 20) (show x < 10 ^ 20 by have : (10 : Int) ^ 20 = 100000000000000000000 := by decide
                                                        omega)
      have hbb := hba.trans (hb.mono hba.size)
      obtain ⟨D2, hR2, hD2, hN2, hV2⟩ := hE
      clear hb
      go_wp2_with fail
      refine (print_any aoE mE capE D2 wb hR2 hD2 (by omega)).mono ?_
      rintro e wc ⟨rfl, hb⟩
      have hbc := hbb.trans (hb.mono hbb.size)
      rw [decStr_eq hD1 hN1 hV1 hD2 hN2 hV2]
      clear hb hV1 hV2
      go_wp2_with fail
      refine (rsmall_any _ _ ⟨hX.nonneg, hsm⟩).mono ?_
      rintro e wd ⟨aoF, mF, capF, rfl, hF, hb⟩
      have hmF := hF.len (limbs_lt (n := 20) hD0 (by rw [hR0.1]; exact hl0))
      have hbd := hbc.trans (hb.mono hbc.size)
      obtain ⟨D3, hR3, hD3, hN3, hV3⟩ := hF
      clear hb
      go_wp2_with fail
      refine (print_any aoF mF capF D3 wd hR3 hD3 (by omega)).mono ?_
      rintro e we ⟨rfl, hb⟩
      have hbe := hbd.trans (hb.mono hbd.size)
      clear hb
      go_wp2_with fail
      refine (rof_any a0 len0 cap0 x0 we (hR0.kept hbe) hD0 (by omega)).mono ?_
      rintro e wf ⟨aoG, mG, capG, rfl, hG, hmG, hb⟩
      have hbf := hbe.trans (hb.mono hbe.size)
      obtain ⟨D4, hR4, hD4, hN4, hV4⟩ := hG
      clear hb
      go_wp2_with fail
      refine (print_any aoG mG capG D4 wf hR4 hD4 (by omega)).mono ?_
      rintro e wg ⟨rfl, hb⟩
      have hbg := hbf.trans (hb.mono hbf.size)
      rw [decStr_eq hD4 hN4 hV4 hD3 hN3 hV3]
      clear hb hV3 hV4
      go_wp2_with fail
      refine (awake_any _).mono ?_
      rintro e wh ⟨rfl, hb⟩
      go_wp2
      go_ret
      exact ⟨rfl, hbg.trans (hb.mono hbg.size)⟩
    · have hm2 : ¬ mX ≤ 2 := fun h => hsm ((small_len hX).1 h)
      refine (uint64_no aoX mX mX w4 (by omega) (by omega)).mono ?_
      rintro e w5 ⟨rfl, hb⟩
      have hb5 := hb4.trans (hb.mono hb4.size)
      clear hb
      go_wp2_with fail
      refine (rof_any a0 len0 cap0 x0 w5 (hR0.kept hb5) hD0 (by omega)).mono ?_
      rintro e w6 ⟨aoA, mA, capA, rfl, hA, hmA, hb⟩
      have hb6 := hb5.trans (hb.mono hb5.size)
      clear hb
      go_wp2_with fail
      refine (rsmall_any 18446744073709551615 w6 (by omega)).mono ?_
      rintro e w7 ⟨aoB, mB, capB, rfl, hB, hb⟩
      have hA := hA.kept hb
      have hmB := hB.len (K := 20) (by decide)
      have hb7 := hb6.trans (hb.mono hb6.size)
      clear hb
      go_wp2_with fail
      refine (rcompare_any aoA aoB mA capA mB capB _ _ w7 hA hB (by omega) (by omega)).mono ?_
      rintro e w8 ⟨c, rfl, hc, hb⟩
      have hb8 := hb7.trans (hb.mono hb7.size)
      have hcd : decide (c ≤ 0) = false := by
        simp only [decide_eq_false_iff_not]
        rcases hc with ⟨h1, h2⟩ | ⟨h1, h2⟩ | ⟨h1, h2⟩ <;> omega
      clear hb hc
      go_wp2_with fail
      refine (int_nat x _ hx.1 hx.2).mono ?_
      rintro e w9 ⟨aoC, mC, rfl, hC, hmC, hb⟩
      have hb9 := hb8.trans (hb.mono hb8.size)
      clear hb
      go_wp2_with fail
      refine (string_any aoC mC mC _ w9 hC (by omega)).mono ?_
      rintro e wa ⟨D1, rfl, hD1, hN1, hV1, hb⟩
      have hba := hb9.trans (hb.mono hb9.size)
      clear hb
      go_wp2_with fail
      refine (rsmall_any x wa hx).mono ?_
      rintro e wb ⟨aoE, mE, capE, rfl, hE, hb⟩
      have hmE := hE.len (K := 20) (show x < 10 ^ 20 by have : (10 : Int) ^ 20 = 100000000000000000000 := by decide
                                                        omega)
      have hbb := hba.trans (hb.mono hba.size)
      obtain ⟨D2, hR2, hD2, hN2, hV2⟩ := hE
      clear hb
      go_wp2_with fail
      refine (print_any aoE mE capE D2 wb hR2 hD2 (by omega)).mono ?_
      rintro e wc ⟨rfl, hb⟩
      have hbc := hbb.trans (hb.mono hbb.size)
      rw [decStr_eq hD1 hN1 hV1 hD2 hN2 hV2]
      clear hb hV1 hV2
      go_wp2_with fail
      refine (awake_any _).mono ?_
      rintro e wh ⟨rfl, hb⟩
      go_wp2
      go_ret
      exact ⟨rfl, hbc.trans (hb.mono hbc.size)⟩
  · have hall : ([(a0, len0, cap0)].all (fun x => decide (x.2.1 ≤ 20))) = false := by simp; omega
    rw [hall]
    go_wp2_with fail
    refine (awake_any _).mono ?_
    rintro e w2 ⟨rfl, hb2⟩
    go_wp2
    go_ret
    exact ⟨rfl, hb1.trans (hb2.mono hb1.size)⟩

end Go.Proofs.Ytgkcaflnhhfbgaa
