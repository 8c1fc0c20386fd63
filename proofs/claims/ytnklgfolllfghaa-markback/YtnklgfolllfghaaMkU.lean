/- Laws of marks: MarkBack, MarkParses, MarkRenders. -/
import Derived.Test.YtnklgfolllfghaaMkT
namespace Go.Proofs.Ytnklgfolllfghaa.Mk
open Go.RowKit Go.Maps
set_option linter.unusedVariables false
set_option linter.unusedSimpArgs false

theorem wf_pars {T : List (List UInt8)} (hf : T.length ≤ 1000) : ∀ n s i, i < (prs T n s).length → wfI (gI (prs T n s) i)
  | 0, s, i, h => by simp [prs] at h
  | n + 1, [], i, h => by simp [prs] at h
  | n + 1, b :: r, i, h => by
    rw [prs] at h ⊢
    split at h
    · rename_i h0
      rw [if_pos h0]
      cases i with
      | zero =>
        have := b.toNat_lt
        simp only [gI, List.getD_cons_zero]
        exact ⟨by omega, by omega⟩
      | succ i => exact wf_pars hf n r i (by simpa using h)
    · rename_i h0
      rw [if_neg h0]
      cases i with
      | zero =>
        have := bst_le T (b :: r) T.length
        have h2 : atM T (b :: r) ≤ 1000 := by unfold atM; omega
        simp only [gI, List.getD_cons_zero]
        exact ⟨by omega, by omega⟩
      | succ i => exact wf_pars hf n _ i (by simpa using h)
theorem pars_le (T : List (List UInt8)) (s : ByteArray) : (parsM T s.data.toList).length ≤ s.size := by
  have := prs_len T s.data.toList.length s.data.toList
  have h2 : s.data.toList.length = s.size := Array.length_toList
  unfold parsM
  omega

section
variable {ao : Option Addr} {n cap : Nat} {L : List (Int × ByteArray)} {w : World}
set_option maxRecDepth 20000 in
set_option maxHeartbeats 8000000 in
theorem back_walk (ao : Option Addr) (n cap : Nat) (L : List (Int × ByteArray)) (s : ByteArray) (w : World) (hM : RdS w ao n L) (hn : n ≤ 9223372036854775807) (hsz : s.size ≤ 9223372036854775807) :
    Calls Try.prog 6 #[.slice ao n cap, .string s] w fun e w' => e = .returned (.bool true) ∧ Below w.heap.size w w' := by
  have hln := hM.1
  have HM := hide hM
  have HLN := hide hln
  have KG := great_any (cap := cap) hM hn
  clear hM hln
  go_enter Try.func6, Try.ntmps6
  go_wp2_with fail
  refine KG.mono ?_
  rintro e w1 ⟨⟨z, rfl, hz⟩, hb1⟩
  have HB1 := hide hb1
  clear KG hb1
  cases z with
  | true =>
    clear hz
    go_wp2_with fail
    refine (awake9_any _).mono ?_
    rintro e w2 ⟨rfl, hb2⟩
    have HB2 := hide (HB1.out.trans (hb2.mono HB1.out.size))
    clear hb2
    go_wp2
    go_ret
    exact ⟨rfl, HB2.out⟩
  | false =>
    obtain ⟨hf1, hf2⟩ := hz rfl
    have hf1' : n ≤ 40 := by rw [← HLN.out]; exact hf1
    have HF2 := hide hf2
    clear hz hf2 hf1
    by_cases hbig : 500 < s.size
    · have hc : (500 : Int) < (s.size : Int) := by omega
      go_wp2_with fail
      refine (awake9_any _).mono ?_
      rintro e w2 ⟨rfl, hb2⟩
      have HB2 := hide (HB1.out.trans (hb2.mono HB1.out.size))
      clear hb2
      go_wp2
      go_ret
      exact ⟨rfl, HB2.out⟩
    · have hc : ¬ (500 : Int) < (s.size : Int) := by omega
      go_wp2_with fail
      refine (awake9_any _).mono ?_
      rintro e w2 ⟨rfl, hb2⟩
      have HB2 := hide (HB1.out.trans (hb2.mono HB1.out.size))
      have KN := new_any _ ao n cap L (HM.out.kept HB2.out) (by omega)
      clear hb2 HB1
      go_wp2_with fail
      refine KN.mono ?_
      rintro e w3 ⟨hE, hb3⟩
      have HB3 := hide (HB2.out.trans (hb3.mono HB2.out.size))
      clear KN hb3 HB2
      rcases hE with ⟨k, er, hk, hne, rfl⟩ | ⟨hC, p, a1, c1, rfl, hS⟩
      · rcases chk_err hk hne with rfl | rfl | rfl <;>
        · clear hk hne
          go_wp2
          go_ret
          exact ⟨rfl, HB3.out⟩
      · have hnL := chk_all hC
        have hC2 := hC
        rw [hnL] at hC2
        have hTx := good_tx hC2
        have hMk := good_mk hC2
        have HS := hide hS
        have HTx := hide hTx
        have HMk := hide hMk
        have KP := parse_any hS hTx hMk s (by omega)
        have hwf : ∀ i, i < (parsM (tL L) s.data.toList).length → wfI (gI (parsM (tL L) s.data.toList) i) := fun i hi => wf_pars (by rw [tL_len]; exact hTx.few) _ _ i hi
        have HW := hide hwf
        have hle := pars_le (tL L) s
        have HRP := hide (rnd_pars hMk s.data.toList)
        clear hS hTx hMk hC hC2 hwf hnL
        go_wp2_with fail
        refine KP.mono ?_
        rintro e w4 ⟨⟨ai, ci, rfl, hr4⟩, hb4⟩
        clear KP
        have HB4 := hide (HB3.out.trans (hb4.mono HB3.out.size))
        have HS4 := hide (HS.out.kept hb4)
        have HR4 := hide hr4
        have KR := render_any (ci := ci) HS4.out HTx.out (RdI.of_row hr4) HW.out (by omega)
        rw [HRP.out] at KR
        have e1 : RndV (some s.data.toList) = .tuple #[.string s, .bool true] := by
          simp [RndV]
        rw [e1] at KR
        clear hr4 hb4 HB3 HS e1
        go_wp2_with fail
        refine KR.mono ?_
        rintro e w5 ⟨rfl, hb5⟩
        clear KR
        have HB5 := hide (HB4.out.trans (hb5.mono HB4.out.size))
        have HS5 := hide (HS4.out.kept hb5)
        have HR5 := hide (row_keptB HR4.out hb5)
        have KP2 := parse_any HS5.out HTx.out HMk.out s (by omega)
        have hss : (s.toList == s.toList) = true := by simp
        clear hb5 HB4 HS4 HR4
        go_wp2_with fail
        refine KP2.mono ?_
        rintro e w6 ⟨⟨ai2, ci2, rfl, hr6⟩, hb6⟩
        clear KP2
        have HB6 := hide (HB5.out.trans (hb6.mono HB5.out.size))
        have KI := ints_same w6 _ _ _ _ _ hr6 (row_keptB HR5.out hb6) (by omega)
        clear hr6 hb6 HB5 HR5
        go_wp2_with fail
        refine KI.mono ?_
        rintro e w7 ⟨rfl, hb7⟩
        have HB7 := hide (HB6.out.trans (hb7.mono HB6.out.size))
        clear hb7 HB6 KI
        go_wp2
        go_ret
        exact ⟨rfl, HB7.out⟩
end
end Go.Proofs.Ytnklgfolllfghaa.Mk
