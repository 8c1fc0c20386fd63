/- Laws of marks: MarkParses. -/
import Derived.Test.YtnklgfolllfghaaMkU
namespace Go.Proofs.Ytnklgfolllfghaa.Mk
open Go.RowKit Go.Maps
set_option linter.unusedVariables false
set_option linter.unusedSimpArgs false

set_option maxRecDepth 20000 in
set_option maxHeartbeats 8000000 in
theorem parses_walk (ao : Option Addr) (n cap : Nat) (L : List (Int × ByteArray)) (s : ByteArray) (w : World) (hM : RdS w ao n L) (hn : n ≤ 9223372036854775807) (hsz : s.size ≤ 9223372036854775807) :
    Calls Try.prog 4 #[.slice ao n cap, .string s] w fun e w' => e = .returned (.bool true) ∧ Below w.heap.size w w' := by
  have hln := hM.1
  have HM := hide hM
  have HLN := hide hln
  have KG := great_any (cap := cap) hM hn
  clear hM hln
  go_enter Try.func4, Try.ntmps4
  go_wp2_with fail
  refine KG.mono ?_
  rintro e w1 ⟨⟨z, rfl, hz⟩, hb1⟩
  have HB1 := hide hb1
  clear KG hb1
  cases z with
  | true =>
    clear hz
    go_wp2_with fail
    refine (awake9_any _).mono ?_
    rintro e w2 ⟨rfl, hb2⟩
    have HB2 := hide (HB1.out.trans (hb2.mono HB1.out.size))
    clear hb2
    go_wp2
    go_ret
    exact ⟨rfl, HB2.out⟩
  | false =>
    obtain ⟨hf1, hf2⟩ := hz rfl
    have hf1' : n ≤ 40 := by rw [← HLN.out]; exact hf1
    have HF2 := hide hf2
    clear hz hf2 hf1
    by_cases hbig : 500 < s.size
    · have hc : (500 : Int) < (s.size : Int) := by omega
      go_wp2_with fail
      refine (awake9_any _).mono ?_
      rintro e w2 ⟨rfl, hb2⟩
      have HB2 := hide (HB1.out.trans (hb2.mono HB1.out.size))
      clear hb2
      go_wp2
      go_ret
      exact ⟨rfl, HB2.out⟩
    · have hc : ¬ (500 : Int) < (s.size : Int) := by omega
      go_wp2_with fail
      refine (awake9_any _).mono ?_
      rintro e w2 ⟨rfl, hb2⟩
      have HB2 := hide (HB1.out.trans (hb2.mono HB1.out.size))
      have KN := new_any _ ao n cap L (HM.out.kept HB2.out) (by omega)
      clear hb2 HB1
      go_wp2_with fail
      refine KN.mono ?_
      rintro e w3 ⟨hE, hb3⟩
      have HB3 := hide (HB2.out.trans (hb3.mono HB2.out.size))
      clear KN hb3 HB2
      rcases hE with ⟨k, er, hk, hne, rfl⟩ | ⟨hC, p, a1, c1, rfl, hS⟩
      · rcases chk_err hk hne with rfl | rfl | rfl <;>
        · clear hk hne
          go_wp2
          go_ret
          exact ⟨rfl, HB3.out⟩
      · have hnL := chk_all hC
        have hC2 := hC
        rw [hnL] at hC2
        have hTx := good_tx hC2
        have hMk := good_mk hC2
        have HS := hide hS
        have HTx := hide hTx
        have HMk := hide hMk
        have KA := at_any hS hTx s (by omega)
        have hle := pars_le (tL L) s
        have HL3 : Hid (RdS w3 ao L.length L) := hide (by rw [HLN.out]; exact HM.out.kept HB3.out)
        have HLL := hide (show n = L.length from HLN.out.symm)
        clear hS hTx hMk hC hC2 hnL
        go_wp2_with fail
        refine KA.mono ?_
        rintro e w4 ⟨rfl, hb4⟩
        clear KA
        have HB4 := hide (HB3.out.trans (hb4.mono HB3.out.size))
        have HS4 := hide (HS.out.kept hb4)
        have HL4 := hide (HL3.out.kept hb4)
        have KA2 := rat_any (cap := cap) HL4.out HTx.out s (by omega)
        rw [← HLL.out] at KA2
        have hat : atM (tL L) s.data.toList ≤ 1000 := by
          have := bst_le (tL L) s.data.toList (tL L).length
          unfold atM
          have h2 := HTx.out.few
          have h3 := tL_len L
          omega
        have KP := parse_any HS4.out HTx.out HMk.out s (by omega)
        have KP2 := rparse_any (cap := cap) HL4.out HTx.out HMk.out s (by omega)
        generalize atM (tL L) s.data.toList = m at *
        clear hb4 HB3 HS HL3
        go_wp2_with fail
        refine KA2.mono ?_
        rintro e w5 ⟨rfl, hb5⟩
        clear KA2 KP KP2
        have HB5 := hide (HB4.out.trans (hb5.mono HB4.out.size))
        have HS5 := hide (HS4.out.kept hb5)
        have HL5 := hide (HL4.out.kept hb5)
        have KP := parse_any HS5.out HTx.out HMk.out s (by omega)
        clear hb5 HB4 HS4 HL4
        go_wp2_with fail
        refine KP.mono ?_
        rintro e w6 ⟨⟨ai, ci, rfl, hr6⟩, hb6⟩
        clear KP
        have HB6 := hide (HB5.out.trans (hb6.mono HB5.out.size))
        have HR6 := hide hr6
        have KP2 := rparse_any (cap := cap) (HL5.out.kept hb6) HTx.out HMk.out s (by omega)
        rw [← HLL.out] at KP2
        clear hb6 hr6 HB5 HL5 HS5
        go_wp2_with fail
        refine KP2.mono ?_
        rintro e w7 ⟨⟨ai2, ci2, rfl, hr7⟩, hb7⟩
        clear KP2
        have HB7 := hide (HB6.out.trans (hb7.mono HB6.out.size))
        have KI := ints_same w7 _ _ _ _ _ (row_keptB HR6.out hb7) hr7 (by omega)
        clear hr7 hb7 HB6 HR6
        go_wp2_with fail
        refine KI.mono ?_
        rintro e w8 ⟨rfl, hb8⟩
        have HB8 := hide (HB7.out.trans (hb8.mono HB7.out.size))
        clear hb8 HB7 KI
        by_cases hm : 0 < m
        · have h1 : -(m : Int) < 0 := by omega
          have h2 : decide (0 < m) = true := by simpa using hm
          go_wp2
          go_ret
          exact ⟨by simp [h1], HB8.out⟩
        · obtain rfl : m = 0 := by omega
          go_wp2
          go_ret
          exact ⟨rfl, HB8.out⟩
end Go.Proofs.Ytnklgfolllfghaa.Mk
