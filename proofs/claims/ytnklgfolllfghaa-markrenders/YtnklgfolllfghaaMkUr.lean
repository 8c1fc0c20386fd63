/- Laws of marks: MarkRenders. -/
import Derived.Test.YtnklgfolllfghaaMkU
namespace Go.Proofs.Ytnklgfolllfghaa.Mk
open Go.RowKit Go.Maps
set_option linter.unusedVariables false
set_option linter.unusedSimpArgs false

set_option maxRecDepth 20000 in
set_option maxHeartbeats 8000000 in
theorem renders_walk (ao : Option Addr) (n cap : Nat) (L : List (Int × ByteArray)) (ai : Option Addr) (ni ci : Nat) (I : List Int) (w : World) (hM : RdS w ao n L) (hn : n ≤ 9223372036854775807) (hI : RdI w ai ni I) (hni : ni ≤ 9223372036854775807) (hwI : ∀ i, i < ni → wfI (gI I i)) :
    Calls Try.prog 5 #[.slice ao n cap, .slice ai ni ci] w fun e w' => e = .returned (.bool true) ∧ Below w.heap.size w w' := by
  have hln := hM.1
  have HM := hide hM
  have HLN := hide hln
  have KG := great_any (cap := cap) hM hn
  have HI := hide hI
  have HWI := hide hwI
  clear hM hln hI hwI
  go_enter Try.func5, Try.ntmps5
  go_wp2_with fail
  refine KG.mono ?_
  rintro e w1 ⟨⟨z, rfl, hz⟩, hb1⟩
  have HB1 := hide hb1
  clear KG hb1
  cases z with
  | true =>
    clear hz
    go_wp2_with fail
    refine (awake9_any _).mono ?_
    rintro e w2 ⟨rfl, hb2⟩
    have HB2 := hide (HB1.out.trans (hb2.mono HB1.out.size))
    clear hb2
    go_wp2
    go_ret
    exact ⟨rfl, HB2.out⟩
  | false =>
    obtain ⟨hf1, hf2⟩ := hz rfl
    have hf1' : n ≤ 40 := by rw [← HLN.out]; exact hf1
    have HF2 := hide hf2
    clear hz hf2 hf1
    by_cases hbig : 300 < ni
    · have hc : (300 : Int) < (ni : Int) := by omega
      go_wp2_with fail
      refine (awake9_any _).mono ?_
      rintro e w2 ⟨rfl, hb2⟩
      have HB2 := hide (HB1.out.trans (hb2.mono HB1.out.size))
      clear hb2
      go_wp2
      go_ret
      exact ⟨rfl, HB2.out⟩
    · have hc : ¬ (300 : Int) < (ni : Int) := by omega
      go_wp2_with fail
      refine (awake9_any _).mono ?_
      rintro e w2 ⟨rfl, hb2⟩
      have HB2 := hide (HB1.out.trans (hb2.mono HB1.out.size))
      have KN := new_any _ ao n cap L (HM.out.kept HB2.out) (by omega)
      clear hb2 HB1
      go_wp2_with fail
      refine KN.mono ?_
      rintro e w3 ⟨hE, hb3⟩
      have HB3 := hide (HB2.out.trans (hb3.mono HB2.out.size))
      clear KN hb3 HB2
      rcases hE with ⟨k, er, hk, hne, rfl⟩ | ⟨hC, p, a1, c1, rfl, hS⟩
      · rcases chk_err hk hne with rfl | rfl | rfl <;>
        · clear hk hne
          go_wp2
          go_ret
          exact ⟨rfl, HB3.out⟩
      · have hnL := chk_all hC
        have hC2 := hC
        rw [hnL] at hC2
        have hTx := good_tx hC2
        have hMk := good_mk hC2
        have HS := hide hS
        have HTx := hide hTx
        have HMk := hide hMk
        have KR := render_any (ci := ci) hS hTx (HI.out.kept HB3.out) HWI.out (by omega)
        have HL3 : Hid (RdS w3 ao L.length L) := hide (by rw [HLN.out]; exact HM.out.kept HB3.out)
        have HLL := hide (show n = L.length from HLN.out.symm)
        clear hS hTx hMk hC hC2 hnL
        generalize hrr : rnd (tL L) I = r at *
        have HRR := hide hrr
        clear hrr
        cases r with
        | none =>
          have KR : Calls Try.prog 21 #[.pointer (some ⟨p, 0, none⟩), .slice ai ni ci] w3 fun e w' => e = .returned (.tuple #[.string ⟨#[]⟩, .bool false]) ∧ Below w3.heap.size w3 w' := KR
          go_wp2_with fail
          refine KR.mono ?_
          rintro e w4 ⟨rfl, hb4⟩
          clear KR
          have HB4 := hide (HB3.out.trans (hb4.mono HB3.out.size))
          have KR2 := rrender_any (cap := cap) (ci := ci) (HL3.out.kept hb4) HTx.out (HI.out.kept HB4.out) HWI.out (by omega)
          rw [HRR.out, ← HLL.out] at KR2
          have KR2 : Calls Try.prog 22 #[.slice ao n cap, .slice ai ni ci] w4 fun e w' => e = .returned (.tuple #[.string ⟨#[]⟩, .bool false]) ∧ Below w4.heap.size w4 w' := KR2
          clear hb4 HB3 HS HL3
          go_wp2_with fail
          refine KR2.mono ?_
          rintro e w5 ⟨rfl, hb5⟩
          clear KR2
          have HB5 := hide (HB4.out.trans (hb5.mono HB4.out.size))
          clear hb5 HB4
          go_wp2
          go_ret
          exact ⟨by rfl, HB5.out⟩
        | some l =>
          have KR : Calls Try.prog 21 #[.pointer (some ⟨p, 0, none⟩), .slice ai ni ci] w3 fun e w' => e = .returned (.tuple #[.string ⟨l.toArray⟩, .bool true]) ∧ Below w3.heap.size w3 w' := KR
          go_wp2_with fail
          refine KR.mono ?_
          rintro e w4 ⟨rfl, hb4⟩
          clear KR
          have HB4 := hide (HB3.out.trans (hb4.mono HB3.out.size))
          have KR2 := rrender_any (cap := cap) (ci := ci) (HL3.out.kept hb4) HTx.out (HI.out.kept HB4.out) HWI.out (by omega)
          rw [HRR.out, ← HLL.out] at KR2
          have KR2 : Calls Try.prog 22 #[.slice ao n cap, .slice ai ni ci] w4 fun e w' => e = .returned (.tuple #[.string ⟨l.toArray⟩, .bool true]) ∧ Below w4.heap.size w4 w' := KR2
          have hss : ((⟨l.toArray⟩ : ByteArray).toList == (⟨l.toArray⟩ : ByteArray).toList) = true := by simp
          clear hb4 HB3 HS HL3
          go_wp2_with fail
          refine KR2.mono ?_
          rintro e w5 ⟨rfl, hb5⟩
          clear KR2
          have HB5 := hide (HB4.out.trans (hb5.mono HB4.out.size))
          clear hb5 HB4
          go_wp2
          go_ret
          exact ⟨by first | rfl | simp, HB5.out⟩
end Go.Proofs.Ytnklgfolllfghaa.Mk
