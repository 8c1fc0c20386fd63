/- Contracts of package grow: take. -/
import Derived.Test.YtlfffalfnnmliaaGrT
import Derived.Test.YtlfffalfnnmliaaChI
import Derived.Test.YtlfffalfnnmliaaChK
import Derived.Deep.RegionWith
namespace Go.Proofs.Ytlfffalfnnmliaa
open Go.RowKit Go.Maps
set_option linter.unusedVariables false
set_option linter.unusedSimpArgs false
attribute [local go_sem ↓] Go.wp_at_zero Go.wp_at_succ

section
variable {F : List Nat} {p : Nat} {v0 v1 : Value} {b2 b3 : Nat} {tx : List ByteArray} {mg : List (Int × Int)} {w : World}
set_option maxRecDepth 20000 in
set_option maxHeartbeats 4000000 in
theorem take_any (h : TAt F p v0 v1 b2 b3 tx mg (lgs tx) w) (hk : Tok tx mg) (base : Nat) (hF : ∀ k ∈ F, base ≤ k) (hb : base ≤ w.heap.size) (s : ByteArray) (hs : s.size ≤ 100000) :
    Calls Try.prog 37 #[.pointer (some ⟨p, 0, none⟩), .string s] w fun e w' => e = .returned (.int .i64 (tkC tx mg s)) ∧ (∃ F' v0' v1', TAt F' p v0' v1' b2 b3 (tkT tx mg s) (tkM tx mg s) (lgs (tkT tx mg s)) w' ∧ (∀ k ∈ F', base ≤ k)) ∧ Below base w w' := by
  have HE := hide (encode_any w h hk s hs)
  have HT := hide h
  have HK := hide hk
  have HFB := hide hF
  have HML := hide (made_len mg tx.length s)
  have HTC : Hid (tkC tx mg s = if (made mg tx.length s).length = 2 then addC tx (tkP tx mg s) else 2) := hide rfl
  have HTT : Hid (tkT tx mg s = if (made mg tx.length s).length = 2 then nextT tx (tkP tx mg s) else tx) := hide rfl
  have HTM : Hid (tkM tx mg s = if (made mg tx.length s).length = 2 then nextM tx mg (tkP tx mg s) else mg) := hide rfl
  have HTP : Hid (tkP tx mg s = (gI (made mg tx.length s) 0, gI (made mg tx.length s) 1)) := hide rfl
  clear h hk hF
  generalize made mg tx.length s = A at *
  generalize tkP tx mg s = P at *
  generalize tkT tx mg s = T' at *
  generalize tkM tx mg s = M' at *
  generalize tkC tx mg s = C' at *
  go_enter Try.func37, Try.ntmps37
  go_wp2_with fail
  refine (unhide HE).mono ?_
  rintro e w1 ⟨⟨v, rfl, hv⟩, hb1⟩
  obtain ⟨av, cv, hvv⟩ := row_form hv
  subst hvv
  have HT1 := hide (HT.out.keptB hb1)
  have HB1 := hide hb1
  have HR := hide hv
  clear hv hb1 HE
  by_cases h2 : A.length = 2
  · have HC2 : Hid (C' = addC tx P) := hide (by rw [HTC.out, if_pos h2])
    have HT2 : Hid (T' = nextT tx P) := hide (by rw [HTT.out, if_pos h2])
    have HM2 : Hid (M' = nextM tx mg P) := hide (by rw [HTM.out, if_pos h2])
    obtain ⟨g, cg, hvg, hgl, c0⟩ := row_at HR.out (show 0 < A.length by omega)
    obtain ⟨g', cg', hvg', -, c1⟩ := row_at HR.out (show 1 < A.length by omega)
    simp only [Value.slice.injEq] at hvg hvg'
    obtain ⟨rfl, _, rfl⟩ := hvg
    obtain ⟨hgg, _, _⟩ := hvg'
    simp at hgg
    subst hgg
    have hp1 : gI A 0 = P.1 := by rw [HTP.out]
    have hp2 : gI A 1 = P.2 := by rw [HTP.out]
    rw [hp1] at c0
    rw [hp2] at c1
    have HAD : Hid (Calls Try.prog 45 #[.pointer (some ⟨p, 0, none⟩), .agg #[.int .i64 P.1, .int .i64 P.2]] w1.drew fun e w' => (∃ zz : Int, e = .returned (.tuple #[.int .i64 zz, .int .i64 C'])) ∧ ∃ F' v0' v1', TAt F' p v0' v1' b2 b3 T' M' (lgs T') w' ∧ (∀ k ∈ F', base ≤ k) ∧ Below base w w') := hide ((add_any (HT1.out.keptB (below_drew' w1)) HK.out P).mono (by
      rintro e w2 ⟨rfl, F2, v2, v3, hT2, hFr2, hN2⟩
      rw [HC2.out, HT2.out, HM2.out]
      refine ⟨⟨_, rfl⟩, F2, v2, v3, hT2, fun k hk => ?_, ?_⟩
      · rcases hN2 k hk with h | h
        · exact HFB.out k h
        · have h1 : w.heap.size ≤ w1.heap.size := HB1.out.size
          have h3 : w1.drew.heap.size = w1.heap.size := rfl
          omega
      · have h1 : w.heap.size ≤ w1.heap.size := HB1.out.size
        exact (HB1.out.mono hb).trans ((below_drew' w1).mono (by omega) |>.trans (hFr2.below (by show base ≤ w1.heap.size; omega) HFB.out))))
    rw [h2]
    clear hp1 hp2 HTP HTC HTT HTM HR HML
    obtain ⟨P1, P2⟩ := P
    simp only at c0 c1
    go_wp2
    go_region_with (go_at_call 45; refine (unhide HAD).mono ?_; rintro e w2 ⟨⟨zz, rfl⟩, hQ⟩; have HQ := hide hQ; clear hQ)
    all_goals
      go_wp2
      go_ret
      obtain ⟨F2, v2, v3, hT2, hF2, hB2⟩ := HQ.out
      exact ⟨rfl, ⟨F2, v2, v3, hT2, hF2⟩, hB2⟩
  · have HC2 : Hid (C' = 2) := hide (by rw [HTC.out, if_neg h2])
    have HT2 : Hid (T' = tx) := hide (by rw [HTT.out, if_neg h2])
    have HM2 : Hid (M' = mg) := hide (by rw [HTM.out, if_neg h2])
    have h2d : ((A.length : Int) == 2) = false := by simp; omega
    have h2e : ((A.length : Int) != 2) = true := by simp; omega
    clear HTP HTC HTT HTM HR HML
    generalize A.length = N at *
    go_wp2
    go_ret
    refine ⟨by rw [HC2.out]; rfl, ⟨F, v0, v1, ?_, HFB.out⟩, HB1.out.mono hb⟩
    rw [HT2.out, HM2.out]
    exact HT1.out
end

end Go.Proofs.Ytlfffalfnnmliaa
