/- Contracts of the document's answer for marks: begins, At, Parse, Great. -/
import Derived.Test.YtnklgfolllfghaaMkD
namespace Go.Proofs.Ytnklgfolllfghaa.Mk
open Go.RowKit Go.Maps
set_option linter.unusedVariables false
set_option linter.unusedSimpArgs false

theorem beg_any (s t : ByteArray) (w : World) (hs : s.size ≤ 1000000) (ht : t.size ≤ 1000000) : Calls Try.prog 29 #[.string s, .string t] w fun e w' => e = .returned (.bool (bgn s.data.toList t.data.toList)) ∧ w' = w := by
  have hb := bgn_size s t
  generalize bgn s.data.toList t.data.toList = z at hb ⊢
  have HB := hide hb
  clear hb
  by_cases h : t.size ≤ s.size
  · go_enter Try.func29, Try.ntmps29
    go_wp2
    go_ret
    refine ⟨?_, rfl⟩
    rw [HB.out, decide_eq_decide.2 (show (t.size ≤ s.size ∧ s.extract 0 t.size = t) ↔ s.extract 0 t.size = t from ⟨fun h => h.2, fun e => ⟨h, e⟩⟩), ← beqS]
    rfl
  · go_enter Try.func29, Try.ntmps29
    go_wp2
    go_ret
    refine ⟨?_, rfl⟩
    rw [HB.out, decide_eq_false (fun e => h e.1)]
    rfl

section
variable {ao : Option Addr} {n cap : Nat} {L : List (Int × ByteArray)} {w : World}
theorem bst_new {T : List (List UInt8)} {s : List UInt8} {k : Nat} (h : bgn s (mT T k) = true ∧ (bst T s k = 0 ∨ (mT T (bst T s k - 1)).length < (mT T k).length)) : bst T s (k + 1) = k + 1 := by rw [bst, if_pos h]
theorem bst_old {T : List (List UInt8)} {s : List UInt8} {k : Nat} (h : ¬ (bgn s (mT T k) = true ∧ (bst T s k = 0 ∨ (mT T (bst T s k - 1)).length < (mT T k).length))) : bst T s (k + 1) = bst T s k := by rw [bst, if_neg h]
set_option maxRecDepth 20000 in
set_option maxHeartbeats 4000000 in
theorem rat_any (h : RdS w ao L.length L) (hk : TxOk L) (s : ByteArray) (hs : s.size ≤ 100000) : Calls Try.prog 17 #[.slice ao L.length cap, .string s] w fun e w' => e = .returned (.int .i64 (-(atM (tL L) s.data.toList : Int))) ∧ Below w.heap.size w w' := by
  have hfew := hk.few
  have HR := hide h
  have HK := hide hk
  clear h hk
  go_enter Try.func17, Try.ntmps17
  go_wp2
  go_loopw [5, 6] (fun a i wr => ∃ (k m : Nat), a = .int .i64 (-(m : Int)) ∧ i = .int .i64 k ∧ k ≤ L.length ∧ Hid (m = bst (tL L) s.data.toList k) ∧ Hid (Below w.heap.size w wr)) (fun _ i _ => L.length - (intOf i).toNat)
  case atStart => exact ⟨0, 0, rfl, rfl, Nat.zero_le _, hide rfl, hide (Below.refl _ _)⟩
  case round =>
    obtain ⟨k, m, rfl, rfl, hkn, HM, HB⟩ := hrel
    by_cases hlt : k < L.length
    · have hk0 : (0 : Int) ≤ (k : Int) := by omega
      have hk1 : (k : Int) < (L.length : Int) := by omega
      have hmk : m ≤ k := by rw [HM.out]; exact bst_le _ _ _
      have h1 := @bst_new (tL L) s.data.toList k
      have h2 := @bst_old (tL L) s.data.toList k
      rw [mT_len L hlt, mT_tL L hlt, ← HM.out] at h1 h2
      have H1 := hide h1
      have H2 := hide h2
      have hxs := HK.out.le k hlt
      clear h1 h2
      rcases HR.out.2 with h0 | ⟨b, off, rfl, hbl0, hc⟩
      · omega
      have c1 := (HB.out.cell (p := ⟨b, _, none⟩) hbl0).trans (hc k hlt).2
      have HC := hide hc
      have hbl := Nat.lt_of_lt_of_le hbl0 HB.out.size
      clear hc
      generalize (gS L k).2 = x at *
      have KB := fun w => beg_any s x w (by omega) (by omega)
      generalize bgn s.data.toList x.data.toList = z at *
      cases z with
      | false =>
        go_wp2
        go_quiet ((go_at_call 29; exact Calls.quiet_of_same (KB _)))
        have HB3 := hide (lowD HB.out nq)
        clear c1
        generalize wr.drewN nq = wd at *
        go_wp2
        refine ⟨⟨k + 1, m, rfl, by go_num, by omega, hide ?_, HB3⟩, by simp [intOf]; omega⟩
        rw [H2.out (fun e => by cases e.1)]
      | true =>
        by_cases hm : m = 0
        · subst hm
          go_wp2
          go_quiet ((go_at_call 29; exact Calls.quiet_of_same (KB _)))
          have HB3 := hide (lowD HB.out nq)
          clear c1
          generalize wr.drewN nq = wd at *
          go_wp2
          refine ⟨⟨k + 1, k + 1, by go_num, by go_num, by omega, hide ?_, HB3⟩, by simp [intOf]; omega⟩
          rw [H1.out ⟨trivial, Or.inl trivial⟩]
        · obtain ⟨i, rfl⟩ : ∃ i, m = i + 1 := ⟨m - 1, by omega⟩
          simp only [Nat.add_sub_cancel] at *
          have hi : i < L.length := by omega
          have c2 := (HB.out.cell (p := ⟨b, _, none⟩) hbl0).trans (HC.out i hi).2
          have hys := HK.out.le i hi
          have H1' := H1.out
          have H2' := H2.out
          rw [mT_len L hi] at H1' H2'
          have H3 := hide H1'
          have H4 := hide H2'
          clear H1' H2' H1 H2
          generalize (gS L i).2 = y at *
          have hi0 : (0 : Int) ≤ (i : Int) := by omega
          have hi1 : (i : Int) < (L.length : Int) := by omega
          generalize hmk2 : -((i + 1 : Nat) : Int) = mk at *
          have hmz : ¬ mk = 0 := by omega
          have hmw : IntKind.i64.wrap (-1 - mk) = (i : Int) := by rw [← hmk2, show -1 - -((i + 1 : Nat) : Int) = (i : Int) by omega, IntKind.wrap_i64]; omega
          have HMK := hide hmk2
          clear hmk2
          go_wp2
          go_quiet ((go_at_call 29; exact Calls.quiet_of_same (KB _)))
          have HB3 := hide (lowD HB.out nq)
          clear c1 c2
          generalize wr.drewN nq = wd at *
          have hmb : (mk == 0) = false := by simpa using hmz
          by_cases hxy : y.size < x.size
          · go_wp2
            refine ⟨⟨k + 1, k + 1, by go_num, by go_num, by omega, hide ?_, HB3⟩, by simp [intOf]; omega⟩
            rw [H3.out ⟨trivial, Or.inr hxy⟩]
          · go_wp2
            · exfalso
              rename_i h
              rcases h with h | h
              · rw [hmb] at h; cases h
              · exact hxy h
            · refine ⟨⟨k + 1, i + 1, congrArg (Value.int IntKind.i64) HMK.out.symm, by go_num, by omega, hide ?_, HB3⟩, by simp [intOf]; omega⟩
              rw [H4.out (fun e => e.2.elim (fun h => by omega) hxy)]
    · obtain rfl : k = L.length := by omega
      have HE : Hid (atM (tL L) s.data.toList = m) := hide (by rw [HM.out, atM, tL_len])
      go_wp2
      go_ret
      exact ⟨by rw [HE.out]; rfl, HB.out⟩

set_option maxRecDepth 20000 in
set_option maxHeartbeats 4000000 in
theorem rparse_any (h : RdS w ao L.length L) (hk : TxOk L) (hM : MkOk (tL L)) (s : ByteArray) (hs : s.size ≤ 100000) : Calls Try.prog 20 #[.slice ao L.length cap, .string s] w fun e w' => (∃ ai ci, e = .returned (.slice ai (parsM (tL L) s.data.toList).length ci) ∧ w'.ownsRow w.heap.size 3 1 (.slice ai (parsM (tL L) s.data.toList).length ci) (parsM (tL L) s.data.toList).length (iv (parsM (tL L) s.data.toList))) ∧ Below w.heap.size w w' := by
  have HV := hide h
  have HK := hide hk
  have HM := hide hM
  have hfew := hk.few
  clear h hk hM
  generalize hp : parsM (tL L) s.data.toList = R
  have HP := hide hp
  clear hp
  go_enter Try.func20, Try.ntmps20
  go_wp2
  go_loopw [1, 5] (fun a b wr => ∃ (t : ByteArray) (u : List Int) (n : Nat) (ai : Option Addr) (ci : Nat), a = .string t ∧ b = .slice ai n ci ∧ n + t.size ≤ s.size ∧ Hid (u.length = n) ∧ Hid (R = u ++ parsM (tL L) t.data.toList) ∧ Hid (wr.ownsRow w.heap.size 3 1 (.slice ai n ci) n (iv u)) ∧ Hid (Below w.heap.size w wr)) (fun a _ _ => szOf a)
  case atStart => exact ⟨s, [], 0, none, 0, rfl, rfl, by omega, hide rfl, hide (by rw [HP.out]; rfl), hide (by simpa [iv] using World.ownsRow_nil _ _ _ _), hide (Below.refl _ _)⟩
  case round =>
    obtain ⟨t, u, n, ai, ci, rfl, rfl, hnt, HN, HRE, HR, HB⟩ := hrel
    by_cases ht : t.size = 0
    · have HF : Hid (R = u) := hide (by
        have h0 : t.data.toList = [] := List.length_eq_zero_iff.1 (by rw [Array.length_toList]; exact ht)
        rw [HRE.out, h0, pars_nil, List.append_nil])
      go_wp2
      go_ret
      have hu : R.length = n := by rw [HF.out]; exact HN.out
      rw [hu]
      refine ⟨⟨ai, ci, rfl, ?_⟩, HB.out⟩
      rw [HF.out]
      exact HR.out
    · have ht0 : 0 < t.size := by omega
      have hti : (0 : Int) < (t.size : Int) := by omega
      have K := rat_any (cap := cap) (HV.out.kept (HB.out.mono (Nat.le_refl _))) HK.out t (by omega)
      have hsb := @step_byte (tL L) t HM.out ht0
      have hsm := @step_mark (tL L) t HM.out
      have hml := @mark_len (tL L) t
      have hbg := @at_bgn (tL L) t.data.toList
      generalize atM (tL L) t.data.toList = m at *
      have HSB := hide hsb
      have HSM := hide hsm
      clear hsb hsm
      go_wp2_with fail
      refine K.mono ?_
      rintro e w1 ⟨rfl, hb1⟩
      clear K
      have HB1 := hide (HB.out.trans (hb1.mono HB.out.size))
      by_cases hm : 0 < m
      · have hi := (hbg hm).1
        rw [tL_len] at hi
        have hml1 := hml hm
        rw [mT_len L hi] at hml1
        have HPE := HSM.out hm
        rw [mT_len L hi] at HPE
        have hne := HK.out.ne _ hi
        have HR1 := hide (row_keptB HR.out hb1)
        obtain ⟨i, rfl⟩ : ∃ i, m = i + 1 := ⟨m - 1, by omega⟩
        simp only [Nat.add_sub_cancel] at *
        have hi0 : (0 : Int) ≤ (i : Int) := by omega
        have hi1 : (i : Int) < (L.length : Int) := by omega
        have HRE2 : Hid (R = (u ++ [-((i + 1 : Nat) : Int)]) ++ parsM (tL L) (t.extract (gS L i).2.size t.size).data.toList) := hide (by rw [HRE.out, HPE]; simp)
        obtain ⟨g1, cap2, w2, hrun, hown, hB2⟩ := app_int w1 w.heap.size ai n ci _ (-((i + 1 : Nat) : Int)) HR1.out (by omega) HB1.out.size
        have HRUN := hide hrun
        have HB3 := hide (HB1.out.trans hB2)
        have HR2 := hide hown
        rcases (HV.out.kept (HB3.out)).2 with h0 | ⟨g, off, rfl, hbl0, hc⟩
        · omega
        have c1 := (hc i hi).2
        have h1t : ((gS L i).2.size : Int) ≤ (t.size : Int) := by omega
        clear hc hb1 hbg hml HPE HSB HSM hrun hown hB2
        generalize (gS L i).2 = x at *
        generalize hmk : -((i + 1 : Nat) : Int) = mk at *
        have hmz : ¬ mk = 0 := by omega
        have hmw : -1 - mk = (i : Int) := by omega
        have HMK := hide hmk
        clear hmk
        go_wp2_with (at_builtin; refine Lib.wpList_append_run _ rfl _ _ _ _ rfl _ _ rfl rfl _ _ HRUN.out ?_)
        exact ⟨⟨_, u ++ [mk], n + 1, _, cap2, rfl, rfl, by rw [ext_size]; omega, hide (by have := HN.out; simp; omega), HRE2, HR2, HB3⟩, by rw [szOf_string, szOf_string, ext_size]; omega⟩
      · obtain rfl : m = 0 := by omega
        obtain ⟨g1, cap2, w2, hrun, hown, hB2⟩ := app_int w1 w.heap.size ai n ci _ (t[0].toNat : Int) (row_keptB HR.out hb1) (by omega) HB1.out.size
        have HRUN := hide hrun
        have HB3 := hide (HB1.out.trans hB2)
        have HR2 := hide hown
        have HRE2 : Hid (R = (u ++ [(t[0].toNat : Int)]) ++ parsM (tL L) (t.extract 1 t.size).data.toList) := hide (by rw [HRE.out, HSB.out rfl]; simp)
        have h1t : (1 : Int) ≤ (t.size : Int) := by omega
        have hcv : wrap64 (t[0].toNat : Int) = (t[0].toNat : Int) := by have := t[0].toNat_lt; unfold wrap64; omega
        clear hrun hown hB2 hb1 hbg hml
        go_wp2_with (at_builtin; refine Lib.wpList_append_run _ rfl _ _ _ _ rfl _ _ rfl rfl _ _ HRUN.out ?_)
        exact ⟨⟨_, u ++ [(t[0].toNat : Int)], n + 1, _, cap2, rfl, rfl, by rw [ext_size]; omega, hide (by have := HN.out; simp; omega), HRE2, HR2, HB3⟩, by rw [szOf_string, szOf_string, ext_size]; omega⟩

/-- What is asked of. -/
def fewS (L : List (Int × ByteArray)) : Prop := L.length ≤ 40 ∧ ∀ i, i < L.length → (gS L i).2.size ≤ 100
set_option maxRecDepth 20000 in
set_option maxHeartbeats 4000000 in
theorem great_any (h : RdS w ao n L) (hn : n ≤ 9223372036854775807) : Calls Try.prog 8 #[.slice ao n cap] w fun e w' => (∃ z, e = .returned (.bool z) ∧ (z = false → fewS L)) ∧ Below w.heap.size w w' := by
  have HR := hide h
  have HLn := hide h.1
  clear h
  go_enter Try.func8, Try.ntmps8
  go_wp2
  go_loopw [3] (fun i wr => ∃ (k : Nat), i = .int .i64 k ∧ k ≤ n ∧ Hid (∀ i, i < k → (gS L i).2.size ≤ 100) ∧ Hid (Below w.heap.size w wr)) (fun i _ => n - (intOf i).toNat)
  case atStart => exact ⟨0, rfl, Nat.zero_le _, hide (fun i hi => by omega), hide (Below.refl _ _)⟩
  case round =>
    obtain ⟨k, rfl, hkn, HA, HB⟩ := hrel
    by_cases hlt : k < n
    · have hk0 : (0 : Int) ≤ (k : Int) := by omega
      have hk1 : (k : Int) < (n : Int) := by omega
      rcases HR.out.2 with h0 | ⟨b, off, rfl, hbl0, hc⟩
      · omega
      have c1 := (HB.out.cell (p := ⟨b, _, none⟩) hbl0).trans (hc k hlt).2
      clear hc
      have HX := hide (rfl : (gS L k).2 = (gS L k).2)
      generalize hgx : (gS L k).2 = x at *
      have HX2 := hide hgx
      clear hgx HX
      by_cases hz : 100 < x.size
      · go_wp2
        go_ret
        exact ⟨⟨true, rfl, fun e => by cases e⟩, HB.out⟩
      · go_wp2
        refine ⟨⟨k + 1, by go_num, by omega, hide (fun i hi => ?_), HB⟩, by simp [intOf]; omega⟩
        by_cases e : i = k
        · subst e; rw [HX2.out]; omega
        · exact HA.out i (by omega)
    · obtain rfl : k = n := by omega
      go_wp2
      go_ret
      refine ⟨⟨_, rfl, fun e => ⟨?_, ?_⟩⟩, HB.out⟩
      · simp at e
        rw [HLn.out]
        omega
      · rw [HLn.out]
        exact HA.out
end
end Go.Proofs.Ytnklgfolllfghaa.Mk
