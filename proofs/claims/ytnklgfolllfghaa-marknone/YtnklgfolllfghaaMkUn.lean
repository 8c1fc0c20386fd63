/- Laws of marks: MarkNone. -/
import Derived.Test.YtnklgfolllfghaaMkU
namespace Go.Proofs.Ytnklgfolllfghaa.Mk
open Go.RowKit Go.Maps
set_option linter.unusedVariables false
set_option linter.unusedSimpArgs false

theorem mk_nil : MkOk (tL []) := ⟨fun i hi => by simp [tL] at hi, fun i j hi => by simp [tL] at hi⟩
theorem at_nil (s : List UInt8) : atM (tL []) s = 0 := rfl
theorem pars_nilset : ∀ s : List UInt8, parsM (tL []) s = s.map (fun b => (b.toNat : Int))
  | [] => rfl
  | b :: r => by rw [pars_byte mk_nil (at_nil _), pars_nilset r]; rfl
theorem pars_bys (s : ByteArray) : parsM (tL []) s.data.toList = bys s := pars_nilset _
theorem rnd_bys (s : ByteArray) : rnd (tL []) (bys s) = some s.data.toList := by rw [← pars_bys]; exact rnd_pars mk_nil _
set_option maxRecDepth 20000 in
set_option maxHeartbeats 8000000 in
theorem none_walk (s : ByteArray) (m : Int) (w : World) (hsz : s.size ≤ 9223372036854775807) (hm : -9223372036854775808 ≤ m ∧ m ≤ 9223372036854775807) :
    Calls Try.prog 7 #[.string s, .int .i64 m] w fun e w' => e = .returned (.bool true) ∧ Below w.heap.size w w' := by
  go_enter Try.func7, Try.ntmps7
  by_cases hbig : 100 < s.size
  · have hc : (100 : Int) < (s.size : Int) := by omega
    go_wp2_with fail
    refine (awake9_any _).mono ?_
    rintro e w2 ⟨rfl, hb2⟩
    have HB2 := hide hb2
    clear hb2
    go_wp2
    go_ret
    exact ⟨rfl, HB2.out⟩
  · have hc : ¬ (100 : Int) < (s.size : Int) := by omega
    have KA := at_any (StV.nil w) TxOk.nil s (by omega)
    rw [show atM (tL []) s.data.toList = 0 from rfl] at KA
    have hss : (s.toList == s.toList) = true := by simp
    go_wp2_with fail
    refine KA.mono ?_
    rintro e w1 ⟨rfl, hb1⟩
    have HB1 := hide hb1
    have KI := id_no (StV.nil w1) (by simp) m hm (by simp; omega)
    clear KA hb1
    go_wp2_with fail
    refine KI.mono ?_
    rintro e w2 ⟨rfl, hb2⟩
    have HB2 := hide (HB1.out.trans (hb2.mono HB1.out.size))
    have KM := mark_nil (w := w2) m
    clear KI hb2 HB1
    go_wp2_with fail
    refine KM.mono ?_
    rintro e w2' ⟨rfl, rfl⟩
    have KB := bytes_any s w2' (by omega)
    clear KM
    go_wp2_with fail
    refine KB.mono ?_
    rintro e w3 ⟨⟨ai, ci, rfl, hr3⟩, hb3⟩
    have HB3 := hide (HB2.out.trans (hb3.mono HB2.out.size))
    have KR := render_any (ci := ci) (StV.nil w3) TxOk.nil (RdI.of_row hr3) (fun i hi => by
      rw [← pars_bys]
      exact wf_pars (T := tL []) (by simp [tL]) _ _ i (by have := pars_bys s; unfold parsM at this; rw [this, bys_len]; exact hi)) (by omega)
    rw [rnd_bys, show RndV (some s.data.toList) = .tuple #[.string s, .bool true] by simp [RndV]] at KR
    clear KB hb3 hr3 HB2
    go_wp2_with fail
    refine KR.mono ?_
    rintro e w4 ⟨rfl, hb4⟩
    have HB4 := hide (HB3.out.trans (hb4.mono HB3.out.size))
    have KL := len_any (StV.nil w4)
    clear KR hb4 HB3
    go_wp2_with fail
    refine KL.mono ?_
    rintro e w4' ⟨rfl, rfl⟩
    have KA := All_any (StV.nil w4') (by simp)
    clear KL
    go_wp2_with fail
    refine KA.mono ?_
    rintro e w5 ⟨⟨a5, c5, rfl, _⟩, hb5⟩
    have HB5 := hide (HB4.out.trans (hb5.mono HB4.out.size))
    have KP := parse_any (StV.nil w5) TxOk.nil mk_nil s (by omega)
    rw [pars_bys, bys_len] at KP
    clear KA hb5 HB4
    go_wp2_with fail
    refine KP.mono ?_
    rintro e w6 ⟨⟨a6, c6, rfl, hr6⟩, hb6⟩
    have HB6 := hide (HB5.out.trans (hb6.mono HB5.out.size))
    have HR6 := hide hr6
    have KB := bytes_any s w6 (by omega)
    clear KP hb6 HB5 hr6
    go_wp2_with fail
    refine KB.mono ?_
    rintro e w7 ⟨⟨a7, c7, rfl, hr7⟩, hb7⟩
    have HB7 := hide (HB6.out.trans (hb7.mono HB6.out.size))
    have hr67 := row_keptB HR6.out hb7
    rw [← bys_len s] at hr7 hr67
    have KS := ints_same w7 _ _ _ _ _ hr67 hr7 (by rw [bys_len]; omega)
    rw [bys_len] at KS
    clear KB hb7 HB6 hr7 hr67 HR6
    go_wp2_with fail
    refine KS.mono ?_
    rintro e w8 ⟨rfl, hb8⟩
    have HB8 := hide (HB7.out.trans (hb8.mono HB7.out.size))
    clear KS hb8 HB7
    go_wp2_with fail
    refine (awake9_any _).mono ?_
    rintro e w9 ⟨rfl, hb9⟩
    have HB9 := hide (HB8.out.trans (hb9.mono HB8.out.size))
    clear hb9 HB8
    go_wp2
    go_ret
    exact ⟨rfl, HB9.out⟩
end Go.Proofs.Ytnklgfolllfghaa.Mk
