/- Contracts of package mark: Bytes, Parse. -/
import Derived.Test.YtnklgfolllfghaaMkC
namespace Go.Proofs.Ytnklgfolllfghaa.Mk
open Go.RowKit Go.Maps
set_option linter.unusedVariables false
set_option linter.unusedSimpArgs false

def bys (s : ByteArray) : List Int := s.data.toList.map (fun b => (b.toNat : Int))
theorem bys_len (s : ByteArray) : (bys s).length = s.size := by
  unfold bys
  rw [List.length_map, Array.length_toList]
  rfl
theorem bys_take (s : ByteArray) {k : Nat} (h : k < s.size) : (bys s).take (k + 1) = (bys s).take k ++ [(s[k].toNat : Int)] := by
  have h' : k < (bys s).length := by rw [bys_len]; exact h
  rw [List.take_succ_eq_append_getElem h']
  congr 2
  simp [bys]
  rfl
theorem size_toList (s : ByteArray) : s.toList.length = s.size := by rw [ByteArray.toList_eq, Array.length_toList]; rfl
theorem isEmpty_true {s : ByteArray} (h : s.size = 0) : s.toList.isEmpty = true := by rw [List.isEmpty_iff_length_eq_zero, size_toList, h]
theorem isEmpty_false {s : ByteArray} (h : ¬ s.size = 0) : s.toList.isEmpty = false := by
  rw [Bool.eq_false_iff]
  intro h'
  rw [List.isEmpty_iff_length_eq_zero, size_toList] at h'
  exact h h'
theorem ext_list (t : ByteArray) (k : Nat) : (t.extract k t.size).data.toList = t.data.toList.drop k := by
  simp
  have : t.data.toList.length = t.size := Array.length_toList
  rw [List.take_of_length_le (by simp)]
theorem ext_size (t : ByteArray) (k : Nat) : (t.extract k t.size).size = t.size - k := by simp
def szOf : Value → Nat
  | .string s => s.size
  | _ => 0
@[simp] theorem szOf_string (s : ByteArray) : szOf (.string s) = s.size := rfl

set_option maxRecDepth 20000 in
set_option maxHeartbeats 4000000 in
theorem bytes_any (s : ByteArray) (w : World) (hs : s.size ≤ 100000) : Calls Try.prog 23 #[.string s] w fun e w' => (∃ ao cap, e = .returned (.slice ao s.size cap) ∧ w'.ownsRow w.heap.size 3 1 (.slice ao s.size cap) s.size (iv (bys s))) ∧ Below w.heap.size w w' := by
  go_enter Try.func23, Try.ntmps23
  go_wp2
  go_loopw [3, 7] (fun a i wr => ∃ (k : Nat) (ao : Option Addr) (cap : Nat), a = .slice ao k cap ∧ i = .int .i64 k ∧ k ≤ s.size ∧ Hid (wr.ownsRow w.heap.size 3 1 (.slice ao k cap) k (iv ((bys s).take k))) ∧ Hid (Below w.heap.size w wr)) (fun _ i _ => s.size - (intOf i).toNat)
  case atStart => exact ⟨0, none, 0, rfl, rfl, Nat.zero_le _, hide (by simpa [iv] using World.ownsRow_nil _ _ _ _), hide (Below.refl _ _)⟩
  case round =>
    obtain ⟨k, ao, cap, rfl, rfl, hkn, HR, HB⟩ := hrel
    by_cases hlt : k < s.size
    · have hk0 : (0 : Int) ≤ (k : Int) := by omega
      have hk1 : (k : Int) < (s.size : Int) := by omega
      obtain ⟨g1, cap2, w1, hrun, hown, hB1⟩ := app_int wr w.heap.size ao k cap _ (s[k].toNat : Int) HR.out (by omega) HB.out.size
      rw [← bys_take s hlt] at hown
      have HRUN := hide hrun
      have HB2 := hide (HB.out.trans hB1)
      have HR2 := hide hown
      have hcv : wrap64 (s[k].toNat : Int) = (s[k].toNat : Int) := by have := s[k].toNat_lt; unfold wrap64; omega
      clear hrun hown hB1
      go_wp2_with (at_builtin; refine Lib.wpList_append_run _ rfl _ _ _ _ rfl _ _ rfl rfl _ _ HRUN.out ?_)
      exact ⟨⟨k + 1, _, cap2, by simp, by go_num, by omega, HR2, HB2⟩, by simp [intOf]; omega⟩
    · obtain rfl : k = s.size := by omega
      have HF := hide HR.out
      rw [List.take_of_length_le (by rw [bys_len]; exact Nat.le_refl _)] at HF
      go_wp2
      go_ret
      exact ⟨⟨ao, cap, rfl, HF.out⟩, HB.out⟩

section
variable {T : List (List UInt8)} {t : ByteArray}
theorem cons_of_size (h : 0 < t.size) : t.data.toList = t[0] :: t.data.toList.drop 1 := by
  have h' : 0 < t.data.toList.length := by rw [Array.length_toList]; exact h
  conv => lhs; rw [← List.drop_zero (l := t.data.toList), List.drop_eq_getElem_cons h']
  simp
  rfl
theorem step_byte (hM : MkOk T) (h : 0 < t.size) (h0 : atM T t.data.toList = 0) : parsM T t.data.toList = (t[0].toNat : Int) :: parsM T (t.extract 1 t.size).data.toList := by
  have e := cons_of_size h
  rw [ext_list]
  rw [e] at h0
  conv => lhs; rw [e]
  exact pars_byte hM h0
theorem step_mark (hM : MkOk T) (h0 : 0 < atM T t.data.toList) : parsM T t.data.toList = -(atM T t.data.toList : Int) :: parsM T (t.extract (mT T (atM T t.data.toList - 1)).length t.size).data.toList := by
  rw [ext_list]
  exact pars_mark hM h0
theorem mark_len (h0 : 0 < atM T t.data.toList) : (mT T (atM T t.data.toList - 1)).length ≤ t.size := by
  obtain ⟨h1, h2⟩ := at_bgn h0
  unfold bgn at h2
  simp only [decide_eq_true_eq] at h2
  have : t.data.toList.length = t.size := Array.length_toList
  omega
end

section
variable {v : Value} {ao : Option Addr} {cap : Nat} {L : List (Int × ByteArray)} {w : World}
set_option maxRecDepth 20000 in
set_option maxHeartbeats 4000000 in
theorem parse_any (h : StV w v ao cap L) (hk : TxOk L) (hM : MkOk (tL L)) (s : ByteArray) (hs : s.size ≤ 100000) : Calls Try.prog 19 #[v, .string s] w fun e w' => (∃ ai ci, e = .returned (.slice ai (parsM (tL L) s.data.toList).length ci) ∧ w'.ownsRow w.heap.size 3 1 (.slice ai (parsM (tL L) s.data.toList).length ci) (parsM (tL L) s.data.toList).length (iv (parsM (tL L) s.data.toList))) ∧ Below w.heap.size w w' := by
  have HV := hide h
  have HK := hide hk
  have HM := hide hM
  have hfew := hk.few
  clear h hk hM
  generalize hp : parsM (tL L) s.data.toList = R
  have HP := hide hp
  clear hp
  go_enter Try.func19, Try.ntmps19
  go_wp2
  go_loopw [1, 5] (fun a b wr => ∃ (t : ByteArray) (u : List Int) (n : Nat) (ai : Option Addr) (ci : Nat), a = .string t ∧ b = .slice ai n ci ∧ n + t.size ≤ s.size ∧ Hid (u.length = n) ∧ Hid (R = u ++ parsM (tL L) t.data.toList) ∧ Hid (wr.ownsRow w.heap.size 3 1 (.slice ai n ci) n (iv u)) ∧ Hid (Below w.heap.size w wr)) (fun a _ _ => szOf a)
  case atStart => exact ⟨s, [], 0, none, 0, rfl, rfl, by omega, hide rfl, hide (by rw [HP.out]; rfl), hide (by simpa [iv] using World.ownsRow_nil _ _ _ _), hide (Below.refl _ _)⟩
  case round =>
    obtain ⟨t, u, n, ai, ci, rfl, rfl, hnt, HN, HRE, HR, HB⟩ := hrel
    by_cases ht : t.size = 0
    · have he := isEmpty_true ht
      have HF : Hid (R = u) := hide (by
        have h0 : t.data.toList = [] := List.length_eq_zero_iff.1 (by rw [Array.length_toList]; exact ht)
        rw [HRE.out, h0, pars_nil, List.append_nil])
      have HT := hide ht
      clear ht hnt
      go_wp2
      go_ret
      have hu : R.length = n := by rw [HF.out]; exact HN.out
      rw [hu]
      refine ⟨⟨ai, ci, rfl, ?_⟩, HB.out⟩
      rw [HF.out]
      exact HR.out
    · have he := isEmpty_false ht
      have ht0 : 0 < t.size := by omega
      have hti : (0 : Int) < (t.size : Int) := by omega
      have K := at_any (HV.out.kept (HB.out.mono (Nat.le_refl _))) HK.out t (by omega)
      have hsb := @step_byte (tL L) t HM.out ht0
      have hsm := @step_mark (tL L) t HM.out
      have hml := @mark_len (tL L) t
      have hbg := @at_bgn (tL L) t.data.toList
      generalize atM (tL L) t.data.toList = m at *
      have HSB := hide hsb
      have HSM := hide hsm
      clear hsb hsm
      go_wp2_with fail
      refine K.mono ?_
      rintro e w1 ⟨rfl, hb1⟩
      clear K
      have HB1 := hide (HB.out.trans (hb1.mono HB.out.size))
      by_cases hm : 0 < m
      · have hi := (hbg hm).1
        rw [tL_len] at hi
        have hml1 := hml hm
        rw [mT_len L hi] at hml1
        have HPE := HSM.out hm
        rw [mT_len L hi] at HPE
        have hne := HK.out.ne _ hi
        have hV1 := HV.out.kept HB1.out
        rcases hV1.is with ⟨_, e2, _⟩ | ⟨b, mb, rfl, c0, h3, h4⟩
        · rw [e2] at hi; cases hi
        rcases hV1.rd.2 with h0 | ⟨g, off, rfl, hbl0, hc⟩
        · omega
        have c1 := (hc (m - 1) hi).2
        obtain ⟨i, rfl⟩ : ∃ i, m = i + 1 := ⟨m - 1, by omega⟩
        simp only [Nat.add_sub_cancel] at *
        have KF : ∀ w, Calls Try.prog 26 #[.int .i64 (-((i + 1 : Nat) : Int))] w fun e w' => e = .returned (.int .i64 (i : Int)) ∧ w' = w := fun w => by
          have := flip_any (-((i + 1 : Nat) : Int)) w ⟨by omega, by omega⟩
          rw [show -1 - -((i + 1 : Nat) : Int) = (i : Int) by omega] at this
          exact this
        have hi0 : (0 : Int) ≤ (i : Int) := by omega
        have hi1 : (i : Int) < (L.length : Int) := by omega
        have HRE2 : Hid (R = (u ++ [-((i + 1 : Nat) : Int)]) ++ parsM (tL L) (t.extract (gS L i).2.size t.size).data.toList) := hide (by rw [HRE.out, HPE]; simp)
        have HR1 := hide (row_keptB HR.out hb1)
        clear hV1 hc h3 h4 hb1 hbg hml HPE HSB HSM
        generalize (gS L i).2 = x at *
        generalize hmk : -((i + 1 : Nat) : Int) = mk at *
        have HMK := hide hmk
        clear hmk
        go_wp2
        go_quiet ((go_at_call 26; exact Calls.quiet_of_same (KF _)))
        have HB4 := hide (lowD HB1.out nq)
        have HR4 : Hid ((w1.drewN nq).ownsRow w.heap.size 3 1 (.slice ai n ci) n (iv u)) := hide (row_keptB HR1.out (lowD (Below.refl _ _) nq))
        clear c0 c1 HB1 HR1 KF
        generalize w1.drewN nq = wd at *
        obtain ⟨g1, cap2, w2, hrun, hown, hB2⟩ := app_int wd w.heap.size ai n ci _ mk HR4.out (by omega) HB4.out.size
        have HRUN := hide hrun
        have HB3 := hide (HB4.out.trans hB2)
        have HR2 := hide hown
        have h1t : (x.size : Int) ≤ (t.size : Int) := by omega
        clear hrun hown hB2
        go_wp2_with (at_builtin; refine Lib.wpList_append_run _ rfl _ _ _ _ rfl _ _ rfl rfl _ _ HRUN.out ?_)
        exact ⟨⟨_, u ++ [mk], n + 1, _, cap2, rfl, rfl, by rw [ext_size]; omega, hide (by have := HN.out; simp; omega), HRE2, HR2, HB3⟩, by rw [szOf_string, szOf_string, ext_size]; omega⟩
      · obtain rfl : m = 0 := by omega
        obtain ⟨g1, cap2, w2, hrun, hown, hB2⟩ := app_int w1 w.heap.size ai n ci _ (t[0].toNat : Int) (row_keptB HR.out hb1) (by omega) HB1.out.size
        have HRUN := hide hrun
        have HB3 := hide (HB1.out.trans hB2)
        have HR2 := hide hown
        have HRE2 : Hid (R = (u ++ [(t[0].toNat : Int)]) ++ parsM (tL L) (t.extract 1 t.size).data.toList) := hide (by rw [HRE.out, HSB.out rfl]; simp)
        have h1t : (1 : Int) ≤ (t.size : Int) := by omega
        have hcv : wrap64 (t[0].toNat : Int) = (t[0].toNat : Int) := by have := t[0].toNat_lt; unfold wrap64; omega
        clear hrun hown hB2 hb1 hbg hml
        go_wp2_with (at_builtin; refine Lib.wpList_append_run _ rfl _ _ _ _ rfl _ _ rfl rfl _ _ HRUN.out ?_)
        exact ⟨⟨_, u ++ [(t[0].toNat : Int)], n + 1, _, cap2, rfl, rfl, by rw [ext_size]; omega, hide (by have := HN.out; simp; omega), HRE2, HR2, HB3⟩, by rw [szOf_string, szOf_string, ext_size]; omega⟩
end
end Go.Proofs.Ytnklgfolllfghaa.Mk
