/- Contract: the reference's Parse. -/
import Derived.Test.YteiinkhdgppgbaaGreatDoorWordF
import Derived.Test.YteiinkhdgppgbaaGreatDoorWordH
namespace Go.Proofs.YteiinkhdgppgbaaGreatDoor
open Go.RowKit
set_option linter.unusedVariables false
set_option linter.unusedSimpArgs false

theorem val_take (s : ByteArray) (k : Nat) (h : k < s.size) : val (s.data.toList.take (k + 1)) = val (s.data.toList.take k) * 10 + (s[k].toNat - 48) := by
  have h' : k < s.data.toList.length := by rw [Array.length_toList]; exact h
  rw [List.take_succ_eq_append_getElem h', val_snoc]
  rfl
theorem val_mono (l : List UInt8) (k : Nat) : val (l.take k) ≤ val l := by
  conv => rhs; rw [← List.take_append_drop k l]
  rw [val, val, valA, valA, List.foldl_append]
  exact valA_ge _ _
theorem head_eq (s : ByteArray) (h : 0 < s.size) : s.data.toList.getD 0 0 = s[0] := by
  have h' : 0 < s.data.toList.length := by rw [Array.length_toList]; exact h
  rw [List.getD_eq_getElem?_getD, List.getElem?_eq_getElem h']
  rfl
theorem mem_at (s : ByteArray) (k : Nat) (h : k < s.size) : s[k] ∈ s.data.toList := by
  have h' : k < s.data.toList.length := by rw [Array.length_toList]; exact h
  have := List.getElem_mem h'
  exact this
theorem good_len (l : List UInt8) (most : Int) (h : Good l most) : l.length ≤ 19 := by
  obtain ⟨hne, hd, h0, hv, _⟩ := h
  have := dec_of_val _ l rfl hne hd h0
  rw [← this]
  have e : (10 : Nat) ^ (18 + 1) = 10000000000000000000 := by decide
  exact decDigits_len 18 _ (by rw [e]; omega)

set_option maxHeartbeats 1600000 in
set_option maxRecDepth 20000 in
theorem refParse_any (s : ByteArray) (most : Int) (w : World) (hs : s.size ≤ 1000000) :
    Calls Tryz.prog 57 #[.string s, .int .i64 most] w fun e w' => e = .returned (.tuple #[.int .i64 (parseS s.data.toList most).1, .bool (parseS s.data.toList most).2]) ∧ Below w.heap.size w w' := by
  have hlen : s.data.toList.length = s.size := Array.length_toList
  have HL := hide hlen
  clear hlen
  have HBAD := hide (parseS_bad s.data.toList most)
  by_cases h0 : s.size = 0
  · have HF := hide (HBAD.out (fun h => h.1 (List.eq_nil_of_length_eq_zero (by rw [HL.out, h0]))))
    go_enter Tryz.func57, Tryz.ntmps57
    go_wp2
    go_ret2
    rw [HF.out]
    exact ⟨rfl, Below.refl _ _⟩
  by_cases h19 : 19 < s.size
  · have HF := hide (HBAD.out (fun h => by have := good_len _ _ h; rw [HL.out] at this; omega))
    go_enter Tryz.func57, Tryz.ntmps57
    go_wp2
    go_ret2
    rw [HF.out]
    exact ⟨rfl, Below.refl _ _⟩
  have hpos : 0 < s.size := by omega
  by_cases hz : 1 < s.size ∧ (s[0].toNat : Int) = 48
  · have HF := hide (HBAD.out (fun h => h.2.2.1 (by rw [HL.out]; exact hz.1) (by rw [head_eq s hpos]; exact UInt8.toNat_inj.1 (by have := hz.2; have e : (48 : UInt8).toNat = 48 := rfl; omega))))
    obtain ⟨hz1, hz2⟩ := hz
    go_enter Tryz.func57, Tryz.ntmps57
    go_wp2
    go_ret2
    rw [HF.out]
    exact ⟨rfl, Below.refl _ _⟩
  have HZ := hide hz
  clear hz
  have HNE : Hid (s.data.toList ≠ []) := hide (fun h => by have := HL.out; rw [h] at this; simp at this; omega)
  have HHD : Hid (1 < s.data.toList.length → s.data.toList.getD 0 0 ≠ 48) := by
    refine hide fun hl h => HZ.out ⟨by rw [← HL.out]; exact hl, ?_⟩
    rw [head_eq s hpos] at h
    rw [h]
    rfl
  have hn0 : ((s.size : Int) == 0) = false := by rw [beq_eq_false_iff_ne]; omega
  have hn19 : ¬ (19 : Int) < s.size := by omega
  by_cases h1 : s.size = 1
  · have hn1 : ¬ (1 : Int) < s.size := by omega
    clear h0 h1 h19
    go_enter Tryz.func57, Tryz.ntmps57
    go_wp2
    clear hn0 hn19 hn1
    go_loopw [6, 7] (fun v i wr => ∃ k : Nat, k ≤ s.size ∧ i = .int .i64 k ∧ v = .int .i64 (val (s.data.toList.take k) : Int) ∧ val (s.data.toList.take k) ≤ 9223372036854775807 ∧ Hid (∀ c ∈ s.data.toList.take k, IsD c) ∧ wr = w) (fun _ i _ => s.size - (intOf i).toNat)
    case atStart =>
      exact ⟨0, Nat.zero_le _, rfl, rfl, Nat.zero_le _, hide (fun c hc => by simp at hc), rfl⟩
    case round =>
      obtain ⟨k, hk, rfl, rfl, hv, hall, rfl⟩ := hrel
      obtain ⟨V, hV⟩ : ∃ V, V = val (s.data.toList.take k) := ⟨_, rfl⟩
      rw [← hV] at hv
      rw [← hV]
      have HV := hide hV
      clear hV
      by_cases hlt : k < s.size
      · have hc := s[k].toNat_lt
        have HM := hide (mem_at s k hlt)
        have HT := hide (val_take s k hlt)
        have HMN := hide (val_mono s.data.toList (k + 1))
        by_cases hc1 : (s[k].toNat : Int) < 48
        · have HF := hide (HBAD.out (fun h => by have := h.2.1 _ HM.out; unfold IsD at this; omega))
          go_wp2
          go_ret2
          rw [HF.out]
          exact ⟨rfl, Below.refl _ _⟩
        by_cases hc2 : 57 < (s[k].toNat : Int)
        · have HF := hide (HBAD.out (fun h => by have := h.2.1 _ HM.out; unfold IsD at this; omega))
          go_wp2
          go_ret2
          rw [HF.out]
          exact ⟨rfl, Below.refl _ _⟩
        by_cases hc3 : (9223372036854775807 - ((s[k].toNat : Int) - 48)) / 10 < (V : Int)
        · have HF := hide (HBAD.out (fun h => by have h1 := h.2.2.2.1; have h2 := HMN.out; rw [HT.out, ← HV.out] at h2; omega))
          go_wp2
          go_ret2
          rw [HF.out]
          exact ⟨rfl, Below.refl _ _⟩
        have HNV : Hid ((val (s.data.toList.take (k + 1)) : Int) = 10 * (V : Int) + ((s[k].toNat : Int) - 48)) := hide (by rw [HT.out, ← HV.out]; omega)
        have HNB : Hid (val (s.data.toList.take (k + 1)) ≤ 9223372036854775807) := hide (by rw [HT.out, ← HV.out]; omega)
        have HALL : Hid (∀ c ∈ s.data.toList.take (k + 1), IsD c) := by
          refine hide ?_
          have h' : k < s.data.toList.length := by rw [HL.out]; exact hlt
          rw [List.take_succ_eq_append_getElem h']
          intro c hcm
          rw [List.mem_append] at hcm
          rcases hcm with hcm | hcm
          · exact hall.out c hcm
          · simp only [List.mem_cons, List.not_mem_nil, or_false] at hcm
            subst hcm
            show 48 ≤ s[k].toNat ∧ s[k].toNat ≤ 57
            omega
        clear hall
        go_wp2
        go_roundw
        case rel =>
          refine ⟨k + 1, by omega, by go_num, ?_, HNB.out, HALL, trivial⟩
          rw [HNV.out]
        case measure => simp [intOf]; omega
      · have hks : k = s.size := by omega
        have HE := hide (show s.data.toList.take k = s.data.toList from List.take_of_length_le (by rw [HL.out]; omega))
        have HVV := hide (show V = val s.data.toList by rw [HV.out, HE.out])
        by_cases hm : most < (V : Int)
        · have HF := hide (HBAD.out (fun h => by have h1 := h.2.2.2.2; rw [← HVV.out] at h1; omega))
          clear hks
          go_wp2
          go_ret2
          rw [HF.out]
          exact ⟨rfl, Below.refl _ _⟩
        · have HF := hide (parseS_good s.data.toList most ⟨HNE.out, by have := hall.out; rw [HE.out] at this; exact this, HHD.out, by rw [← HVV.out]; exact hv, by rw [← HVV.out]; omega⟩)
          clear hks
          go_wp2
          go_ret2
          rw [HF.out, ← HVV.out]
          exact ⟨rfl, Below.refl _ _⟩
  · have hn1 : (1 : Int) < s.size := by omega
    have hz2 : ¬ (s[0].toNat : Int) = 48 := fun h => HZ.out ⟨by omega, h⟩
    have hz3 : ((s[0].toNat : Int) == 48) = false := by simpa using hz2
    clear h0 h1 h19
    go_enter Tryz.func57, Tryz.ntmps57
    go_wp2
    clear hn0 hn19 hn1 hz2 hz3
    go_loopw [6, 7] (fun v i wr => ∃ k : Nat, k ≤ s.size ∧ i = .int .i64 k ∧ v = .int .i64 (val (s.data.toList.take k) : Int) ∧ val (s.data.toList.take k) ≤ 9223372036854775807 ∧ Hid (∀ c ∈ s.data.toList.take k, IsD c) ∧ wr = w) (fun _ i _ => s.size - (intOf i).toNat)
    case atStart =>
      exact ⟨0, Nat.zero_le _, rfl, rfl, Nat.zero_le _, hide (fun c hc => by simp at hc), rfl⟩
    case round =>
      obtain ⟨k, hk, rfl, rfl, hv, hall, rfl⟩ := hrel
      obtain ⟨V, hV⟩ : ∃ V, V = val (s.data.toList.take k) := ⟨_, rfl⟩
      rw [← hV] at hv
      rw [← hV]
      have HV := hide hV
      clear hV
      by_cases hlt : k < s.size
      · have hc := s[k].toNat_lt
        have HM := hide (mem_at s k hlt)
        have HT := hide (val_take s k hlt)
        have HMN := hide (val_mono s.data.toList (k + 1))
        by_cases hc1 : (s[k].toNat : Int) < 48
        · have HF := hide (HBAD.out (fun h => by have := h.2.1 _ HM.out; unfold IsD at this; omega))
          go_wp2
          go_ret2
          rw [HF.out]
          exact ⟨rfl, Below.refl _ _⟩
        by_cases hc2 : 57 < (s[k].toNat : Int)
        · have HF := hide (HBAD.out (fun h => by have := h.2.1 _ HM.out; unfold IsD at this; omega))
          go_wp2
          go_ret2
          rw [HF.out]
          exact ⟨rfl, Below.refl _ _⟩
        by_cases hc3 : (9223372036854775807 - ((s[k].toNat : Int) - 48)) / 10 < (V : Int)
        · have HF := hide (HBAD.out (fun h => by have h1 := h.2.2.2.1; have h2 := HMN.out; rw [HT.out, ← HV.out] at h2; omega))
          go_wp2
          go_ret2
          rw [HF.out]
          exact ⟨rfl, Below.refl _ _⟩
        have HNV : Hid ((val (s.data.toList.take (k + 1)) : Int) = 10 * (V : Int) + ((s[k].toNat : Int) - 48)) := hide (by rw [HT.out, ← HV.out]; omega)
        have HNB : Hid (val (s.data.toList.take (k + 1)) ≤ 9223372036854775807) := hide (by rw [HT.out, ← HV.out]; omega)
        have HALL : Hid (∀ c ∈ s.data.toList.take (k + 1), IsD c) := by
          refine hide ?_
          have h' : k < s.data.toList.length := by rw [HL.out]; exact hlt
          rw [List.take_succ_eq_append_getElem h']
          intro c hcm
          rw [List.mem_append] at hcm
          rcases hcm with hcm | hcm
          · exact hall.out c hcm
          · simp only [List.mem_cons, List.not_mem_nil, or_false] at hcm
            subst hcm
            show 48 ≤ s[k].toNat ∧ s[k].toNat ≤ 57
            omega
        clear hall
        go_wp2
        go_roundw
        case rel =>
          refine ⟨k + 1, by omega, by go_num, ?_, HNB.out, HALL, trivial⟩
          rw [HNV.out]
        case measure => simp [intOf]; omega
      · have hks : k = s.size := by omega
        have HE := hide (show s.data.toList.take k = s.data.toList from List.take_of_length_le (by rw [HL.out]; omega))
        have HVV := hide (show V = val s.data.toList by rw [HV.out, HE.out])
        by_cases hm : most < (V : Int)
        · have HF := hide (HBAD.out (fun h => by have h1 := h.2.2.2.2; rw [← HVV.out] at h1; omega))
          clear hks
          go_wp2
          go_ret2
          rw [HF.out]
          exact ⟨rfl, Below.refl _ _⟩
        · have HF := hide (parseS_good s.data.toList most ⟨HNE.out, by have := hall.out; rw [HE.out] at this; exact this, HHD.out, by rw [← HVV.out]; exact hv, by rw [← HVV.out]; omega⟩)
          clear hks
          go_wp2
          go_ret2
          rw [HF.out, ← HVV.out]
          exact ⟨rfl, Below.refl _ _⟩
end Go.Proofs.YteiinkhdgppgbaaGreatDoor
