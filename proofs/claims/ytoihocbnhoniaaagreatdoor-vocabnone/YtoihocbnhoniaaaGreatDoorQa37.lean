/- Contracts of package mark: Bytes, Parse. -/
import Derived.Test.YtoihocbnhoniaaaGreatDoorQa36
namespace Go.Proofs.YtoihocbnhoniaaaGreatDoor.Mk
open Go.RowKit Go.Maps
set_option linter.unusedVariables false
set_option linter.unusedSimpArgs false

def bys (s : ByteArray) : List Int := s.data.toList.map (fun b => (b.toNat : Int))

theorem bys_len (s : ByteArray) : (bys s).length = s.size := by
  unfold bys
  rw [List.length_map, Array.length_toList]
  rfl

theorem bys_take (s : ByteArray) {k : Nat} (h : k < s.size) : (bys s).take (k + 1) = (bys s).take k ++ [(s[k].toNat : Int)] := by
  have h' : k < (bys s).length := by rw [bys_len]; exact h
  rw [List.take_succ_eq_append_getElem h']
  congr 2
  simp [bys]
  rfl

theorem size_toList (s : ByteArray) : s.toList.length = s.size := by rw [ByteArray.toList_eq, Array.length_toList]; rfl

theorem isEmpty_true {s : ByteArray} (h : s.size = 0) : s.toList.isEmpty = true := by rw [List.isEmpty_iff_length_eq_zero, size_toList, h]

theorem isEmpty_false {s : ByteArray} (h : ¬ s.size = 0) : s.toList.isEmpty = false := by
  rw [Bool.eq_false_iff]
  intro h'
  rw [List.isEmpty_iff_length_eq_zero, size_toList] at h'
  exact h h'

theorem ext_list (t : ByteArray) (k : Nat) : (t.extract k t.size).data.toList = t.data.toList.drop k := by
  simp
  have : t.data.toList.length = t.size := Array.length_toList
  rw [List.take_of_length_le (by simp)]

theorem ext_size (t : ByteArray) (k : Nat) : (t.extract k t.size).size = t.size - k := by simp

def szOf : Value → Nat
  | .string s => s.size
  | _ => 0
@[simp] theorem szOf_string (s : ByteArray) : szOf (.string s) = s.size := rfl

set_option maxRecDepth 20000 in
set_option maxHeartbeats 4000000 in
theorem bytes_any (s : ByteArray) (w : World) (hs : s.size ≤ 100000) : Calls Tryz.prog 99 #[.string s] w fun e w' => (∃ ao cap, e = .returned (.slice ao s.size cap) ∧ w'.ownsRow w.heap.size 3 1 (.slice ao s.size cap) s.size (iv (bys s))) ∧ Below w.heap.size w w' := by
  go_enter Tryz.func99, Tryz.ntmps99
  go_wp2
  go_loopw [3, 7] (fun a i wr => ∃ (k : Nat) (ao : Option Addr) (cap : Nat), a = .slice ao k cap ∧ i = .int .i64 k ∧ k ≤ s.size ∧ Hid (wr.ownsRow w.heap.size 3 1 (.slice ao k cap) k (iv ((bys s).take k))) ∧ Hid (Below w.heap.size w wr)) (fun _ i _ => s.size - (intOf i).toNat)
  case atStart => exact ⟨0, none, 0, rfl, rfl, Nat.zero_le _, hide (by simpa [iv] using World.ownsRow_nil _ _ _ _), hide (Below.refl _ _)⟩
  case round =>
    obtain ⟨k, ao, cap, rfl, rfl, hkn, HR, HB⟩ := hrel
    by_cases hlt : k < s.size
    · have hk0 : (0 : Int) ≤ (k : Int) := by omega
      have hk1 : (k : Int) < (s.size : Int) := by omega
      obtain ⟨g1, cap2, w1, hrun, hown, hB1⟩ := app_int wr w.heap.size ao k cap _ (s[k].toNat : Int) HR.out (by omega) HB.out.size
      rw [← bys_take s hlt] at hown
      have HRUN := hide hrun
      have HB2 := hide (HB.out.trans hB1)
      have HR2 := hide hown
      have hcv : wrap64 (s[k].toNat : Int) = (s[k].toNat : Int) := by have := s[k].toNat_lt; unfold wrap64; omega
      clear hrun hown hB1
      go_wp2_with (at_builtin; refine Lib.wpList_append_run _ rfl _ _ _ _ rfl _ _ rfl rfl _ _ HRUN.out ?_)
      exact ⟨⟨k + 1, _, cap2, by simp, by go_num, by omega, HR2, HB2⟩, by simp [intOf]; omega⟩
    · obtain rfl : k = s.size := by omega
      have HF := hide HR.out
      rw [List.take_of_length_le (by rw [bys_len]; exact Nat.le_refl _)] at HF
      go_wp2
      go_ret
      exact ⟨⟨ao, cap, rfl, HF.out⟩, HB.out⟩

section
variable {T : List (List UInt8)} {t : ByteArray}
theorem cons_of_size (h : 0 < t.size) : t.data.toList = t[0] :: t.data.toList.drop 1 := by
  have h' : 0 < t.data.toList.length := by rw [Array.length_toList]; exact h
  conv => lhs; rw [← List.drop_zero (l := t.data.toList), List.drop_eq_getElem_cons h']
  simp
  rfl

theorem step_byte (hM : MkOk T) (h : 0 < t.size) (h0 : atM T t.data.toList = 0) : parsM T t.data.toList = (t[0].toNat : Int) :: parsM T (t.extract 1 t.size).data.toList := by
  have e := cons_of_size h
  rw [ext_list]
  rw [e] at h0
  conv => lhs; rw [e]
  exact pars_byte hM h0

theorem step_mark (hM : MkOk T) (h0 : 0 < atM T t.data.toList) : parsM T t.data.toList = -(atM T t.data.toList : Int) :: parsM T (t.extract (mT T (atM T t.data.toList - 1)).length t.size).data.toList := by
  rw [ext_list]
  exact pars_mark hM h0

theorem mark_len (h0 : 0 < atM T t.data.toList) : (mT T (atM T t.data.toList - 1)).length ≤ t.size := by
  obtain ⟨h1, h2⟩ := at_bgn h0
  unfold bgn at h2
  simp only [decide_eq_true_eq] at h2
  have : t.data.toList.length = t.size := Array.length_toList
  omega
end

section
variable {v : Value} {ao : Option Addr} {cap : Nat} {L : List (Int × ByteArray)} {w : World}
end
end Go.Proofs.YtoihocbnhoniaaaGreatDoor.Mk
