/- The law of numbers: its walk. -/
import Derived.Test.YtgkcaflnhhfbgabDoorWordG
import Derived.Test.YtgkcaflnhhfbgabDoorWordI
import Derived.Test.YtgkcaflnhhfbgabDoorWordJ
import Derived.Test.YtgkcaflnhhfbgabDoorWordK
namespace Go.Proofs.YtgkcaflnhhfbgabDoor
open Go.RowKit
set_option linter.unusedVariables false
set_option linter.unusedSimpArgs false

/-- Numbers with blanks between. -/
def jl : List Int → List UInt8
  | [] => []
  | z :: r => lineL (numS z) (r.map numS)
theorem jl_snoc (l : List Int) (z : Int) (h : l ≠ []) : jl (l ++ [z]) = jl l ++ ([32] ++ Lib.itoa z) := by
  cases l with
  | nil => exact absurd rfl h
  | cons a r =>
    show lineL (numS a) ((r ++ [z]).map numS) = lineL (numS a) (r.map numS) ++ _
    simp [lineL, numS]
theorem jl_one (z : Int) : jl [z] = Lib.itoa z := by simp [jl, lineL, numS]
theorem jl_take (zs : List Int) (k : Nat) (h : k < zs.length) : jl (zs.take (k + 1)) = if k = 0 then Lib.itoa (zs.getD k 0) else jl (zs.take k) ++ ([32] ++ Lib.itoa (zs.getD k 0)) := by
  rw [List.take_succ_eq_append_getElem h]
  have hg : zs.getD k 0 = zs[k] := by simp [List.getD_eq_getElem?_getD, List.getElem?_eq_getElem h]
  rw [hg]
  split
  · rename_i h0
    subst h0
    simp only [List.take_zero, List.nil_append]
    exact jl_one _
  · rename_i h0
    exact jl_snoc _ _ (fun e => by have := congrArg List.length e; rw [List.length_take, Nat.min_eq_left (by omega), List.length_nil] at this; exact h0 this)
theorem numS_small (z : Int) (h0 : -9223372036854775808 ≤ z) (h1 : z ≤ 9223372036854775807) : (Lib.itoa z).length ≤ 21 := by
  rw [Lib.itoa]
  have e : (10 : Nat) ^ (19 + 1) = 100000000000000000000 := by decide
  split
  · have := decDigits_len 19 z.natAbs (by rw [e]; omega)
    rw [List.length_cons]
    omega
  · have := decDigits_len 19 z.toNat (by rw [e]; omega)
    omega
theorem size_mk (l : List UInt8) : (⟨l.toArray⟩ : ByteArray).size = l.length := by show l.toArray.size = _; rw [List.size_toArray]

set_option maxHeartbeats 3200000 in
set_option maxRecDepth 20000 in
theorem numbers_walk (n : Int) (s : ByteArray) (most : Int) (ao : Option Addr) (m cap : Nat) (zs : List Int) (w : World) (hn : -9223372036854775808 ≤ n ∧ n ≤ 9223372036854775807)
    (hR : Reads .i64 w ao m zs) (hz : ∀ z ∈ zs, -9223372036854775808 ≤ z ∧ z ≤ 9223372036854775807) (ht : Tens w) (he : Errs w) (hm : m ≤ 9223372036854775807) :
    Calls Tryd.prog 3 #[.int .i64 n, .string s, .int .i64 most, .slice ao m cap] w fun e w' => e = .returned (.bool true) ∧ Below w.heap.size w w' := by
  have HT := hide ht
  have HE := hide he
  have HR := hide hR
  have HZ := hide hz
  have HN := hide hn
  clear ht he hR hz hn
  by_cases h1 : (100 : Int) < s.size
  · go_enter Tryd.func3, Tryd.ntmps3
    go_wp2_with fail
    refine (awake_any w HT.out).mono ?_
    rintro e w1 ⟨rfl, hb1⟩
    go_wp2
    go_ret
    exact ⟨rfl, hb1⟩
  by_cases h2 : (30 : Int) < m
  · go_enter Tryd.func3, Tryd.ntmps3
    go_wp2_with fail
    refine (awake_any w HT.out).mono ?_
    rintro e w1 ⟨rfl, hb1⟩
    go_wp2
    go_ret
    exact ⟨rfl, hb1⟩
  obtain ⟨T, hT⟩ : ∃ T, T = numS n := ⟨_, rfl⟩
  have C1 : Hid (∀ w, Tens w → Calls Tryd.prog 10 #[.int .i64 n] w fun e w' => e = .returned (.string T) ∧ Below w.heap.size w w') := hide (fun w ht => by rw [hT]; exact number_any n HN.out.1 HN.out.2 w ht)
  have C2 : Hid (∀ w, Calls Tryd.prog 9 #[.int .i64 n] w fun e w' => e = .returned (.string T) ∧ Below w.heap.size w w') := hide (fun w => by rw [hT]; exact refNumber_any n w HN.out.1 HN.out.2)
  clear hT
  obtain ⟨v, hv⟩ : ∃ v, v = (parseS s.data.toList most).1 := ⟨_, rfl⟩
  obtain ⟨ok, hok⟩ : ∃ ok, ok = (parseS s.data.toList most).2 := ⟨_, rfl⟩
  have CP := hide (parse_any s most w (by omega) HT.out HE.out)
  have CR := hide (fun w => refParse_any s most w (by omega))
  rw [← hv, ← hok] at CP
  simp only [← hv, ← hok] at CR
  clear hv hok
  go_enter Tryd.func3, Tryd.ntmps3
  go_wp2_with fail
  refine (CP.out).mono ?_
  rintro e w1 ⟨rfl, hb1⟩
  have HB1 := hide hb1
  clear hb1
  go_wp2_with fail
  refine (CR.out w1).mono ?_
  rintro e w2 ⟨rfl, hb2⟩
  have HB2 := hide (HB1.out.trans (hb2.mono HB1.out.size))
  clear hb2
  go_wp2_with fail
  have h30 : m ≤ 30 := by omega
  clear h1 h2
  go_loopw [13, 14] (fun S i wr => ∃ (k : Nat) (l : List UInt8), k ≤ m ∧ i = .int .i64 k ∧ S = .string ⟨l.toArray⟩ ∧ l.length ≤ 30 * k ∧ Hid (l = jl (zs.take k)) ∧ Below w.heap.size w wr) (fun _ i _ => m - (intOf i).toNat)
  case atStart => exact ⟨0, [], Nat.zero_le _, rfl, rfl, Nat.le_refl _, hide rfl, HB2.out⟩
  case round =>
    obtain ⟨k, l, hk, rfl, rfl, hl, hj, hbel⟩ := hrel
    have hl8 : ((⟨l.toArray⟩ : ByteArray).size : Int) ≤ 8388608 := by rw [size_mk]; omega
    by_cases hlt : k < m
    · obtain ⟨b, off, rfl, hcell⟩ := HR.out.at hlt
      obtain ⟨z, hz⟩ : ∃ z, z = zs.getD k 0 := ⟨_, rfl⟩
      have hck := (bcell hbel (World.block_lt_of_cell? w _ (hcell k hlt))).trans (hcell k hlt)
      rw [← hz] at hck
      have HZ1 := hide hz
      have hzr : -9223372036854775808 ≤ z ∧ z ≤ 9223372036854775807 := by
        rw [hz, List.getD_eq_getElem?_getD, List.getElem?_eq_getElem (by rw [HR.out.1]; exact hlt)]
        exact HZ.out _ (List.getElem_mem _)
      have HJ := hide (jl_take zs k (by rw [HR.out.1]; exact hlt))
      rw [← hz] at HJ
      have hns := numS_small z hzr.1 hzr.2
      have hn8 : ((⟨(Lib.itoa z).toArray⟩ : ByteArray).size : Int) ≤ 8388608 := by rw [size_mk]; omega
      have CN := hide (refNumber_any z wr hzr.1 hzr.2)
      clear hz hcell
      by_cases hk0 : k = 0
      · subst hk0
        have hl0 : l = [] := by rw [hj.out]; rfl
        rw [Nat.add_zero] at hck
        subst hl0
        clear hj
        go_wp2_with fail
        refine CN.out.mono ?_
        rintro e w3 ⟨rfl, hb3⟩
        have HB3 := hide (hbel.trans (hb3.mono hbel.size))
        clear hb3
        go_wp2
        go_roundw
        case rel =>
          refine ⟨1, Lib.itoa z, by omega, by go_num, ?_, by omega, hide ?_, HB3.out⟩
          · exact congrArg Value.string (str_append [] (Lib.itoa z))
          · rw [HJ.out]; simp
        case measure => simp [intOf]; omega
      · have hkp : (0 : Int) < k := by omega
        have hl9 : ((({ data := l.toArray } : ByteArray) ++ { data := #[32] }).size : Int) ≤ 8388608 := by
          rw [ByteArray.size_append, size_mk]
          show (((l.length + 1 : Nat)) : Int) ≤ _
          omega
        go_wp2_with fail
        refine CN.out.mono ?_
        rintro e w3 ⟨rfl, hb3⟩
        have HB3 := hide (hbel.trans (hb3.mono hbel.size))
        clear hb3
        go_wp2
        go_roundw
        case rel =>
          refine ⟨k + 1, l ++ [32] ++ Lib.itoa z, by omega, by go_num, ?_, ?_, hide ?_, HB3.out⟩
          · rw [← str_append, ← str_append]
          · rw [List.length_append, List.length_append]
            simp only [List.length_cons, List.length_nil]
            omega
          · rw [HJ.out, if_neg hk0, ← hj.out, List.append_assoc]
        case measure => simp [intOf]; omega
    · have hkm : k = m := by omega
      have HE := hide (show zs.take k = zs from List.take_of_length_le (by rw [HR.out.1]; omega))
      have HT3 := hide (tens_below HT.out hbel)
      clear hkm
      by_cases hm0 : m = 0
      · have HW := hide (show numsS zs = ⟨#[45]⟩ by rw [List.eq_nil_of_length_eq_zero (show zs.length = 0 by rw [HR.out.1]; exact hm0)]; rfl)
        obtain rfl : k = 0 := by omega
        subst hm0
        clear hj HE hl8 hl
        go_wp2_with fail
        refine (C1.out wr HT3.out).mono ?_
        rintro e w3 ⟨rfl, hb3⟩
        have HB3 := hide (hbel.trans (hb3.mono hbel.size))
        clear hb3
        go_wp2_with fail
        refine (C2.out w3).mono ?_
        rintro e w4 ⟨rfl, hb4⟩
        have HB4 := hide (HB3.out.trans (hb4.mono HB3.out.size))
        clear hb4
        have HR4 := hide (HR.out.kept HB4.out)
        have HT4 := hide (tens_below HT.out HB4.out)
        go_wp2_with fail
        have CNS := hide (numbers_any ao _ cap zs w4 HR4.out HZ.out (by omega) HT4.out)
        rw [HW.out] at CNS
        refine CNS.out.mono ?_
        clear CNS
        rintro e w5 ⟨rfl, hb5⟩
        have HB5 := hide (HB4.out.trans (hb5.mono HB4.out.size))
        clear hb5
        have HT5 := hide (tens_below HT.out HB5.out)
        go_wp2_with fail
        refine (awake_any w5 HT5.out).mono ?_
        rintro e w6 ⟨rfl, hb6⟩
        have HB6 := hide (HB5.out.trans (hb6.mono HB5.out.size))
        clear hb6
        go_wp2
        go_ret
        exact ⟨rfl, HB6.out⟩
      · have HW := hide (show numsS zs = ⟨l.toArray⟩ by
          rw [hj.out, HE.out]
          cases zs with
          | nil => exact absurd HR.out.1.symm hm0
          | cons z r => rfl)
        go_wp2_with fail
        refine (C1.out wr HT3.out).mono ?_
        rintro e w3 ⟨rfl, hb3⟩
        have HB3 := hide (hbel.trans (hb3.mono hbel.size))
        clear hb3
        go_wp2_with fail
        refine (C2.out w3).mono ?_
        rintro e w4 ⟨rfl, hb4⟩
        have HB4 := hide (HB3.out.trans (hb4.mono HB3.out.size))
        clear hb4
        have HR4 := hide (HR.out.kept HB4.out)
        have HT4 := hide (tens_below HT.out HB4.out)
        go_wp2_with fail
        have CNS := hide (numbers_any ao _ cap zs w4 HR4.out HZ.out (by omega) HT4.out)
        rw [HW.out] at CNS
        refine CNS.out.mono ?_
        clear CNS
        rintro e w5 ⟨rfl, hb5⟩
        have HB5 := hide (HB4.out.trans (hb5.mono HB4.out.size))
        clear hb5
        have HT5 := hide (tens_below HT.out HB5.out)
        go_wp2_with fail
        refine (awake_any w5 HT5.out).mono ?_
        rintro e w6 ⟨rfl, hb6⟩
        have HB6 := hide (HB5.out.trans (hb6.mono HB5.out.size))
        clear hb6
        go_wp2
        go_ret
        exact ⟨rfl, HB6.out⟩
end Go.Proofs.YtgkcaflnhhfbgabDoor
