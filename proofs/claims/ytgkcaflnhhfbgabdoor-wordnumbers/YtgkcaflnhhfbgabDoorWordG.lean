/- Contracts: awake; the law of hex words. -/
import Derived.Test.YtgkcaflnhhfbgabDoorWordE
import Derived.Test.YtgkcaflnhhfbgabDoorWordF
namespace Go.Proofs.YtgkcaflnhhfbgabDoor
open Go.RowKit
set_option linter.unusedVariables false
set_option linter.unusedSimpArgs false

theorem hex_az : hexS ⟨#[97, 122]⟩ = ⟨#[54, 49, 55, 97]⟩ := by decide +kernel
theorem nums_31 : numsS [3, -1] = ⟨#[51, 32, 45, 49]⟩ := by
  simp [numsS, lineS, lineL, numS, Lib.itoa, Lib.decDigits]

set_option maxHeartbeats 1600000 in
theorem awake_any (w : World) (ht : Tens w) :
    Calls Tryd.prog 6 #[] w fun e w' => e = .returned (.bool true) ∧ Below w.heap.size w w' := by
  have HT := hide ht
  clear ht
  go_enter Tryd.func6, Tryd.ntmps6
  go_wp2_with fail
  refine (hex_any _ w (by decide)).mono ?_
  rintro e w1 ⟨rfl, hb1⟩
  rw [hex_az]
  have HB1 := hide hb1
  have HT1 := hide (tens_below HT.out hb1)
  clear hb1
  go_wp2_with fail
  refine (numbers_any (some ⟨w1.heap.size, 0, none⟩) 2 2 [3, -1] (w1.alloc (.cells #[.int .i64 3, .int .i64 (-1)] 3)) ?_ ?_ (by omega) (tens_below HT1.out ((Below.refl _ w1).alloc (Nat.le_refl _) _))).mono ?_
  · refine ⟨rfl, Or.inr ⟨_, 0, rfl, fun i hi => ?_⟩⟩
    rcases i with _ | _ | i
    · simp
    · simp
    · omega
  · intro z hz
    simp only [List.mem_cons, List.not_mem_nil, or_false] at hz
    rcases hz with rfl | rfl <;> omega
  rintro e w2 ⟨rfl, hb2⟩
  rw [nums_31]
  have HB2 := hide (HB1.out.trans ((((Below.refl w1.heap.size w1).alloc (Nat.le_refl _) (.cells #[.int .i64 3, .int .i64 (-1)] 3)).trans (hb2.mono (by simp))).mono HB1.out.size))
  clear hb2
  go_wp2
  go_ret
  exact ⟨rfl, HB2.out⟩

theorem unhexS_size (s : ByteArray) : (unhexS s).1.size ≤ s.size := by
  unfold unhexS
  split
  · exact Nat.zero_le _
  · split
    · exact Nat.zero_le _
    · split
      · show (outs s.data.toList (s.size / 2)).toArray.size ≤ _
        rw [List.size_toArray, outs_length]
        omega
      · exact Nat.zero_le _
theorem unhexS_none (s : ByteArray) (h : (unhexS s).2 = false) : (unhexS s).1 = ⟨#[]⟩ := by
  unfold unhexS at h ⊢
  split
  · rfl
  · rename_i h1
    rw [if_neg h1] at h
    split
    · rfl
    · rename_i h2
      rw [if_neg h2] at h
      split
      · rename_i h3
        rw [if_pos h3] at h
        cases h
      · rfl
theorem hexS_size (b : ByteArray) : (hexS b).size ≤ 2 * b.size + 1 := by
  rw [hexS]
  split
  · show 1 ≤ _
    omega
  · show (hexL b.data.toList).toArray.size ≤ _
    rw [List.size_toArray, hexL_length, Array.length_toList]
    have : b.data.size = b.size := rfl
    omega
abbrev Lands (f : Nat) (args : Array Value) (v : Value) : Prop := ∀ W, Calls Tryd.prog f args W fun e w' => e = .returned v ∧ Below W.heap.size W w'

set_option maxHeartbeats 3200000 in
theorem hexes_walk (b s : ByteArray) (w : World) (ht : Tens w) :
    Calls Tryd.prog 4 #[.string b, .string s] w fun e w' => e = .returned (.bool true) ∧ Below w.heap.size w w' := by
  have HT := hide ht
  clear ht
  by_cases h1 : (500 : Int) < b.size
  · go_enter Tryd.func4, Tryd.ntmps4
    go_wp2_with fail
    refine (awake_any w HT.out).mono ?_
    rintro e w1 ⟨rfl, hb1⟩
    go_wp2
    go_ret
    exact ⟨rfl, hb1⟩
  by_cases h2 : (500 : Int) < s.size
  · go_enter Tryd.func4, Tryd.ntmps4
    go_wp2_with fail
    refine (awake_any w HT.out).mono ?_
    rintro e w1 ⟨rfl, hb1⟩
    go_wp2
    go_ret
    exact ⟨rfl, hb1⟩
  obtain ⟨t, ht⟩ : ∃ t, t = (unhexS s).1 := ⟨_, rfl⟩
  have hts : t.size ≤ 500 := by have := unhexS_size s; rw [ht]; omega
  have CRH : Hid (Lands 15 #[.string b] (.string (hexS b))) := hide (fun W => refHex_any b W (by omega))
  have CH : Hid (Lands 14 #[.string b] (.string (hexS b))) := hide (fun W => hex_any b W (by omega))
  have CX : Hid (Lands 12 #[.string (hexS b)] (.tuple #[.string b, .bool true])) := by
    refine hide fun W => ?_
    have := unhex_any (hexS b) W (by have := hexS_size b; omega)
    rwa [unhex_hex] at this
  cases hok : (unhexS s).2 with
  | false =>
    have h0 : t = ⟨#[]⟩ := by rw [ht]; exact unhexS_none s hok
    have CU : Hid (Lands 12 #[.string s] (.tuple #[.string ⟨#[]⟩, .bool false])) := by
      refine hide fun W => ?_
      have := unhex_any s W (by omega)
      rwa [hok, ← ht, h0] at this
    have CR : Hid (Lands 13 #[.string s] (.tuple #[.string ⟨#[]⟩, .bool false])) := by
      refine hide fun W => ?_
      have := refUnhex_any s W (by omega)
      rwa [hok, ← ht, h0] at this
    clear ht h0 hok
    go_enter Tryd.func4, Tryd.ntmps4
    go_wp2_with fail
    refine (CU.out _).mono ?_
    rintro e w1 ⟨rfl, hb1⟩
    have HB1 := hide hb1
    clear hb1
    go_wp2_with fail
    refine (CR.out _).mono ?_
    rintro e w2 ⟨rfl, hb2⟩
    have HB2 := hide (HB1.out.trans (hb2.mono HB1.out.size))
    clear hb2
    go_wp2_with fail
    refine (CH.out _).mono ?_
    rintro e w3 ⟨rfl, hb3⟩
    have HB3 := hide (HB2.out.trans (hb3.mono HB2.out.size))
    clear hb3
    go_wp2_with fail
    refine (CX.out _).mono ?_
    rintro e w4 ⟨rfl, hb4⟩
    have HB4 := hide (HB3.out.trans (hb4.mono HB3.out.size))
    clear hb4
    go_wp2_with fail
    refine (CH.out _).mono ?_
    rintro e w5 ⟨rfl, hb5⟩
    have HB5 := hide (HB4.out.trans (hb5.mono HB4.out.size))
    clear hb5
    go_wp2_with fail
    refine (CRH.out _).mono ?_
    rintro e w6 ⟨rfl, hb6⟩
    have HB6 := hide (HB5.out.trans (hb6.mono HB5.out.size))
    clear hb6
    go_wp2_with fail
    refine (awake_any _ (tens_below HT.out HB6.out)).mono ?_
    rintro e w7 ⟨rfl, hb7⟩
    have HB7 := hide (HB6.out.trans (hb7.mono HB6.out.size))
    clear hb7
    go_wp2
    go_ret
    exact ⟨rfl, HB7.out⟩
  | true =>
    have h0 : hexS t = s := by rw [ht]; exact hex_unhex s hok
    have CU : Hid (Lands 12 #[.string s] (.tuple #[.string t, .bool true])) := by
      refine hide fun W => ?_
      have := unhex_any s W (by omega)
      rwa [hok, ← ht] at this
    have CR : Hid (Lands 13 #[.string s] (.tuple #[.string t, .bool true])) := by
      refine hide fun W => ?_
      have := refUnhex_any s W (by omega)
      rwa [hok, ← ht] at this
    have CT : Hid (Lands 14 #[.string t] (.string s)) := by
      refine hide fun W => ?_
      have := hex_any t W (by omega)
      rwa [h0] at this
    clear ht h0 hok
    go_enter Tryd.func4, Tryd.ntmps4
    go_wp2_with fail
    refine (CU.out _).mono ?_
    rintro e w1 ⟨rfl, hb1⟩
    have HB1 := hide hb1
    clear hb1
    go_wp2_with fail
    refine (CR.out _).mono ?_
    rintro e w2 ⟨rfl, hb2⟩
    have HB2 := hide (HB1.out.trans (hb2.mono HB1.out.size))
    clear hb2
    go_wp2_with fail
    refine (CH.out _).mono ?_
    rintro e w3 ⟨rfl, hb3⟩
    have HB3 := hide (HB2.out.trans (hb3.mono HB2.out.size))
    clear hb3
    go_wp2_with fail
    refine (CX.out _).mono ?_
    rintro e w4 ⟨rfl, hb4⟩
    have HB4 := hide (HB3.out.trans (hb4.mono HB3.out.size))
    clear hb4
    go_wp2_with fail
    refine (CH.out _).mono ?_
    rintro e w5 ⟨rfl, hb5⟩
    have HB5 := hide (HB4.out.trans (hb5.mono HB4.out.size))
    clear hb5
    go_wp2_with fail
    refine (CRH.out _).mono ?_
    rintro e w6 ⟨rfl, hb6⟩
    have HB6 := hide (HB5.out.trans (hb6.mono HB5.out.size))
    clear hb6
    go_wp2_with fail
    refine (CT.out _).mono ?_
    rintro e w7 ⟨rfl, hb7⟩
    have HB7 := hide (HB6.out.trans (hb7.mono HB6.out.size))
    clear hb7
    go_wp2_with fail
    refine (awake_any _ (tens_below HT.out HB7.out)).mono ?_
    rintro e w8 ⟨rfl, hb8⟩
    have HB8 := hide (HB7.out.trans (hb8.mono HB7.out.size))
    clear hb8
    go_wp2
    go_ret
    exact ⟨rfl, HB8.out⟩
end Go.Proofs.YtgkcaflnhhfbgabDoor
