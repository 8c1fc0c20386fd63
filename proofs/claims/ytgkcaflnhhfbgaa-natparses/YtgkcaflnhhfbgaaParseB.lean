/- The document's answer for Parse; the walk of the statement NatParses. -/
import Derived.Test.YtgkcaflnhhfbgaaPrints
namespace Go.Proofs.Ytgkcaflnhhfbgaa
open Go.RowKit
set_option linter.unusedVariables false
set_option linter.unusedSimpArgs false

/-- The digits of a text's end, the lowest first. -/
def low (l : List Int) : List Int := l.reverse.map (fun c => c - 48)

theorem low_cons (c : Int) (l : List Int) : low (c :: l) = low l ++ [c - 48] := by simp [low]
theorem low_length (l : List Int) : (low l).length = l.length := by simp [low]
theorem low_dg {l : List Int} (h : l.all isDg = true) : Dg 10 (low l) := by
  intro x hx
  obtain ⟨c, hc, rfl⟩ := List.mem_map.1 hx
  rw [List.all_eq_true] at h
  have := h c (List.mem_reverse.1 hc)
  simp [isDg] at this
  omega
theorem asc_low (l : List Int) : (asc (low l)).reverse = l := by
  rw [asc, low, List.map_map, ← List.map_reverse, List.reverse_reverse]
  conv => rhs; rw [← List.map_id l]
  apply List.map_congr_left
  intro c _
  simp only [Function.comp, id]
  omega

theorem str_nums (s : ByteArray) : strOfNums (nums s) = s := nums_inj (nums_str (nums_range s))

theorem dec_low {s : ByteArray} (hd : (nums s).all isDg = true) (hp : printed (nums s) = true) : decStr (chop (low (nums s))) = s := by
  rw [printed, hd, Bool.true_and, Bool.or_eq_true] at hp
  rcases hp with h | h
  · have e : nums s = [48] := by simpa using h
    rw [e]
    have e2 : s = strOfNums [48] := by rw [← e, str_nums]
    rw [e2]
    decide
  · rw [Bool.and_eq_true] at h
    have hne : nums s ≠ [] := by
      intro e
      rw [e] at h
      simp at h
    have hl : 0 < (nums s).length := List.length_pos_iff.2 hne
    have h48 : (nums s).getD 0 0 ≠ 48 := by simpa using h.2
    have hlast : (low (nums s)).getD ((low (nums s)).length - 1) 0 = (nums s).getD 0 0 - 48 := by
      rw [low_length, low, List.getD_eq_getElem?_getD, List.getElem?_map, List.getElem?_reverse (by omega), show (nums s).length - 1 - ((nums s).length - 1) = 0 by omega, List.getD_eq_getElem?_getD, List.getElem?_eq_getElem hl]
      rfl
    have hN : Nz (low (nums s)) := Or.inr (by rw [hlast]; omega)
    rw [chop_of_Nz hN, decStr, if_neg (by intro e; have := congrArg List.length e; rw [low_length] at this; simp at this; exact hne this), asc_low, str_nums]

theorem dec_low_not {s : ByteArray} (hd : (nums s).all isDg = true) (hp : printed (nums s) = false) : decStr (chop (low (nums s))) ≠ s := by
  intro e
  have := (dec_nums (chop_Dg (low_dg hd)) (chop_Nz (low (nums s)))).1
  rw [e, hp] at this
  cases this

theorem not_printed {l : List Int} (h : l.all isDg = false) : printed l = false := by rw [printed, h]; rfl

/-- Is the text a number, and not too long? -/
def okB (s : ByteArray) : Bool := decide (s.size ≤ 10000) && printed (nums s)

/-- What the document's Parse leaves. -/
def ParseEnd (s : ByteArray) (w : World) (e : Ending) (w' : World) : Prop := ∃ ao m cap D, e = .returned (.tuple #[.slice ao m cap, .bool (okB s)]) ∧
      (okB s = true → Reads .u8 w' ao m D ∧ Dg 10 D ∧ Nz D ∧ decStr D = s ∧ m ≤ 10000) ∧ Below w.heap.size w w'

theorem parseEnd_no {s : ByteArray} {w w' : World} {e : Ending} (ao : Option Addr) (m cap : Nat) (hk : okB s = false) (he : e = .returned (.tuple #[.slice ao m cap, .bool false])) (hb : Below w.heap.size w w') : ParseEnd s w e w' :=
  ⟨ao, m, cap, [], by rw [hk]; exact he, fun h => by (rw [hk] at h; cases h), hb⟩

theorem parseEnd_yes {s : ByteArray} {w w' : World} {e : Ending} (ao : Option Addr) (m cap : Nat) (D : List Int) (hk : okB s = true) (he : e = .returned (.tuple #[.slice ao m cap, .bool true])) (hr : Reads .u8 w' ao m D ∧ Dg 10 D ∧ Nz D ∧ decStr D = s ∧ m ≤ 10000) (hb : Below w.heap.size w w') : ParseEnd s w e w' :=
  ⟨ao, m, cap, D, by rw [hk]; exact he, fun _ => hr, hb⟩

set_option maxHeartbeats 1000000 in
theorem rparse_any (s : ByteArray) (w : World) (hs : s.size ≤ 140737488351232) :
    Calls Try.prog 29 #[.string s] w fun e w' => ParseEnd s w e w' := by
  obtain ⟨i0, hi, hz0, hz1, hz2⟩ := info_parts info_byte
  go_enter Try.func29, Try.ntmps29
  go_wp2
  go_loopw [4, 5] (fun v i wr => ∃ (k : Nat) (aoE : Option Addr) (capE n : Nat), k ≤ s.size ∧ i = .int .i64 ((k : Int) - 1) ∧ v = .slice aoE n capE ∧ n + k = s.size ∧ Hid (((nums s).drop k).all isDg = true) ∧ Own .u8 5 wr w.heap.size aoE n capE (low ((nums s).drop k)) ∧ Below w.heap.size w wr)
    (fun _ i _ => (intOf i + 1).toNat)
  case atStart => exact ⟨s.size, none, 0, 0, Nat.le_refl _, rfl, rfl, by omega, hide (by rw [← nums_length, List.drop_length]; rfl), by rw [← nums_length, List.drop_length]; exact Own.nil _ _ _ _, Below.refl _ _⟩
  case round =>
    obtain ⟨k, aoE, capE, n, hk, rfl, rfl, hnk, hall, hOE, hbr⟩ := hrel
    have hws := hbr.size
    have HNK := hide hnk
    have hnb : n ≤ s.size := by omega
    by_cases hk0 : k = 0
    · subst hk0
      rw [List.drop_zero] at hOE
      have HA : Hid ((nums s).all isDg = true) := hide (by have := hall.out; rw [List.drop_zero] at this; exact this)
      clear hall hnk
      go_wp2_with fail
      refine (trim_any w.heap.size aoE n capE _ wr hOE (by omega)).mono ?_
      rintro e w3 ⟨m3, rfl, hO3, hw3⟩
      subst hw3
      have hm3 : m3 ≤ n := by
        have h1 := chop_len (low (nums s))
        rw [hO3.1, hOE.1] at h1
        exact h1
      by_cases h10 : s.size ≤ 10000
      · by_cases h00 : s.size = 0
        · have HP : Hid (okB s = false) := by
            have e : nums s = [] := List.eq_nil_of_length_eq_zero (by rw [nums_length]; exact h00)
            rw [okB, e]; exact hide (by simp [printed])
          go_wp2
          go_ret2
          exact parseEnd_no aoE m3 capE HP.out rfl hbr
        · have hpos : 0 < s.size := by omega
          go_wp2_with fail
          refine (print_any aoE m3 capE _ w3 hO3.reads (chop_Dg (low_dg HA.out)) (by omega)).mono ?_
          rintro e w4 ⟨rfl, hb4⟩
          have hR4 := hO3.reads.kept hb4
          have hb4' := hbr.trans (hb4.mono hbr.size)
          by_cases hp : printed (nums s) = true
          · have HP : Hid (okB s = true) := hide (by rw [okB, hp]; simp [h10])
            rw [dec_low HA.out hp]
            have HE := hide (dec_low HA.out hp)
            clear hp
            go_wp2
            go_ret2
            exact parseEnd_yes aoE m3 capE _ HP.out rfl ⟨hR4, chop_Dg (low_dg HA.out), chop_Nz _, HE.out, by omega⟩ hb4'
          · have hp' : printed (nums s) = false := by simpa using hp
            have HP : Hid (okB s = false) := hide (by rw [okB, hp']; simp)
            have hne := dec_low_not HA.out hp'
            obtain ⟨X, hX⟩ : ∃ X, X = decStr (chop (low (nums s))) := ⟨_, rfl⟩
            rw [← hX] at hne ⊢
            have hne2 : (X.toList == s.toList) = false := by
              rw [beq_eq_false_iff_ne]
              intro e
              apply hne
              rw [ByteArray.toList_eq, ByteArray.toList_eq] at e
              exact ByteArray.ext (Array.toList_inj.1 e)
            clear hp hp' hX
            go_wp2
            go_ret2
            exact parseEnd_no aoE m3 capE HP.out rfl hb4'
      · have HP : Hid (okB s = false) := hide (by simp [okB, h10])
        have h10' : 10000 < s.size := by omega
        go_wp2
        go_ret2
        exact parseEnd_no aoE m3 capE HP.out rfl hbr
    · obtain ⟨j, rfl⟩ : ∃ j, k = j + 1 := ⟨k - 1, by omega⟩
      have hjs : j < s.size := by omega
      have hg := nums_getD s j hjs
      have hno : isDg (s[j].toNat : Int) = false → okB s = false := by
        intro hc
        have : (nums s).all isDg = false := by
          rw [List.all_eq_false]
          refine ⟨(s[j].toNat : Int), ?_, by simp [hc]⟩
          rw [← hg, List.getD_eq_getElem?_getD, List.getElem?_eq_getElem (by rw [nums_length]; exact hjs)]
          exact List.getElem_mem _
        rw [okB, not_printed this]; simp
      have HNO := hide hno
      clear hno
      have hlow : low ((nums s).drop (j + 1)) ++ [(s[j].toNat : Int) - 48] = low ((nums s).drop j) := by
        rw [← low_cons, ← hg, ← drop_getD (nums s) j (by rw [nums_length]; exact hjs)]
      have HL := hide hlow
      have hadd : ((nums s).drop j).all isDg = (isDg (s[j].toNat : Int) && ((nums s).drop (j + 1)).all isDg) := by
        rw [drop_getD (nums s) j (by rw [nums_length]; exact hjs), hg]; rfl
      have HAD := hide hadd
      have hnj : n + 1 + j = s.size := by omega
      have HNJ := hide hnj
      have hn1 : n + 1 ≤ 140737488355328 := by omega
      clear hlow hg hadd hk0 hnj hnk
      by_cases h1 : (s[j].toNat : Int) < 48
      · have HP := hide (HNO.out (by simp [isDg]; omega))
        clear hall
        go_wp2
        go_ret2
        exact parseEnd_no none 0 0 HP.out rfl hbr
      · by_cases h2 : 57 < (s[j].toNat : Int)
        · have HP := hide (HNO.out (by simp [isDg]; omega))
          clear hall
          go_wp2
          go_ret2
          exact parseEnd_no none 0 0 HP.out rfl hbr
        · have HA : Hid (((nums s).drop j).all isDg = true) := by
            rw [HAD.out, hall.out]
            exact hide (by simp [isDg]; omega)
          clear hall
          go_wp2_with (first | (at_builtin; refine wpList_append_one wr rfl _ _ 30 rfl 5 i0 (.int .u8 0) 1 Try.underlying30 hi hz0 hz1 hz2 rfl .u8 w.heap.size aoE n capE _ _ rfl hOE rfl (by omega) (by omega) hws ?_) | fail)
          · intro ao' cap' w5 hO5 hg5
            have HB := hide (hbr.grown hg5 hws (fun b hb => (hOE.lt b hb).1))
            have hO5' : Own .u8 5 w5 w.heap.size ao' (n + 1) cap' (low ((nums s).drop j)) := by rw [← HL.out]; exact hO5
            have HO := hide hO5'
            clear hO5 hO5' hg5 hOE hbr
            go_wp2
            go_roundw
            case rel => exact ⟨j, ao', cap', n + 1, by omega, by go_num, rfl, HNJ.out, HA, HO.out, HB.out⟩
            case measure => simp [intOf]

theorem okB_true {s : ByteArray} (h : okB s = true) : s.size ≤ 10000 ∧ printed (nums s) = true := by
  rw [okB, Bool.and_eq_true] at h
  exact ⟨by simpa using h.1, h.2⟩

/-- What Parse answers where the text is no number, or too long. -/
theorem parse_not (s : ByteArray) (w : World) (hm : s.size ≤ 9223372036854775807) (h : okB s = false) :
    Calls Try.prog 14 #[.string s] w fun e w' => e = .returned (.tuple #[.agg #[.slice none 0 0], .bool false]) ∧ Below w.heap.size w w' := by
  by_cases hs : s.size ≤ 10000
  · exact parse_no s w hs (by rw [okB] at h; simpa [hs] using h)
  · exact parse_long s w (by omega) hm

set_option maxHeartbeats 1000000 in
theorem parses_walk (s : ByteArray) (hs : s.size ≤ 140737488351232) (w : World) :
    Calls Try.prog 8 #[.string s] w fun e w' => e = .returned (.bool true) ∧ Below w.heap.size w w' := by
  by_cases hmid : 300 < s.size ∧ s.size ≤ 10000
  · obtain ⟨h1, h2⟩ := hmid
    go_enter Try.func8, Try.ntmps8
    go_wp2_with fail
    refine (awake_any _).mono ?_
    rintro e w2 ⟨rfl, hb2⟩
    go_wp2
    go_ret
    exact ⟨rfl, hb2⟩
  · have hr := rparse_any s
    cases hk : okB s with
    | false =>
      have HK := hide hk
      have hd1 : (decide (300 < (s.size : Int)) && decide ((s.size : Int) ≤ 10000)) = false := by simp; omega
      have HMID := hide hmid
      rcases (show s.size ≤ 300 ∨ 10000 < s.size by omega) with h300 | h300
      all_goals
        clear hk hmid hd1
        go_enter Try.func8, Try.ntmps8
        go_wp2_with fail
        refine (parse_not s w (by omega) HK.out).mono ?_
        rintro e w1 ⟨rfl, hb1⟩
        go_wp2_with fail
        obtain ⟨W1, hW1, hb, hc1, hs1⟩ := one_box w1 (.slice none 0 0) 26
        rw [← hW1]
        have hB1 := hb1.trans (hb.mono hb1.size)
        clear hb hW1
        refine (rparse_any s W1 hs).mono ?_
        rintro e w2 ⟨ao, m, cap, D, rfl, _, hb⟩
        rw [HK.out]
        have hc1 := (bcell hb hs1).trans hc1
        have hb2 := hB1.trans (hb.mono hB1.size)
        clear hb
        go_wp2_with fail
        refine (zero_any none 0 0 w2 (by omega)).mono ?_
        rintro e w3 ⟨rfl, hb⟩
        have hb3 := hb2.trans (hb.mono hb2.size)
        clear hb
        go_wp2_with fail
        refine (awake_any _).mono ?_
        rintro e w4 ⟨rfl, hb⟩
        go_wp2
        go_ret
        exact ⟨rfl, hb3.trans (hb.mono hb3.size)⟩
    | true =>
      have hok := okB_true hk
      have HK := hide hk
      have h300 : s.size ≤ 300 := by omega
      have HP := hide hok.2
      clear hk hmid hok
      go_enter Try.func8, Try.ntmps8
      go_wp2_with fail
      refine (parse_yes s w (by omega) HP.out).mono ?_
      rintro e w1 ⟨aoX, mX, rfl, hX, hmX, hb1⟩
      go_wp2_with fail
      obtain ⟨W1, hW1, hb, hc1, hs1⟩ := one_box w1 (.slice aoX mX mX) 26
      rw [← hW1]
      have hX := hX.kept hb
      have hB1 := hb1.trans (hb.mono hb1.size)
      clear hb hW1
      refine (rparse_any s W1 hs).mono ?_
      rintro e w2 ⟨ao, m, cap, D, rfl, hD, hb⟩
      obtain ⟨hRD, hDD, hND, hDs, hm⟩ := hD HK.out
      rw [HK.out]
      have hX := hX.kept hb
      have hc1 := (bcell hb hs1).trans hc1
      have hb2 := hB1.trans (hb.mono hB1.size)
      have hval : tv (nums s) = pv 10 D := by
        have := (dec_nums hDD hND).2.1
        rw [hDs] at this
        exact this
      rw [hval] at hX
      have HDs := hide hDs
      clear hb hD hval hDs
      go_wp2_with fail
      refine (string_any aoX mX mX _ w2 hX (by omega)).mono ?_
      rintro e w3 ⟨D2, rfl, hD2, hN2, hV2, hb⟩
      rw [decStr_eq hD2 hN2 hV2 hDD hND rfl, HDs.out]
      have hRD := hRD.kept hb
      have hb3 := hb2.trans (hb.mono hb2.size)
      clear hb hV2
      go_wp2_with fail
      refine (print_any ao m cap D w3 hRD hDD (by omega)).mono ?_
      rintro e w4 ⟨rfl, hb⟩
      rw [HDs.out]
      have hb4 := hb3.trans (hb.mono hb3.size)
      clear hb
      go_wp2_with fail
      refine (awake_any _).mono ?_
      rintro e w5 ⟨rfl, hb⟩
      go_wp2
      go_ret
      exact ⟨rfl, hb4.trans (hb.mono hb4.size)⟩

end Go.Proofs.Ytgkcaflnhhfbgaa
