/- Laws of marks: MarkNews. -/
import Derived.Test.YtnklgfolllfghaaMkV
namespace Go.Proofs.Ytnklgfolllfghaa.Mk
open Go.RowKit Go.Maps
set_option linter.unusedVariables false
set_option linter.unusedSimpArgs false

set_option maxRecDepth 40000 in
set_option maxHeartbeats 16000000 in
theorem news_walk (ao : Option Addr) (n cap : Nat) (L : List (Int × ByteArray)) (id m : Int) (w : World) (hM : RdS w ao n L) (hn : n ≤ 9223372036854775807) (hid : -9223372036854775808 ≤ id ∧ id ≤ 9223372036854775807) (hm : -9223372036854775808 ≤ m ∧ m ≤ 9223372036854775807) :
    Calls Try.prog 3 #[.slice ao n cap, .int .i64 id, .int .i64 m] w fun e w' => e = .returned (.bool true) ∧ Below w.heap.size w w' := by
  have hln := hM.1
  have HM := hide hM
  have hnL := hide hln
  have KG := great_any (cap := cap) hM hn
  clear hM hln
  go_enter Try.func3, Try.ntmps3
  go_wp2_with fail
  refine KG.mono ?_
  rintro e w1 ⟨⟨z, rfl, hz⟩, hb1⟩
  have HB1 := hide hb1
  clear KG hb1
  cases z with
  | true =>
    clear hz
    go_wp2_with fail
    refine (awake9_any _).mono ?_
    rintro e w2 ⟨rfl, hb2⟩
    have HB2 := hide (HB1.out.trans (hb2.mono HB1.out.size))
    clear hb2
    go_wp2
    go_ret
    exact ⟨rfl, HB2.out⟩
  | false =>
    obtain ⟨hf1, hf2⟩ := hz rfl
    have hf1' : n ≤ 40 := by rw [← hnL.out]; exact hf1
    clear hz hf2 hf1
    have KN := new_any _ ao n cap L (HM.out.kept HB1.out) (by omega)
    go_wp2_with fail
    refine KN.mono ?_
    rintro e w3 ⟨hE, hb3⟩
    have HB3 := hide (HB1.out.trans (hb3.mono HB1.out.size))
    have KC := rchk_any (cap := cap) (L := L) (ao := ao) (w := w3) (by rw [hnL.out]; exact HM.out.kept HB3.out) (by rw [hnL.out]; omega)
    rw [hnL.out] at KC
    clear KN hb3 HB1
    rcases hE with ⟨k, er, hk, hne, rfl⟩ | ⟨hC, p, a1, c1, rfl, hS⟩
    · have HK := hide hk
      have herr := chk_err hk hne
      clear hk hne
      go_wp2_with fail
      refine KC.mono ?_
      rintro e w4 ⟨⟨k', er', rfl, hk'⟩, hb4⟩
      obtain ⟨rfl, rfl⟩ := chk_uniq HK.out hk'
      have HB4 := hide (HB3.out.trans (hb4.mono HB3.out.size))
      clear KC hk' hb4 HK HB3
      rcases herr with rfl | rfl | rfl
      all_goals
        go_wp2_with fail
        refine (awake9_any _).mono ?_
        rintro e w5 ⟨rfl, hb5⟩
        have HB5 := hide (HB4.out.trans (hb5.mono HB4.out.size))
        clear hb5 HB4
        go_wp2
        go_ret
        exact ⟨rfl, HB5.out⟩
    · have HCC := hide hC
      have hUq : Hid (∀ i j, i < L.length → j < L.length → (gS L i).1 = (gS L j).1 → i = j) := hide (fun i j hi hj e => by
        rw [hnL.out] at hi hj
        rcases Nat.lt_trichotomy i j with h1 | h1 | h1
        · exact absurd e ((hC.1 j hj).2.2 i h1).1
        · exact h1
        · exact absurd e.symm ((hC.1 i hi).2.2 j h1).1)
      have HS := hide hS
      have hLk : L.length ≤ 1000 := by rw [hnL.out]; omega
      clear hC hS
      go_wp2_with fail
      refine KC.mono ?_
      rintro e w4 ⟨⟨k', er', rfl, hk'⟩, hb4⟩
      obtain ⟨rfl, rfl⟩ := chk_uniq HCC.out hk'
      have HB4 := hide (HB3.out.trans (hb4.mono HB3.out.size))
      have HS4 := hide (HS.out.kept hb4)
      clear KC hk' hb4 HCC HB3 HS
      rcases id_want HS4.out hLk m hm with ⟨i, hmi, hi, KI⟩ | ⟨hx, KI⟩
      · have hmi2 : -1 - m = (i : Int) := by omega
        have hm0 : m < 0 := by omega
        have hm1 : -(n : Int) ≤ m := by rw [hnL.out] at hi; omega
        have hmw : IntKind.i64.wrap (-1 - m) = (i : Int) := by rw [hmi2, IntKind.wrap_i64]; rw [hnL.out] at hi; omega
        clear hmi
        · go_wp2_with fail
          refine KI.mono ?_
          rintro e w5 ⟨rfl, hb5⟩
          have HB5 := hide (HB4.out.trans (hb5.mono HB4.out.size))
          have HS5 := hide (HS4.out.kept hb5)
          obtain ⟨t, ht1, ht2, ht3, ht4, KM⟩ := mark_want HS5.out hLk id hid
          have HT2 := hide (fun t' h => ht2 t' h hUq.out)
          clear KI hb5 HB4 HS4 ht1 ht2
          go_wp2_with fail
          refine KM.mono ?_
          rintro e w5' ⟨rfl, rfl⟩
          clear KM
          go_wp2
          go_loopw [16, 17] (fun a i wr => ∃ (k : Nat) (q : Int), a = .int .i64 q ∧ i = .int .i64 k ∧ k ≤ n ∧ Hid (WantR L id k q) ∧ Hid (Below w5'.heap.size w5' wr)) (fun _ i _ => n - (intOf i).toNat)
          case atStart => exact ⟨0, 0, rfl, rfl, Nat.zero_le _, hide (Or.inl ⟨rfl, fun j hj => by omega⟩), hide (Below.refl _ _)⟩
          case round =>
            obtain ⟨k, q, rfl, rfl, hkn, HQ, HB⟩ := hrel
            by_cases hlt : k < n
            · have hk0 : (0 : Int) ≤ (k : Int) := by omega
              have hk1 : (k : Int) < (n : Int) := by omega
              rcases (HM.out.kept (HB5.out.trans (HB.out.mono HB5.out.size))).2 with h0 | ⟨b, off, rfl, hbl0, hc⟩
              · omega
              have c0 := (hc k hlt).1
              clear hc
              have HST := hide (fun (hne : (gS L k).1 ≠ id) => want_step HQ.out hne)
              have HSY := hide (fun (he : (gS L k).1 = id) => show WantR L id (k + 1) (-1 - k) from Or.inr ⟨k, by omega, he, rfl⟩)
              generalize (gS L k).1 = y at *
              by_cases hy : y = id
              · have hyb : (y == id) = true := by simpa using hy
                have HN := hide (HSY.out hy)
                clear hy
                go_wp2
                exact ⟨⟨k + 1, -1 - k, by go_num, by go_num, by omega, HN, HB⟩, by simp [intOf]; omega⟩
              · have hyb : (y == id) = false := by simpa using hy
                have HN := hide (HST.out hy)
                clear hy
                go_wp2
                exact ⟨⟨k + 1, q, rfl, by go_num, by omega, HN, HB⟩, by simp [intOf]; omega⟩
            · obtain rfl : k = n := by omega
              have e : q = t := HT2.out q (by rw [hnL.out]; exact HQ.out)
              subst e
              have HB6 := hide (HB5.out.trans (HB.out.mono HB5.out.size))
              have HS6 := hide (HS5.out.kept HB.out)
              have KA := All_any HS6.out hLk
              rw [hnL.out] at KA
              clear HB HB5 HS5
              go_wp2_with fail
              refine KA.mono ?_
              rintro e w7 ⟨⟨a1, cc1, rfl, hr7⟩, hb7⟩
              have HR7 := hide hr7
              have HB7 := hide (HB6.out.trans (hb7.mono HB6.out.size))
              have KL := len_any (HS6.out.kept hb7)
              rw [hnL.out] at KL
              clear KA hr7 hb7 HB6 HS6
              go_wp2_with fail
              refine KL.mono ?_
              rintro e w7' ⟨rfl, rfl⟩
              clear KL
              have hnk : i < k := by rw [← hnL.out]; exact hi
              rcases (HM.out.kept HB7.out).2 with h0 | ⟨b, off, rfl, hbl0, hc⟩
              · omega
              have c0 := (hc i hnk).1
              clear hc
              generalize (gS L i).1 = y at *
              have hi0 : (0 : Int) ≤ (i : Int) := by omega
              have hi1 : (i : Int) < (k : Int) := by omega
              by_cases hq : q < 0
              all_goals
                have hqb : (decide (q < 0) == decide (q < 0)) = true := by simp
                go_wp2
                go_loopw [19] (fun i wr => ∃ (j : Nat), i = .int .i64 j ∧ j ≤ k ∧ Hid (Below w7'.heap.size w7' wr)) (fun i _ => k - (intOf i).toNat)
                case atStart => exact ⟨0, rfl, Nat.zero_le _, hide (Below.refl _ _)⟩
                case round =>
                  obtain ⟨j, rfl, hjk, HB⟩ := hrel
                  by_cases hlj : j < k
                  · have hj0 : (0 : Int) ≤ (j : Int) := by omega
                    have hj1 : (j : Int) < (k : Int) := by omega
                    rcases (HM.out.kept (HB7.out.trans (HB.out.mono HB7.out.size))).2 with h0 | ⟨b2, off2, eao, hbl2, hc2⟩
                    · omega
                    first | subst eao | (simp only [Option.some.injEq, Addr.mk.injEq, and_true] at eao; obtain ⟨rfl, rfl⟩ := eao)
                    rcases (HR7.out.kept HB.out).2 with h0 | ⟨b3, off3, rfl, hbl3, hc3⟩
                    · omega
                    have d0 := (hc2 j hlj).1
                    have d1 := (hc2 j hlj).2
                    have d2 := (hc3 j hlj).1
                    have d3 := (hc3 j hlj).2
                    clear hc2 hc3
                    generalize (gS L j).1 = y1 at *
                    generalize (gS L j).2 = y2 at *
                    have hyy : (y2.toList == y2.toList) = true := by simp
                    go_wp2
                    go_quiet (fail)
                    have HB8 := hide (lowD HB.out nq)
                    clear d0 d1 d2 d3
                    generalize wr.drewN nq = wd at *
                    go_wp2
                    exact ⟨⟨j + 1, by go_num, by omega, HB8⟩, by simp [intOf]; omega⟩
                  · obtain rfl : j = k := by omega
                    have HB8 := hide (HB7.out.trans (HB.out.mono HB7.out.size))
                    go_wp2_with fail
                    refine (awake9_any _).mono ?_
                    rintro e w9 ⟨rfl, hb9⟩
                    have HB9 := hide (HB8.out.trans (hb9.mono HB8.out.size))
                    clear hb9
                    go_wp2
                    go_ret
                    exact ⟨rfl, HB9.out⟩
      · rw [hnL.out] at hx
        by_cases hm0 : m < 0
        · have hm1 : ¬ -(n : Int) ≤ m := fun h => hx ⟨hm0, h⟩
          clear hx
          go_wp2_with fail
          refine KI.mono ?_
          rintro e w5 ⟨rfl, hb5⟩
          have HB5 := hide (HB4.out.trans (hb5.mono HB4.out.size))
          have HS5 := hide (HS4.out.kept hb5)
          obtain ⟨t, ht1, ht2, ht3, ht4, KM⟩ := mark_want HS5.out hLk id hid
          have HT2 := hide (fun t' h => ht2 t' h hUq.out)
          clear KI hb5 HB4 HS4 ht1 ht2
          go_wp2_with fail
          refine KM.mono ?_
          rintro e w5' ⟨rfl, rfl⟩
          clear KM
          go_wp2
          go_loopw [16, 17] (fun a i wr => ∃ (k : Nat) (q : Int), a = .int .i64 q ∧ i = .int .i64 k ∧ k ≤ n ∧ Hid (WantR L id k q) ∧ Hid (Below w5'.heap.size w5' wr)) (fun _ i _ => n - (intOf i).toNat)
          case atStart => exact ⟨0, 0, rfl, rfl, Nat.zero_le _, hide (Or.inl ⟨rfl, fun j hj => by omega⟩), hide (Below.refl _ _)⟩
          case round =>
            obtain ⟨k, q, rfl, rfl, hkn, HQ, HB⟩ := hrel
            by_cases hlt : k < n
            · have hk0 : (0 : Int) ≤ (k : Int) := by omega
              have hk1 : (k : Int) < (n : Int) := by omega
              rcases (HM.out.kept (HB5.out.trans (HB.out.mono HB5.out.size))).2 with h0 | ⟨b, off, rfl, hbl0, hc⟩
              · omega
              have c0 := (hc k hlt).1
              clear hc
              have HST := hide (fun (hne : (gS L k).1 ≠ id) => want_step HQ.out hne)
              have HSY := hide (fun (he : (gS L k).1 = id) => show WantR L id (k + 1) (-1 - k) from Or.inr ⟨k, by omega, he, rfl⟩)
              generalize (gS L k).1 = y at *
              by_cases hy : y = id
              · have hyb : (y == id) = true := by simpa using hy
                have HN := hide (HSY.out hy)
                clear hy
                go_wp2
                exact ⟨⟨k + 1, -1 - k, by go_num, by go_num, by omega, HN, HB⟩, by simp [intOf]; omega⟩
              · have hyb : (y == id) = false := by simpa using hy
                have HN := hide (HST.out hy)
                clear hy
                go_wp2
                exact ⟨⟨k + 1, q, rfl, by go_num, by omega, HN, HB⟩, by simp [intOf]; omega⟩
            · obtain rfl : k = n := by omega
              have e : q = t := HT2.out q (by rw [hnL.out]; exact HQ.out)
              subst e
              have HB6 := hide (HB5.out.trans (HB.out.mono HB5.out.size))
              have HS6 := hide (HS5.out.kept HB.out)
              have KA := All_any HS6.out hLk
              rw [hnL.out] at KA
              clear HB HB5 HS5
              go_wp2_with fail
              refine KA.mono ?_
              rintro e w7 ⟨⟨a1, cc1, rfl, hr7⟩, hb7⟩
              have HR7 := hide hr7
              have HB7 := hide (HB6.out.trans (hb7.mono HB6.out.size))
              have KL := len_any (HS6.out.kept hb7)
              rw [hnL.out] at KL
              clear KA hr7 hb7 HB6 HS6
              go_wp2_with fail
              refine KL.mono ?_
              rintro e w7' ⟨rfl, rfl⟩
              clear KL
              have hdone : True := trivial
              by_cases hq : q < 0
              all_goals
                have hqb : (decide (q < 0) == decide (q < 0)) = true := by simp
                go_wp2
                go_loopw [19] (fun i wr => ∃ (j : Nat), i = .int .i64 j ∧ j ≤ k ∧ Hid (Below w7'.heap.size w7' wr)) (fun i _ => k - (intOf i).toNat)
                case atStart => exact ⟨0, rfl, Nat.zero_le _, hide (Below.refl _ _)⟩
                case round =>
                  obtain ⟨j, rfl, hjk, HB⟩ := hrel
                  by_cases hlj : j < k
                  · have hj0 : (0 : Int) ≤ (j : Int) := by omega
                    have hj1 : (j : Int) < (k : Int) := by omega
                    rcases (HM.out.kept (HB7.out.trans (HB.out.mono HB7.out.size))).2 with h0 | ⟨b2, off2, eao, hbl2, hc2⟩
                    · omega
                    first | subst eao | (simp only [Option.some.injEq, Addr.mk.injEq, and_true] at eao; obtain ⟨rfl, rfl⟩ := eao)
                    rcases (HR7.out.kept HB.out).2 with h0 | ⟨b3, off3, rfl, hbl3, hc3⟩
                    · omega
                    have d0 := (hc2 j hlj).1
                    have d1 := (hc2 j hlj).2
                    have d2 := (hc3 j hlj).1
                    have d3 := (hc3 j hlj).2
                    clear hc2 hc3
                    generalize (gS L j).1 = y1 at *
                    generalize (gS L j).2 = y2 at *
                    have hyy : (y2.toList == y2.toList) = true := by simp
                    go_wp2
                    go_quiet (fail)
                    have HB8 := hide (lowD HB.out nq)
                    clear d0 d1 d2 d3
                    generalize wr.drewN nq = wd at *
                    go_wp2
                    exact ⟨⟨j + 1, by go_num, by omega, HB8⟩, by simp [intOf]; omega⟩
                  · obtain rfl : j = k := by omega
                    have HB8 := hide (HB7.out.trans (HB.out.mono HB7.out.size))
                    go_wp2_with fail
                    refine (awake9_any _).mono ?_
                    rintro e w9 ⟨rfl, hb9⟩
                    have HB9 := hide (HB8.out.trans (hb9.mono HB8.out.size))
                    clear hb9
                    go_wp2
                    go_ret
                    exact ⟨rfl, HB9.out⟩
        · clear hx
          go_wp2_with fail
          refine KI.mono ?_
          rintro e w5 ⟨rfl, hb5⟩
          have HB5 := hide (HB4.out.trans (hb5.mono HB4.out.size))
          have HS5 := hide (HS4.out.kept hb5)
          obtain ⟨t, ht1, ht2, ht3, ht4, KM⟩ := mark_want HS5.out hLk id hid
          have HT2 := hide (fun t' h => ht2 t' h hUq.out)
          clear KI hb5 HB4 HS4 ht1 ht2
          go_wp2_with fail
          refine KM.mono ?_
          rintro e w5' ⟨rfl, rfl⟩
          clear KM
          go_wp2
          go_loopw [16, 17] (fun a i wr => ∃ (k : Nat) (q : Int), a = .int .i64 q ∧ i = .int .i64 k ∧ k ≤ n ∧ Hid (WantR L id k q) ∧ Hid (Below w5'.heap.size w5' wr)) (fun _ i _ => n - (intOf i).toNat)
          case atStart => exact ⟨0, 0, rfl, rfl, Nat.zero_le _, hide (Or.inl ⟨rfl, fun j hj => by omega⟩), hide (Below.refl _ _)⟩
          case round =>
            obtain ⟨k, q, rfl, rfl, hkn, HQ, HB⟩ := hrel
            by_cases hlt : k < n
            · have hk0 : (0 : Int) ≤ (k : Int) := by omega
              have hk1 : (k : Int) < (n : Int) := by omega
              rcases (HM.out.kept (HB5.out.trans (HB.out.mono HB5.out.size))).2 with h0 | ⟨b, off, rfl, hbl0, hc⟩
              · omega
              have c0 := (hc k hlt).1
              clear hc
              have HST := hide (fun (hne : (gS L k).1 ≠ id) => want_step HQ.out hne)
              have HSY := hide (fun (he : (gS L k).1 = id) => show WantR L id (k + 1) (-1 - k) from Or.inr ⟨k, by omega, he, rfl⟩)
              generalize (gS L k).1 = y at *
              by_cases hy : y = id
              · have hyb : (y == id) = true := by simpa using hy
                have HN := hide (HSY.out hy)
                clear hy
                go_wp2
                exact ⟨⟨k + 1, -1 - k, by go_num, by go_num, by omega, HN, HB⟩, by simp [intOf]; omega⟩
              · have hyb : (y == id) = false := by simpa using hy
                have HN := hide (HST.out hy)
                clear hy
                go_wp2
                exact ⟨⟨k + 1, q, rfl, by go_num, by omega, HN, HB⟩, by simp [intOf]; omega⟩
            · obtain rfl : k = n := by omega
              have e : q = t := HT2.out q (by rw [hnL.out]; exact HQ.out)
              subst e
              have HB6 := hide (HB5.out.trans (HB.out.mono HB5.out.size))
              have HS6 := hide (HS5.out.kept HB.out)
              have KA := All_any HS6.out hLk
              rw [hnL.out] at KA
              clear HB HB5 HS5
              go_wp2_with fail
              refine KA.mono ?_
              rintro e w7 ⟨⟨a1, cc1, rfl, hr7⟩, hb7⟩
              have HR7 := hide hr7
              have HB7 := hide (HB6.out.trans (hb7.mono HB6.out.size))
              have KL := len_any (HS6.out.kept hb7)
              rw [hnL.out] at KL
              clear KA hr7 hb7 HB6 HS6
              go_wp2_with fail
              refine KL.mono ?_
              rintro e w7' ⟨rfl, rfl⟩
              clear KL
              have hdone : True := trivial
              by_cases hq : q < 0
              all_goals
                have hqb : (decide (q < 0) == decide (q < 0)) = true := by simp
                go_wp2
                go_loopw [19] (fun i wr => ∃ (j : Nat), i = .int .i64 j ∧ j ≤ k ∧ Hid (Below w7'.heap.size w7' wr)) (fun i _ => k - (intOf i).toNat)
                case atStart => exact ⟨0, rfl, Nat.zero_le _, hide (Below.refl _ _)⟩
                case round =>
                  obtain ⟨j, rfl, hjk, HB⟩ := hrel
                  by_cases hlj : j < k
                  · have hj0 : (0 : Int) ≤ (j : Int) := by omega
                    have hj1 : (j : Int) < (k : Int) := by omega
                    rcases (HM.out.kept (HB7.out.trans (HB.out.mono HB7.out.size))).2 with h0 | ⟨b2, off2, eao, hbl2, hc2⟩
                    · omega
                    first | subst eao | (simp only [Option.some.injEq, Addr.mk.injEq, and_true] at eao; obtain ⟨rfl, rfl⟩ := eao)
                    rcases (HR7.out.kept HB.out).2 with h0 | ⟨b3, off3, rfl, hbl3, hc3⟩
                    · omega
                    have d0 := (hc2 j hlj).1
                    have d1 := (hc2 j hlj).2
                    have d2 := (hc3 j hlj).1
                    have d3 := (hc3 j hlj).2
                    clear hc2 hc3
                    generalize (gS L j).1 = y1 at *
                    generalize (gS L j).2 = y2 at *
                    have hyy : (y2.toList == y2.toList) = true := by simp
                    go_wp2
                    go_quiet (fail)
                    have HB8 := hide (lowD HB.out nq)
                    clear d0 d1 d2 d3
                    generalize wr.drewN nq = wd at *
                    go_wp2
                    exact ⟨⟨j + 1, by go_num, by omega, HB8⟩, by simp [intOf]; omega⟩
                  · obtain rfl : j = k := by omega
                    have HB8 := hide (HB7.out.trans (HB.out.mono HB7.out.size))
                    go_wp2_with fail
                    refine (awake9_any _).mono ?_
                    rintro e w9 ⟨rfl, hb9⟩
                    have HB9 := hide (HB8.out.trans (hb9.mono HB8.out.size))
                    clear hb9
                    go_wp2
                    go_ret
                    exact ⟨rfl, HB9.out⟩
end Go.Proofs.Ytnklgfolllfghaa.Mk
