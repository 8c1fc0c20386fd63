/- The walk of SpecBack. -/
import Derived.Test.YthneahkiegobaaaGreatDoorSpAw
import Derived.Test.YthneahkiegobaaaGreatDoorSpGr
import Derived.Test.YthneahkiegobaaaGreatDoorSpSm
namespace Go.Proofs.YthneahkiegobaaaGreatDoor
open Go.RowKit
set_option linter.unusedVariables false
set_option linter.unusedSimpArgs false

theorem print_ok {s : Sp} (h : (printP s).2 = 0) : s.Right ∧ s.text.length ≤ 60000 ∧ (printP s).1 = ⟨s.text.toArray⟩ := by
  unfold printP at h ⊢
  split at h
  · rename_i hr
    rw [if_pos hr]
    split at h
    · cases h
    · rename_i hl
      rw [if_neg hl]
      exact ⟨(rightB_iff s).1 hr, by omega, rfl⟩
  · cases h
theorem print_of {s : Sp} (h : s.Right) (hl : s.text.length ≤ 60000) : printP s = (⟨s.text.toArray⟩, 0) := by
  unfold printP
  rw [(rightB_iff s).2 h, if_pos rfl, if_neg (by omega)]
theorem right_n {s : Sp} {x : Sv} {w : World} (h : s.Right) (hS : SpAt w x s) : x.n1 ≤ 1000 ∧ x.n2 ≤ 1000 ∧ x.n3 ≤ 1000 ∧ x.n4 ≤ 1000 ∧ x.n5 ≤ 1000 := by
  have h1 := h.nm; have h2 := h.nt; have h3 := h.ns; have h4 := h.nc; have h5 := h.nj
  have g1 := hS.ms.1; have g2 := hS.ts.1; have g3 := hS.ss.1; have g4 := hS.cs.1; have g5 := hS.js.1
  unfold roomM at h1
  unfold roomT at h2
  refine ⟨?_, ?_, by omega, by omega, by omega⟩
  · split at h1 <;> omega
  · split at h2 <;> omega
theorem parse_cases (t : List UInt8) : (∃ s, parseP t = (s, 0, 0) ∧ s.Right ∧ s.text = t ∧ s.text.length ≤ 60000) ∨ (parseP t).2.2 = 2 ∨ (parseP t).2.2 = 3 := by
  by_cases hl : 60000 < t.length
  · right; right
    unfold parseP
    rw [if_pos hl]
  · cases hp : parseP t with
    | mk s q =>
      obtain ⟨n, e⟩ := q
      have hc : e = 0 ∨ e = 2 := by
        unfold parseP at hp
        rw [if_neg hl] at hp
        unfold parseC at hp
        simp only at hp
        split at hp
        · cases hp; exact Or.inl rfl
        · cases hp; exact Or.inr rfl
      rcases hc with rfl | rfl
      · obtain ⟨h1, h2, rfl⟩ := parseP_sound hp
        exact Or.inl ⟨s, rfl, h1, h2, by rw [h2]; omega⟩
      · exact Or.inr (Or.inl rfl)

set_option maxHeartbeats 16000000 in
set_option maxRecDepth 20000 in
/-- What is read is printed as it was: the law's second half, from whatever world. -/
theorem back_walk (x : Sv) (s : Sp) (t : ByteArray) (w : World) (hE : Env w) (hS : SpAt w x s) (ht : t.size ≤ 9223372036854775807) :
    Calls Tryz.prog 5 #[.agg x.cs, .string t] w fun e w' => e = .returned (.bool true) ∧ Below w.heap.size w w' := by
  have HE := hide hE
  have HI := hide (SpI.new hS 28)
  have KG := great_any x s _ HI.out.sp
  have HAW : Hid (∀ W, Below w.heap.size w W → Calls Tryz.prog 7 #[] W fun e w' => e = .returned (.bool true) ∧ Below W.heap.size W w') := hide fun W hb => awake6_any W (hE.kept hb)
  clear hE hS
  obtain ⟨y0, y1, y2, y3, y4, y5⟩ := HI.out.box
  go_enter Tryz.func5, Tryz.ntmps5
  go_wp2_with fail
  refine KG.mono ?_
  clear KG y0 y1 y2 y3 y4 y5
  rintro e w1 ⟨hB, hb1⟩
  obtain ⟨g, rfl⟩ := hB
  replace HI := hide (HI.out.next hb1)
  clear hb1
  obtain ⟨y0, y1, y2, y3, y4, y5⟩ := HI.out.box
  cases g with
  | true =>
    go_wp2_with fail
    refine (HAW.out _ HI.out.bel).mono ?_
    rintro e w2 ⟨rfl, hb2⟩
    have HBB := hide (HI.out.next hb2).bel
    clear hb2 y0 y1 y2 y3 y4 y5
    go_wp2
    go_ret
    exact ⟨rfl, HBB.out⟩
  | false =>
    by_cases hts : 3000 < t.size
    · have hts1 : (3000 : Int) < (t.size : Int) := by omega
      go_wp2_with fail
      refine (HAW.out _ HI.out.bel).mono ?_
      rintro e w2 ⟨rfl, hb2⟩
      have HBB := hide (HI.out.next hb2).bel
      clear hb2 y0 y1 y2 y3 y4 y5
      go_wp2
      go_ret
      exact ⟨rfl, HBB.out⟩
    have hts1 : ¬ (3000 : Int) < (t.size : Int) := by omega
    have KP := print_any x s w1 (HE.out.kept HI.out.bel) HI.out.sp
    go_wp2_with fail
    refine KP.mono ?_
    clear KP y0 y1 y2 y3 y4 y5
    rintro e w2 ⟨rfl, hb2⟩
    replace HI := hide (HI.out.next hb2)
    clear hb2
    obtain ⟨y0, y1, y2, y3, y4, y5⟩ := HI.out.box
    by_cases hpr : (printP s).2 = 0
    · obtain ⟨hr, hl, h1⟩ := print_ok hpr
      rw [h1, hpr]
      have HN := hide (right_n hr HI.out.sp)
      have KT1 := parseT_any ⟨s.text.toArray⟩ w2 (HE.out.kept HI.out.bel) (by show s.text.toArray.size ≤ _; rw [List.size_toArray]; omega)
      unfold ParsePost at KT1
      rw [show (⟨s.text.toArray⟩ : ByteArray).data.toList = s.text from rfl, parseP_text hr hl] at KT1
      clear hpr hr hl h1
      generalize (⟨s.text.toArray⟩ : ByteArray) = tx at KT1 ⊢
      go_wp2_with fail
      refine KT1.mono ?_
      clear KT1 y0 y1 y2 y3 y4 y5
      rintro e w3 ⟨x1, rfl, hS1, hb3⟩
      replace HI := hide (HI.out.next hb3)
      have hlo3 := low_alloc w3 (.cells x1.cs 28)
      have HI1 := hide (SpI.new hS1 28)
      replace HI := hide (HI.out.next hlo3)
      have HN1 := hide (show x1.n1 ≤ 1000 ∧ x1.n2 ≤ 1000 ∧ x1.n3 ≤ 1000 ∧ x1.n4 ≤ 1000 ∧ x1.n5 ≤ 1000 by
        have hn := HN.out
        have a1 := hS1.ms.1; have a2 := hS1.ts.1; have a3 := hS1.ss.1; have a4 := hS1.cs.1; have a5 := hS1.js.1
        have b1 := HI.out.sp.ms.1; have b2 := HI.out.sp.ts.1; have b3 := HI.out.sp.ss.1; have b4 := HI.out.sp.cs.1; have b5 := HI.out.sp.js.1
        omega)
      have KS := same_any x1 x s _ HI1.out.sp HI.out.sp HN1.out.1 HN1.out.2.1 HN1.out.2.2.1 HN1.out.2.2.2.1 HN1.out.2.2.2.2
      clear hS1 hb3 hlo3 HN HN1
      obtain ⟨z0, z1, z2, z3, z4, z5⟩ := HI1.out.box
      obtain ⟨y0, y1, y2, y3, y4, y5⟩ := HI.out.box
      go_wp2_with fail
      refine KS.mono ?_
      clear KS y0 y1 y2 y3 y4 y5 z0 z1 z2 z3 z4 z5 HI1
      rintro e w4 ⟨rfl, hb4⟩
      replace HI := hide (HI.out.next hb4)
      clear hb4
      obtain ⟨y0, y1, y2, y3, y4, y5⟩ := HI.out.box
      have KT := parseT_any t w4 (HE.out.kept HI.out.bel) ht
      unfold ParsePost at KT
      rcases parse_cases t.data.toList with ⟨s2, hp2, hr2, ht2, hl2⟩ | hp2
      · rw [hp2] at KT
        have HR2 := hide (print_of hr2 hl2)
        have HTT := hide (show (⟨s2.text.toArray⟩ : ByteArray) = t by rw [ht2])
        clear hp2 hr2 ht2 hl2
        go_wp2_with fail
        refine KT.mono ?_
        clear KT y0 y1 y2 y3 y4 y5
        rintro e w5 ⟨x2, rfl, hS2, hb5⟩
        have HB5 := hide (HI.out.bel.trans (hb5.mono HI.out.bel.size))
        have HI2 := hide (SpI.new hS2 28)
        have KP2 := print_any x2 s2 _ ((HE.out.kept HB5.out).kept (low_alloc w5 _)) HI2.out.sp
        rw [HR2.out, HTT.out] at KP2
        clear hS2 hb5 HI
        obtain ⟨z0, z1, z2, z3, z4, z5⟩ := HI2.out.box
        go_wp2_with fail
        refine KP2.mono ?_
        clear KP2 z0 z1 z2 z3 z4 z5
        rintro e w6 ⟨rfl, hb6⟩
        have HB6 := hide (HB5.out.trans ((HI2.out.next hb6).bel.mono HB5.out.size))
        clear hb6 HI2
        go_wp2_with fail
        refine (HAW.out _ HB6.out).mono ?_
        rintro e w7 ⟨rfl, hb7⟩
        have HB7 := hide (HB6.out.trans (hb7.mono HB6.out.size))
        clear hb7
        go_wp2
        go_ret
        exact ⟨rfl, HB7.out⟩
      · have hne : ((parseP t.data.toList).2.2 == 0) = false := by rcases hp2 with h | h <;> rw [h] <;> rfl
        obtain ⟨pq, hpq⟩ : ∃ pq, parseP t.data.toList = pq := ⟨_, rfl⟩
        rw [hpq] at KT hne
        clear hpq hp2
        obtain ⟨s2, n2, e2⟩ := pq
        simp only at KT hne
        go_wp2_with fail
        refine KT.mono ?_
        clear KT y0 y1 y2 y3 y4 y5
        rintro e w5 ⟨x2, rfl, hS2, hb5⟩
        have HB5 := hide (HI.out.bel.trans (hb5.mono HI.out.bel.size))
        have hlo5 := low_alloc w5 (.cells x2.cs 28)
        have HB6 := hide (HB5.out.trans (hlo5.mono HB5.out.size))
        clear hS2 hb5 HI hlo5
        go_wp2_with fail
        refine (HAW.out _ HB6.out).mono ?_
        rintro e w7 ⟨rfl, hb7⟩
        have HB7 := hide (HB6.out.trans (hb7.mono HB6.out.size))
        clear hb7
        go_wp2
        go_ret
        exact ⟨rfl, HB7.out⟩
    · have hpb : ((printP s).2 == 0) = false := by simpa using hpr
      obtain ⟨pp, hpp⟩ : ∃ pp, printP s = pp := ⟨_, rfl⟩
      rw [hpp] at hpb ⊢
      clear hpp hpr
      obtain ⟨ps, pe⟩ := pp
      simp only at hpb ⊢
      have KT := parseT_any t w2 (HE.out.kept HI.out.bel) ht
      unfold ParsePost at KT
      rcases parse_cases t.data.toList with ⟨s2, hp2, hr2, ht2, hl2⟩ | hp2
      · rw [hp2] at KT
        have HR2 := hide (print_of hr2 hl2)
        have HTT := hide (show (⟨s2.text.toArray⟩ : ByteArray) = t by rw [ht2])
        clear hp2 hr2 ht2 hl2
        go_wp2_with fail
        refine KT.mono ?_
        clear KT y0 y1 y2 y3 y4 y5
        rintro e w5 ⟨x2, rfl, hS2, hb5⟩
        have HB5 := hide (HI.out.bel.trans (hb5.mono HI.out.bel.size))
        have HI2 := hide (SpI.new hS2 28)
        have KP2 := print_any x2 s2 _ ((HE.out.kept HB5.out).kept (low_alloc w5 _)) HI2.out.sp
        rw [HR2.out, HTT.out] at KP2
        clear hS2 hb5 HI
        obtain ⟨z0, z1, z2, z3, z4, z5⟩ := HI2.out.box
        go_wp2_with fail
        refine KP2.mono ?_
        clear KP2 z0 z1 z2 z3 z4 z5
        rintro e w6 ⟨rfl, hb6⟩
        have HB6 := hide (HB5.out.trans ((HI2.out.next hb6).bel.mono HB5.out.size))
        clear hb6 HI2
        go_wp2_with fail
        refine (HAW.out _ HB6.out).mono ?_
        rintro e w7 ⟨rfl, hb7⟩
        have HB7 := hide (HB6.out.trans (hb7.mono HB6.out.size))
        clear hb7
        go_wp2
        go_ret
        exact ⟨rfl, HB7.out⟩
      · have hne : ((parseP t.data.toList).2.2 == 0) = false := by rcases hp2 with h | h <;> rw [h] <;> rfl
        obtain ⟨pq, hpq⟩ : ∃ pq, parseP t.data.toList = pq := ⟨_, rfl⟩
        rw [hpq] at KT hne
        clear hpq hp2
        obtain ⟨s2, n2, e2⟩ := pq
        simp only at KT hne
        go_wp2_with fail
        refine KT.mono ?_
        clear KT y0 y1 y2 y3 y4 y5
        rintro e w5 ⟨x2, rfl, hS2, hb5⟩
        have HB5 := hide (HI.out.bel.trans (hb5.mono HI.out.bel.size))
        have hlo5 := low_alloc w5 (.cells x2.cs 28)
        have HB6 := hide (HB5.out.trans (hlo5.mono HB5.out.size))
        clear hS2 hb5 HI hlo5
        go_wp2_with fail
        refine (HAW.out _ HB6.out).mono ?_
        rintro e w7 ⟨rfl, hb7⟩
        have HB7 := hide (HB6.out.trans (hb7.mono HB6.out.size))
        clear hb7
        go_wp2
        go_ret
        exact ⟨rfl, HB7.out⟩
end Go.Proofs.YthneahkiegobaaaGreatDoor
