/- DecodeTexts: the walk. Made by mkej.py. -/
import Derived.Test.YtfjcfkkcdbojlaaGreatQc4
import Derived.Test.YtfjcfkkcdbojlaaGreatQb4
import Derived.Test.YtfjcfkkcdbojlaaGreatQa31
import Derived.Deep.RegionHeld3
namespace Go.Proofs.YtfjcfkkcdbojlaaGreat
open Go.RowKit Go.Maps
set_option linter.unusedVariables false
set_option linter.unusedSimpArgs false

theorem dtext_long {q : Nat} {ai : Option Addr} {ni ci : Nat} {w : World} (hni : 4000 < ni) :
    Calls Tryz.prog 26 #[.pointer (some ⟨q, 0, none⟩), .slice ai ni ci] w fun e w' => e = .returned (.tuple #[.string ⟨#[]⟩, .int .i64 0, .int .i64 3]) ∧ w' = w := by
  have g : (4000 : Int) < (ni : Int) := by omega
  go_enter Tryz.func26, Tryz.ntmps26
  go_wp2
  (try simp only [Exit.inBlock, Exit.then])
  refine bodyPost_ret (v := .tuple #[.string ⟨#[]⟩, .int .i64 0, .int .i64 3]) (by simp [results, Tryz.results26, go_sem]) rfl ?_
  exact ⟨rfl, rfl⟩
theorem off_arg {w : World} {q : Nat} {ai : Option Addr} {ni : Nat} {I : List Int} (hI : Mk.RdI w ai ni I) (hq : w.heap.size ≤ q) : ∀ b off, ai = some ⟨b, off, none⟩ → 0 < ni → b ≠ q := by
  intro b off e h0
  rcases hI.2 with h1 | ⟨b1, off1, e1, hlt, _⟩
  · omega
  · rw [e1] at e
    simp only [Option.some.injEq, Addr.mk.injEq, and_true] at e
    omega
theorem held_same (t : ByteArray) (w : World) (ht : t.size ≤ 9223372036854775807) :
    Calls Tryz.prog 25 #[.string t] w fun e w' => e = .returned (.int .i64 (heldL t.data.toList : Int)) ∧ w' = w := by
  rw [← heldF_L]
  exact rheld13_any t w ht

set_option maxRecDepth 20000 in
set_option maxHeartbeats 16000000 in
theorem dtexts_walk (c : CsR) (ai : Option Addr) (ni ci : Nat) (I : List Int) (t : ByteArray) (w : World) (hc : CsAt c w) (hI : Mk.RdI w ai ni I) (hlen : ni ≤ 9223372036854775807) (hw : ∀ j, j < ni → Mk.wfI (Mk.gI I j)) (ht : t.size ≤ 9223372036854775807) :
    Calls Tryz.prog 7 #[.agg c.cells, .slice ai ni ci, .string t] w fun e w' => e = .returned (.bool true) ∧ Below w.heap.size w w' := by
  have hlo := Wf.low_alloc w (.cells c.cells 27)
  have hbx := heap_alloc_new w (.cells c.cells 27)
  have HLO := hide hlo
  have HBX := hide hbx
  have HC := hide hc
  have HI := hide hI
  have HW := hide hw
  have KG := hide (cgreat_any c _ (hc.kept hlo))
  clear hc hlo hI hw hlen
  have y0 := Lib.cell_of_heap hbx 0
  have y1 := Lib.cell_of_heap hbx 1
  have y2 := Lib.cell_of_heap hbx 2
  have y3 := Lib.cell_of_heap hbx 3
  clear hbx
  go_enter Tryz.func7, Tryz.ntmps7
  go_wp2_with fail
  refine (unhide KG).mono ?_
  rintro e w1 ⟨hP, hb1⟩
  have HB1 := hide (below_step HLO.out hb1)
  have HBX1 := hide ((hb1.block _ (Array.getElem?_eq_some_iff.1 HBX.out).1).trans HBX.out)
  clear hb1 KG y0 y1 y2 y3
  rcases hP with rfl | ⟨rfl, hf⟩
  · go_wp2_with fail
    refine (awake13_any _).mono ?_
    rintro e w2 ⟨rfl, hb2⟩
    have HB2 := hide (below_step HB1.out hb2)
    clear hb2
    go_wp2
    (try simp only [Exit.inBlock, Exit.then])
    refine bodyPost_ret (v := .bool true) (by simp [results, Tryz.results7, go_sem]) rfl ?_
    exact ⟨rfl, HB2.out⟩
  by_cases hmid : 200 < ni ∧ ni ≤ 4000
  · have g1 : (200 : Int) < (ni : Int) := by omega
    have g2 : (ni : Int) ≤ 4000 := by omega
    go_wp2_with fail
    refine (awake13_any _).mono ?_
    rintro e w2 ⟨rfl, hb2⟩
    have HB2 := hide (below_step HB1.out hb2)
    clear hb2
    go_wp2
    (try simp only [Exit.inBlock, Exit.then])
    refine bodyPost_ret (v := .bool true) (by simp [results, Tryz.results7, go_sem]) rfl ?_
    exact ⟨rfl, HB2.out⟩
  have HF := hide hf
  have HMID := hide hmid
  clear hf hmid
  by_cases h200 : 200 < ni
  · have g1 : (200 : Int) < (ni : Int) := by omega
    have g2 : (4000 : Int) < (ni : Int) := by have := HMID.out; omega
    have g3 : decide ((ni : Int) ≤ 4000) = false := decide_eq_false (by omega)
    by_cases htl : 200 < t.size
    · have g4 : (200 : Int) < (t.size : Int) := by omega
      go_wp2_with fail
      refine (awake13_any _).mono ?_
      rintro e w2 ⟨rfl, hb2⟩
      have HB2 := hide (below_step HB1.out hb2)
      clear hb2
      go_wp2
      (try simp only [Exit.inBlock, Exit.then])
      refine bodyPost_ret (v := .bool true) (by simp [results, Tryz.results7, go_sem]) rfl ?_
      exact ⟨rfl, HB2.out⟩
    have g4 : ¬ (200 : Int) < (t.size : Int) := by omega
    have KA := hide (awake13_any w1)
    go_wp2_with fail
    refine (unhide KA).mono ?_
    rintro e w2 ⟨rfl, hb2⟩
    have HB2 := hide (below_step HB1.out hb2)
    have HBX2 := hide ((hb2.block _ (Array.getElem?_eq_some_iff.1 HBX1.out).1).trans HBX1.out)
    have KO := hide (cof_any c w2 (HC.out.kept HB2.out) HF.out)
    have y0 := Lib.cell_of_heap HBX2.out 0
    have y1 := Lib.cell_of_heap HBX2.out 1
    have y2 := Lib.cell_of_heap HBX2.out 2
    have y3 := Lib.cell_of_heap HBX2.out 3
    clear hb2 KA
    go_wp2_with fail
    refine (unhide KO).mono ?_
    rintro e w3 ⟨⟨s, q, z, B, vb, vm, a4, n4, c4, a5, n5, c5, a3, n3, c3, rfl, hV, hOB, hL, hq, hve, hdv⟩, hb3⟩
    obtain ⟨e1, d1, rfl⟩ := row_form hdv.rt.rb
    obtain ⟨e2, d2, rfl⟩ := row_form hdv.rt.rm
    obtain rfl : s.specials.length = n3 := hdv.rd.1
    have hla := Mk.low1 w3 (.cells #[.slice e1 (txT s).length d1, .slice e2 (mgT s).length d2, .slice a4 n4 c4, .slice a5 n5 c5, .slice a3 s.specials.length c3] 39)
    have HS : Hid (LwS w B q w3.heap.size z s (.slice e1 (txT s).length d1) (.slice e2 (mgT s).length d2) a4 n4 c4 a5 n5 c5 a3 s.specials.length c3 0 (w3.alloc (.cells #[.slice e1 (txT s).length d1, .slice e2 (mgT s).length d2, .slice a4 n4 c4, .slice a5 n5 c5, .slice a3 s.specials.length c3] 39))) := hide ⟨below_step (below_step HB2.out hb3) hla, hve.low hla, hdv.kept hla, heap_alloc_new w3 _⟩
    have HV := hide hV
    have HOB := hide hOB
    have HL := hide hL
    have HQ := hide (Nat.le_trans HB2.out.size hq)
    clear y0 y1 y2 y3 hV hOB hL hq hve hdv hb3 hla KO HB2 HBX2 HB1 HBX1
    generalize hN1 : (txT s).length = N1 at *
    generalize hN2 : (mgT s).length = N2 at *
    have HNN := hide (And.intro hN1 hN2)
    clear hN1 hN2
    go_wp2_with fail
    refine (dheld_any t _ ht).mono ?_
    generalize w3.heap.size = qd at *
    generalize w3.alloc (.cells #[.slice e1 N1 d1, .slice e2 N2 d2, .slice a4 n4 c4, .slice a5 n5 c5, .slice a3 s.specials.length c3] 39) = W1 at *
    rintro e W2 ⟨rfl, hw2⟩
    obtain rfl := hw2.symm
    clear hw2
    go_wp2_with fail
    refine (held_same t _ ht).mono ?_
    rintro e W3 ⟨rfl, hw2⟩
    obtain rfl := hw2.symm
    clear hw2
    generalize heldL t.data.toList = hn at *
    go_wp2_with fail
    refine (dtext_long (by omega)).mono ?_
    rintro e W4 ⟨rfl, hw2⟩
    obtain rfl := hw2.symm
    clear hw2
    go_wp2
    (try simp only [Exit.inBlock, Exit.then])
    refine bodyPost_ret (v := .bool true) (by simp [results, Tryz.results7, go_sem]) rfl ?_
    exact ⟨rfl, HS.out.bel⟩
  · have g1 : ¬ (200 : Int) < (ni : Int) := by omega
    have g2 : ¬ (4000 : Int) < (ni : Int) := by omega
    by_cases htl : 200 < t.size
    · have g4 : (200 : Int) < (t.size : Int) := by omega
      go_wp2_with fail
      refine (awake13_any _).mono ?_
      rintro e w2 ⟨rfl, hb2⟩
      have HB2 := hide (below_step HB1.out hb2)
      clear hb2
      go_wp2
      (try simp only [Exit.inBlock, Exit.then])
      refine bodyPost_ret (v := .bool true) (by simp [results, Tryz.results7, go_sem]) rfl ?_
      exact ⟨rfl, HB2.out⟩
    have g4 : ¬ (200 : Int) < (t.size : Int) := by omega
    have KA := hide (awake13_any w1)
    go_wp2_with fail
    refine (unhide KA).mono ?_
    rintro e w2 ⟨rfl, hb2⟩
    have HB2 := hide (below_step HB1.out hb2)
    have HBX2 := hide ((hb2.block _ (Array.getElem?_eq_some_iff.1 HBX1.out).1).trans HBX1.out)
    have KO := hide (cof_any c w2 (HC.out.kept HB2.out) HF.out)
    have y0 := Lib.cell_of_heap HBX2.out 0
    have y1 := Lib.cell_of_heap HBX2.out 1
    have y2 := Lib.cell_of_heap HBX2.out 2
    have y3 := Lib.cell_of_heap HBX2.out 3
    clear hb2 KA
    go_wp2_with fail
    refine (unhide KO).mono ?_
    rintro e w3 ⟨⟨s, q, z, B, vb, vm, a4, n4, c4, a5, n5, c5, a3, n3, c3, rfl, hV, hOB, hL, hq, hve, hdv⟩, hb3⟩
    obtain ⟨e1, d1, rfl⟩ := row_form hdv.rt.rb
    obtain ⟨e2, d2, rfl⟩ := row_form hdv.rt.rm
    obtain rfl : s.specials.length = n3 := hdv.rd.1
    have hla := Mk.low1 w3 (.cells #[.slice e1 (txT s).length d1, .slice e2 (mgT s).length d2, .slice a4 n4 c4, .slice a5 n5 c5, .slice a3 s.specials.length c3] 39)
    have HS : Hid (LwS w B q w3.heap.size z s (.slice e1 (txT s).length d1) (.slice e2 (mgT s).length d2) a4 n4 c4 a5 n5 c5 a3 s.specials.length c3 0 (w3.alloc (.cells #[.slice e1 (txT s).length d1, .slice e2 (mgT s).length d2, .slice a4 n4 c4, .slice a5 n5 c5, .slice a3 s.specials.length c3] 39))) := hide ⟨below_step (below_step HB2.out hb3) hla, hve.low hla, hdv.kept hla, heap_alloc_new w3 _⟩
    have HV := hide hV
    have HOB := hide hOB
    have HL := hide hL
    have HQ := hide (Nat.le_trans HB2.out.size hq)
    have KT := hide (dtext_any (ci := ci) HS.out.ve.vu (Mk.good_tx hV.2.1) ⟨by omega, by omega⟩ hL (HI.out.kept HS.out.bel) (off_arg HI.out HQ.out) (by omega) HW.out)
    clear y0 y1 y2 y3 hV hOB hL hq hve hdv hb3 hla KO HB2 HBX2 HB1 HBX1
    generalize hN1 : (txT s).length = N1 at *
    generalize hN2 : (mgT s).length = N2 at *
    have HNN := hide (And.intro hN1 hN2)
    clear hN1 hN2
    go_wp2_with fail
    refine (dheld_any t _ ht).mono ?_
    generalize w3.heap.size = qd at *
    generalize w3.alloc (.cells #[.slice e1 N1 d1, .slice e2 N2 d2, .slice a4 n4 c4, .slice a5 n5 c5, .slice a3 s.specials.length c3] 39) = W1 at *
    rintro e W2 ⟨rfl, hw2⟩
    obtain rfl := hw2.symm
    clear hw2
    go_wp2_with fail
    refine (held_same t _ ht).mono ?_
    rintro e W3 ⟨rfl, hw2⟩
    obtain rfl := hw2.symm
    clear hw2
    generalize heldL t.data.toList = hn at *
    go_wp2_with fail
    refine (unhide KT).mono ?_
    rintro e W2 ⟨hP, u', hu1, hu2, hv, hF⟩
    have HU := hide (HS.out.lu.used HQ.out hv hF)
    clear hv hF KT hu1 hu2 HS
    obtain ⟨y0, y1, y2, y3, y4⟩ := HU.out.cells
    have KB := hide (rbad_any (.slice a4 n4 c4) (.slice a5 n5 c5) (cap := c3) (ci := ci) HU.out.rt HU.out.rd (by have := HL.out; omega) (HI.out.kept HU.out.bel) (by omega))
    rcases hP with ⟨hall, he⟩ | ⟨k, hk, hj, hno, rfl⟩
    · rw [badF_no hall] at KB
      have HALL : Hid (∀ j, j < ni → hasD s.specials (txT s).length (Mk.gI I j) = true) := hide (fun j hj => hall j (by rw [HI.out.1]; exact hj))
      rw [HI.out.1] at he
      subst he
      clear hall
      go_wp2_with fail
      refine (unhide KB).mono ?_
      rintro e W3 ⟨rfl, hb⟩
      have HU3 := hide (HU.out.low hb)
      clear hb KB HU y0 y1 y2 y3 y4
      have CI := hide (fun (W : World) (h : LwU w B q qd z s (.slice e1 N1 d1) (.slice e2 N2 d2) a4 n4 c4 a5 n5 c5 a3 s.specials.length c3 u' W) => ritems_any (.slice a4 n4 c4) (.slice a5 n5 c5) (cap := c3) (ci := ci) h.rt h.rd (by have := HL.out; omega) (HI.out.kept h.bel) (by omega) HALL.out)
      have CR := hide (fun (W : World) (h : LwU w B q qd z s (.slice e1 N1 d1) (.slice e2 N2 d2) a4 n4 c4 a5 n5 c5 a3 s.specials.length c3 u' W) (ao : Option Addr) (co : Nat) (hr : Mk.RdI W ao (catV s.specials (txT s) I).length (catV s.specials (txT s) I)) => Mk.rrender_any (cap := c3) (ci := co) h.rd (Mk.good_tx HV.out.2.1) hr (fun i hi => catV_wfD (txT s) HL.out (by
          rw [show Mk.gI (catV s.specials (txT s) I) i = (catV s.specials (txT s) I)[i] by simp [Mk.gI, hi]]
          exact List.getElem_mem hi)) (by
          have h1 := catV_fewD (tokT s) s.specials I
          have h2 := HI.out.1
          omega))
      rw [show Mk.RndV (Mk.rnd (Mk.tL s.specials) (catV s.specials (txT s) I)) = .tuple #[.string ⟨(txD s.specials (txT s) I).toArray⟩, .bool (Mk.rnd (Mk.tL s.specials) (catV s.specials (txT s) I)).isSome] from rndV_eq _] at CR
      generalize (Mk.rnd (Mk.tL s.specials) (catV s.specials (txT s) I)).isSome = ok at *
      generalize txD s.specials (txT s) I = tx at *
      have HS := hide (HU3.out.low below_drw)
      clear HU3
      obtain ⟨y0, y1, y2, y3, y4⟩ := HS.out.cells
      go_wp2
      go_region_held3 (fun W => W.cell? ⟨qd, 0, none⟩ = some (.slice e1 N1 d1) ∧ W.cell? ⟨qd, 1, none⟩ = some (.slice e2 N2 d2) ∧ W.cell? ⟨qd, 2, none⟩ = some (.slice a4 n4 c4) ∧ W.cell? ⟨qd, 3, none⟩ = some (.slice a5 n5 c5) ∧ W.cell? ⟨qd, 4, none⟩ = some (.slice a3 s.specials.length c3)) (first | exact ⟨y0, y1, y2, y3, y4⟩ | go_keep) (first
        | (go_at_call 29; refine (CI.out _ HS.out).mono ?_; rintro e W5 ⟨⟨ao, co, rfl, hr⟩, hb⟩; have HS := hide (HS.out.low hb); obtain ⟨y0, y1, y2, y3, y4⟩ := HS.out.cells; have HRY := hide hr)
        | (go_at_call 28; refine (CR.out _ HS.out _ _ (Mk.RdI.of_row HRY.out)).mono ?_; rintro e W5 ⟨rfl, hb⟩; have HS := hide (HS.out.low hb); obtain ⟨y0, y1, y2, y3, y4⟩ := HS.out.cells)
        | fail)
      all_goals
        have HB0 := hide HS.out.bel
        clear y0 y1 y2 y3 y4 CI CR
        go_wp2
        (try simp only [Exit.inBlock, Exit.then])
        first
          | (go_ret
             exact ⟨rfl, HB0.out⟩)
          | (refine bodyPost_ret (v := .bool true) (by simp [results, Tryz.results7, go_sem]) rfl ?_
             exact ⟨rfl, HB0.out⟩)
    · rw [badF_at hk hj hno] at KB
      have hk0 : (0 : Int) ≤ (k : Int) := by omega
      clear hj hno
      go_wp2_with fail
      refine (unhide KB).mono ?_
      rintro e W3 ⟨rfl, hb⟩
      have HU3 := hide (HU.out.low hb)
      clear hb KB HU y0 y1 y2 y3 y4
      go_wp2
      (try simp only [Exit.inBlock, Exit.then])
      refine bodyPost_ret (v := .bool true) (by simp [results, Tryz.results7, go_sem]) rfl ?_
      exact ⟨rfl, HU3.out.bel⟩
end Go.Proofs.YtfjcfkkcdbojlaaGreat
