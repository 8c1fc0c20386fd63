/- DecodeTexts: the walk. Made by mkej.py. Lists of tokens as they lie in memory; what is told of a text that comes in portions; what was there ahead of a decoder in law 13. DecodeFeeds: the walk. Made by mkej.py. -/
import Derived.Test.YtfjcfkkcdbojlaaGreatQe4
import Derived.Test.YtfjcfkkcdbojlaaGreatQb4
import Derived.Test.YtfjcfkkcdbojlaaGreatQa31
import Derived.Deep.RegionHeld3
namespace Go.Proofs.YtfjcfkkcdbojlaaGreat
open Go.RowKit Go.Maps
set_option linter.unusedVariables false
set_option linter.unusedSimpArgs false

theorem dtext_long {q : Nat} {ai : Option Addr} {ni ci : Nat} {w : World} (hni : 4000 < ni) :
    Calls Tryz.prog 26 #[.pointer (some ⟨q, 0, none⟩), .slice ai ni ci] w fun e w' => e = .returned (.tuple #[.string ⟨#[]⟩, .int .i64 0, .int .i64 3]) ∧ w' = w := by
  have g : (4000 : Int) < (ni : Int) := by omega
  go_enter Tryz.func26, Tryz.ntmps26
  go_wp2
  (try simp only [Exit.inBlock, Exit.then])
  refine bodyPost_ret (v := .tuple #[.string ⟨#[]⟩, .int .i64 0, .int .i64 3]) (by simp [results, Tryz.results26, go_sem]) rfl ?_
  exact ⟨rfl, rfl⟩
theorem off_arg {w : World} {q : Nat} {ai : Option Addr} {ni : Nat} {I : List Int} (hI : Mk.RdI w ai ni I) (hq : w.heap.size ≤ q) : ∀ b off, ai = some ⟨b, off, none⟩ → 0 < ni → b ≠ q := by
  intro b off e h0
  rcases hI.2 with h1 | ⟨b1, off1, e1, hlt, _⟩
  · omega
  · rw [e1] at e
    simp only [Option.some.injEq, Addr.mk.injEq, and_true] at e
    omega
theorem held_same (t : ByteArray) (w : World) (ht : t.size ≤ 9223372036854775807) :
    Calls Tryz.prog 25 #[.string t] w fun e w' => e = .returned (.int .i64 (heldL t.data.toList : Int)) ∧ w' = w := by
  rw [← heldF_L]
  exact rheld13_any t w ht

set_option maxRecDepth 20000 in
set_option maxHeartbeats 16000000 in
theorem dtexts_walk (c : CsR) (ai : Option Addr) (ni ci : Nat) (I : List Int) (t : ByteArray) (w : World) (hc : CsAt c w) (hI : Mk.RdI w ai ni I) (hlen : ni ≤ 9223372036854775807) (hw : ∀ j, j < ni → Mk.wfI (Mk.gI I j)) (ht : t.size ≤ 9223372036854775807) :
    Calls Tryz.prog 7 #[.agg c.cells, .slice ai ni ci, .string t] w fun e w' => e = .returned (.bool true) ∧ Below w.heap.size w w' := by
  have hlo := Wf.low_alloc w (.cells c.cells 27)
  have hbx := heap_alloc_new w (.cells c.cells 27)
  have HLO := hide hlo
  have HBX := hide hbx
  have HC := hide hc
  have HI := hide hI
  have HW := hide hw
  have KG := hide (cgreat_any c _ (hc.kept hlo))
  clear hc hlo hI hw hlen
  have y0 := Lib.cell_of_heap hbx 0
  have y1 := Lib.cell_of_heap hbx 1
  have y2 := Lib.cell_of_heap hbx 2
  have y3 := Lib.cell_of_heap hbx 3
  clear hbx
  go_enter Tryz.func7, Tryz.ntmps7
  go_wp2_with fail
  refine (unhide KG).mono ?_
  rintro e w1 ⟨hP, hb1⟩
  have HB1 := hide (below_step HLO.out hb1)
  have HBX1 := hide ((hb1.block _ (Array.getElem?_eq_some_iff.1 HBX.out).1).trans HBX.out)
  clear hb1 KG y0 y1 y2 y3
  rcases hP with rfl | ⟨rfl, hf⟩
  · go_wp2_with fail
    refine (awake13_any _).mono ?_
    rintro e w2 ⟨rfl, hb2⟩
    have HB2 := hide (below_step HB1.out hb2)
    clear hb2
    go_wp2
    (try simp only [Exit.inBlock, Exit.then])
    refine bodyPost_ret (v := .bool true) (by simp [results, Tryz.results7, go_sem]) rfl ?_
    exact ⟨rfl, HB2.out⟩
  by_cases hmid : 200 < ni ∧ ni ≤ 4000
  · have g1 : (200 : Int) < (ni : Int) := by omega
    have g2 : (ni : Int) ≤ 4000 := by omega
    go_wp2_with fail
    refine (awake13_any _).mono ?_
    rintro e w2 ⟨rfl, hb2⟩
    have HB2 := hide (below_step HB1.out hb2)
    clear hb2
    go_wp2
    (try simp only [Exit.inBlock, Exit.then])
    refine bodyPost_ret (v := .bool true) (by simp [results, Tryz.results7, go_sem]) rfl ?_
    exact ⟨rfl, HB2.out⟩
  have HF := hide hf
  have HMID := hide hmid
  clear hf hmid
  by_cases h200 : 200 < ni
  · have g1 : (200 : Int) < (ni : Int) := by omega
    have g2 : (4000 : Int) < (ni : Int) := by have := HMID.out; omega
    have g3 : decide ((ni : Int) ≤ 4000) = false := decide_eq_false (by omega)
    by_cases htl : 200 < t.size
    · have g4 : (200 : Int) < (t.size : Int) := by omega
      go_wp2_with fail
      refine (awake13_any _).mono ?_
      rintro e w2 ⟨rfl, hb2⟩
      have HB2 := hide (below_step HB1.out hb2)
      clear hb2
      go_wp2
      (try simp only [Exit.inBlock, Exit.then])
      refine bodyPost_ret (v := .bool true) (by simp [results, Tryz.results7, go_sem]) rfl ?_
      exact ⟨rfl, HB2.out⟩
    have g4 : ¬ (200 : Int) < (t.size : Int) := by omega
    have KA := hide (awake13_any w1)
    go_wp2_with fail
    refine (unhide KA).mono ?_
    rintro e w2 ⟨rfl, hb2⟩
    have HB2 := hide (below_step HB1.out hb2)
    have HBX2 := hide ((hb2.block _ (Array.getElem?_eq_some_iff.1 HBX1.out).1).trans HBX1.out)
    have KO := hide (cof_any c w2 (HC.out.kept HB2.out) HF.out)
    have y0 := Lib.cell_of_heap HBX2.out 0
    have y1 := Lib.cell_of_heap HBX2.out 1
    have y2 := Lib.cell_of_heap HBX2.out 2
    have y3 := Lib.cell_of_heap HBX2.out 3
    clear hb2 KA
    go_wp2_with fail
    refine (unhide KO).mono ?_
    rintro e w3 ⟨⟨s, q, z, B, vb, vm, a4, n4, c4, a5, n5, c5, a3, n3, c3, rfl, hV, hOB, hL, hq, hve, hdv⟩, hb3⟩
    obtain ⟨e1, d1, rfl⟩ := row_form hdv.rt.rb
    obtain ⟨e2, d2, rfl⟩ := row_form hdv.rt.rm
    obtain rfl : s.specials.length = n3 := hdv.rd.1
    have hla := Mk.low1 w3 (.cells #[.slice e1 (txT s).length d1, .slice e2 (mgT s).length d2, .slice a4 n4 c4, .slice a5 n5 c5, .slice a3 s.specials.length c3] 39)
    have HS : Hid (LwS w B q w3.heap.size z s (.slice e1 (txT s).length d1) (.slice e2 (mgT s).length d2) a4 n4 c4 a5 n5 c5 a3 s.specials.length c3 0 (w3.alloc (.cells #[.slice e1 (txT s).length d1, .slice e2 (mgT s).length d2, .slice a4 n4 c4, .slice a5 n5 c5, .slice a3 s.specials.length c3] 39))) := hide ⟨below_step (below_step HB2.out hb3) hla, hve.low hla, hdv.kept hla, heap_alloc_new w3 _⟩
    have HV := hide hV
    have HOB := hide hOB
    have HL := hide hL
    have HQ := hide (Nat.le_trans HB2.out.size hq)
    clear y0 y1 y2 y3 hV hOB hL hq hve hdv hb3 hla KO HB2 HBX2 HB1 HBX1
    generalize hN1 : (txT s).length = N1 at *
    generalize hN2 : (mgT s).length = N2 at *
    have HNN := hide (And.intro hN1 hN2)
    clear hN1 hN2
    go_wp2_with fail
    refine (dheld_any t _ ht).mono ?_
    generalize w3.heap.size = qd at *
    generalize w3.alloc (.cells #[.slice e1 N1 d1, .slice e2 N2 d2, .slice a4 n4 c4, .slice a5 n5 c5, .slice a3 s.specials.length c3] 39) = W1 at *
    rintro e W2 ⟨rfl, hw2⟩
    obtain rfl := hw2.symm
    clear hw2
    go_wp2_with fail
    refine (held_same t _ ht).mono ?_
    rintro e W3 ⟨rfl, hw2⟩
    obtain rfl := hw2.symm
    clear hw2
    generalize heldL t.data.toList = hn at *
    go_wp2_with fail
    refine (dtext_long (by omega)).mono ?_
    rintro e W4 ⟨rfl, hw2⟩
    obtain rfl := hw2.symm
    clear hw2
    go_wp2
    (try simp only [Exit.inBlock, Exit.then])
    refine bodyPost_ret (v := .bool true) (by simp [results, Tryz.results7, go_sem]) rfl ?_
    exact ⟨rfl, HS.out.bel⟩
  · have g1 : ¬ (200 : Int) < (ni : Int) := by omega
    have g2 : ¬ (4000 : Int) < (ni : Int) := by omega
    by_cases htl : 200 < t.size
    · have g4 : (200 : Int) < (t.size : Int) := by omega
      go_wp2_with fail
      refine (awake13_any _).mono ?_
      rintro e w2 ⟨rfl, hb2⟩
      have HB2 := hide (below_step HB1.out hb2)
      clear hb2
      go_wp2
      (try simp only [Exit.inBlock, Exit.then])
      refine bodyPost_ret (v := .bool true) (by simp [results, Tryz.results7, go_sem]) rfl ?_
      exact ⟨rfl, HB2.out⟩
    have g4 : ¬ (200 : Int) < (t.size : Int) := by omega
    have KA := hide (awake13_any w1)
    go_wp2_with fail
    refine (unhide KA).mono ?_
    rintro e w2 ⟨rfl, hb2⟩
    have HB2 := hide (below_step HB1.out hb2)
    have HBX2 := hide ((hb2.block _ (Array.getElem?_eq_some_iff.1 HBX1.out).1).trans HBX1.out)
    have KO := hide (cof_any c w2 (HC.out.kept HB2.out) HF.out)
    have y0 := Lib.cell_of_heap HBX2.out 0
    have y1 := Lib.cell_of_heap HBX2.out 1
    have y2 := Lib.cell_of_heap HBX2.out 2
    have y3 := Lib.cell_of_heap HBX2.out 3
    clear hb2 KA
    go_wp2_with fail
    refine (unhide KO).mono ?_
    rintro e w3 ⟨⟨s, q, z, B, vb, vm, a4, n4, c4, a5, n5, c5, a3, n3, c3, rfl, hV, hOB, hL, hq, hve, hdv⟩, hb3⟩
    obtain ⟨e1, d1, rfl⟩ := row_form hdv.rt.rb
    obtain ⟨e2, d2, rfl⟩ := row_form hdv.rt.rm
    obtain rfl : s.specials.length = n3 := hdv.rd.1
    have hla := Mk.low1 w3 (.cells #[.slice e1 (txT s).length d1, .slice e2 (mgT s).length d2, .slice a4 n4 c4, .slice a5 n5 c5, .slice a3 s.specials.length c3] 39)
    have HS : Hid (LwS w B q w3.heap.size z s (.slice e1 (txT s).length d1) (.slice e2 (mgT s).length d2) a4 n4 c4 a5 n5 c5 a3 s.specials.length c3 0 (w3.alloc (.cells #[.slice e1 (txT s).length d1, .slice e2 (mgT s).length d2, .slice a4 n4 c4, .slice a5 n5 c5, .slice a3 s.specials.length c3] 39))) := hide ⟨below_step (below_step HB2.out hb3) hla, hve.low hla, hdv.kept hla, heap_alloc_new w3 _⟩
    have HV := hide hV
    have HOB := hide hOB
    have HL := hide hL
    have HQ := hide (Nat.le_trans HB2.out.size hq)
    have KT := hide (dtext_any (ci := ci) HS.out.ve.vu (Mk.good_tx hV.2.1) ⟨by omega, by omega⟩ hL (HI.out.kept HS.out.bel) (off_arg HI.out HQ.out) (by omega) HW.out)
    clear y0 y1 y2 y3 hV hOB hL hq hve hdv hb3 hla KO HB2 HBX2 HB1 HBX1
    generalize hN1 : (txT s).length = N1 at *
    generalize hN2 : (mgT s).length = N2 at *
    have HNN := hide (And.intro hN1 hN2)
    clear hN1 hN2
    go_wp2_with fail
    refine (dheld_any t _ ht).mono ?_
    generalize w3.heap.size = qd at *
    generalize w3.alloc (.cells #[.slice e1 N1 d1, .slice e2 N2 d2, .slice a4 n4 c4, .slice a5 n5 c5, .slice a3 s.specials.length c3] 39) = W1 at *
    rintro e W2 ⟨rfl, hw2⟩
    obtain rfl := hw2.symm
    clear hw2
    go_wp2_with fail
    refine (held_same t _ ht).mono ?_
    rintro e W3 ⟨rfl, hw2⟩
    obtain rfl := hw2.symm
    clear hw2
    generalize heldL t.data.toList = hn at *
    go_wp2_with fail
    refine (unhide KT).mono ?_
    rintro e W2 ⟨hP, u', hu1, hu2, hv, hF⟩
    have HU := hide (HS.out.lu.used HQ.out hv hF)
    clear hv hF KT hu1 hu2 HS
    obtain ⟨y0, y1, y2, y3, y4⟩ := HU.out.cells
    have KB := hide (rbad_any (.slice a4 n4 c4) (.slice a5 n5 c5) (cap := c3) (ci := ci) HU.out.rt HU.out.rd (by have := HL.out; omega) (HI.out.kept HU.out.bel) (by omega))
    rcases hP with ⟨hall, he⟩ | ⟨k, hk, hj, hno, rfl⟩
    · rw [badF_no hall] at KB
      have HALL : Hid (∀ j, j < ni → hasD s.specials (txT s).length (Mk.gI I j) = true) := hide (fun j hj => hall j (by rw [HI.out.1]; exact hj))
      rw [HI.out.1] at he
      subst he
      clear hall
      go_wp2_with fail
      refine (unhide KB).mono ?_
      rintro e W3 ⟨rfl, hb⟩
      have HU3 := hide (HU.out.low hb)
      clear hb KB HU y0 y1 y2 y3 y4
      have CI := hide (fun (W : World) (h : LwU w B q qd z s (.slice e1 N1 d1) (.slice e2 N2 d2) a4 n4 c4 a5 n5 c5 a3 s.specials.length c3 u' W) => ritems_any (.slice a4 n4 c4) (.slice a5 n5 c5) (cap := c3) (ci := ci) h.rt h.rd (by have := HL.out; omega) (HI.out.kept h.bel) (by omega) HALL.out)
      have CR := hide (fun (W : World) (h : LwU w B q qd z s (.slice e1 N1 d1) (.slice e2 N2 d2) a4 n4 c4 a5 n5 c5 a3 s.specials.length c3 u' W) (ao : Option Addr) (co : Nat) (hr : Mk.RdI W ao (catV s.specials (txT s) I).length (catV s.specials (txT s) I)) => Mk.rrender_any (cap := c3) (ci := co) h.rd (Mk.good_tx HV.out.2.1) hr (fun i hi => catV_wfD (txT s) HL.out (by
          rw [show Mk.gI (catV s.specials (txT s) I) i = (catV s.specials (txT s) I)[i] by simp [Mk.gI, hi]]
          exact List.getElem_mem hi)) (by
          have h1 := catV_fewD (tokT s) s.specials I
          have h2 := HI.out.1
          omega))
      rw [show Mk.RndV (Mk.rnd (Mk.tL s.specials) (catV s.specials (txT s) I)) = .tuple #[.string ⟨(txD s.specials (txT s) I).toArray⟩, .bool (Mk.rnd (Mk.tL s.specials) (catV s.specials (txT s) I)).isSome] from rndV_eq _] at CR
      generalize (Mk.rnd (Mk.tL s.specials) (catV s.specials (txT s) I)).isSome = ok at *
      generalize txD s.specials (txT s) I = tx at *
      have HS := hide (HU3.out.low below_drw)
      clear HU3
      obtain ⟨y0, y1, y2, y3, y4⟩ := HS.out.cells
      go_wp2
      go_region_held3 (fun W => W.cell? ⟨qd, 0, none⟩ = some (.slice e1 N1 d1) ∧ W.cell? ⟨qd, 1, none⟩ = some (.slice e2 N2 d2) ∧ W.cell? ⟨qd, 2, none⟩ = some (.slice a4 n4 c4) ∧ W.cell? ⟨qd, 3, none⟩ = some (.slice a5 n5 c5) ∧ W.cell? ⟨qd, 4, none⟩ = some (.slice a3 s.specials.length c3)) (first | exact ⟨y0, y1, y2, y3, y4⟩ | go_keep) (first
        | (go_at_call 29; refine (CI.out _ HS.out).mono ?_; rintro e W5 ⟨⟨ao, co, rfl, hr⟩, hb⟩; have HS := hide (HS.out.low hb); obtain ⟨y0, y1, y2, y3, y4⟩ := HS.out.cells; have HRY := hide hr)
        | (go_at_call 28; refine (CR.out _ HS.out _ _ (Mk.RdI.of_row HRY.out)).mono ?_; rintro e W5 ⟨rfl, hb⟩; have HS := hide (HS.out.low hb); obtain ⟨y0, y1, y2, y3, y4⟩ := HS.out.cells)
        | fail)
      all_goals
        have HB0 := hide HS.out.bel
        clear y0 y1 y2 y3 y4 CI CR
        go_wp2
        (try simp only [Exit.inBlock, Exit.then])
        first
          | (go_ret
             exact ⟨rfl, HB0.out⟩)
          | (refine bodyPost_ret (v := .bool true) (by simp [results, Tryz.results7, go_sem]) rfl ?_
             exact ⟨rfl, HB0.out⟩)
    · rw [badF_at hk hj hno] at KB
      have hk0 : (0 : Int) ≤ (k : Int) := by omega
      clear hj hno
      go_wp2_with fail
      refine (unhide KB).mono ?_
      rintro e W3 ⟨rfl, hb⟩
      have HU3 := hide (HU.out.low hb)
      clear hb KB HU y0 y1 y2 y3 y4
      go_wp2
      (try simp only [Exit.inBlock, Exit.then])
      refine bodyPost_ret (v := .bool true) (by simp [results, Tryz.results7, go_sem]) rfl ?_
      exact ⟨rfl, HU3.out.bel⟩
end Go.Proofs.YtfjcfkkcdbojlaaGreat

namespace Go.Proofs.YtfjcfkkcdbojlaaGreat
open Go.RowKit Go.Maps
set_option linter.unusedVariables false
set_option linter.unusedSimpArgs false

/-- One of many lists. -/
def gR (L : List (Option Addr × Nat × Nat × List Int)) (i : Nat) : Option Addr × Nat × Nat × List Int := L.getD i (none, 0, 0, [])
/-- Lists of numbers, in memory. -/
structure RwI (w : World) (ao : Option Addr) (L : List (Option Addr × Nat × Nat × List Int)) : Prop where
  at_ : L.length = 0 ∨ ∃ b off, ao = some ⟨b, off, none⟩ ∧ b < w.heap.size ∧ ∀ i, i < L.length → w.cell? ⟨b, off + i, none⟩ = some (.slice (gR L i).1 (gR L i).2.1 (gR L i).2.2.1)
  row : ∀ i, i < L.length → Mk.RdI w (gR L i).1 (gR L i).2.1 (gR L i).2.2.2 ∧ (gR L i).2.1 ≤ 9223372036854775807 ∧ ∀ j, j < (gR L i).2.1 → Mk.wfI (Mk.gI (gR L i).2.2.2 j)
theorem RwI.kept {w w' : World} {ao : Option Addr} {L : List (Option Addr × Nat × Nat × List Int)} (h : RwI w ao L) (hb : Below w.heap.size w w') : RwI w' ao L := by
  refine ⟨?_, fun i hi => ⟨(h.row i hi).1.kept hb, (h.row i hi).2⟩⟩
  rcases h.at_ with h0 | ⟨b, off, e, hlt, hc⟩
  · exact Or.inl h0
  · exact Or.inr ⟨b, off, e, Nat.lt_of_lt_of_le hlt hb.size, fun i hi => (hb.cell hlt).trans (hc i hi)⟩
theorem ex_list (s : ByteArray) (a b : Nat) (hb : b ≤ s.size) : (s.extract a b).data.toList = (s.data.toList.take b).drop a := by
  rw [ByteArray.data_extract, Array.toList_extract, List.extract_eq_take_drop, List.drop_take]
theorem ba_ext {a b : ByteArray} (h : a.data.toList = b.data.toList) : a = b := by
  apply ByteArray.ext
  exact Array.toList_inj.1 h
theorem app_list (a b : ByteArray) : (a ++ b).data.toList = a.data.toList ++ b.data.toList := by
  rw [ByteArray.data_append, Array.toList_append]
/-- A text more, behind what is held back, and behind all. -/
theorem feed_more (A T : ByteArray) : heldL (A.extract (A.size - heldL A.data.toList) A.size ++ T).data.toList = heldL (A ++ T).data.toList ∧
    (A.extract (A.size - heldL A.data.toList) A.size ++ T).extract 0 ((A.extract (A.size - heldL A.data.toList) A.size ++ T).size - heldL (A ++ T).data.toList) = (A ++ T).extract (A.size - heldL A.data.toList) ((A ++ T).size - heldL (A ++ T).data.toList) ∧
    (A.extract (A.size - heldL A.data.toList) A.size ++ T).extract ((A.extract (A.size - heldL A.data.toList) A.size ++ T).size - heldL (A ++ T).data.toList) (A.extract (A.size - heldL A.data.toList) A.size ++ T).size = (A ++ T).extract ((A ++ T).size - heldL (A ++ T).data.toList) (A ++ T).size ∧
    (A.size - heldL A.data.toList) + ((A.extract (A.size - heldL A.data.toList) A.size ++ T).size - heldL (A ++ T).data.toList) = (A ++ T).size - heldL (A ++ T).data.toList ∧ A.size - heldL A.data.toList ≤ (A ++ T).size - heldL (A ++ T).data.toList := by
  have hsz : A.data.toList.length = A.size := by simp
  have e1 : (A.extract (A.size - heldL A.data.toList) A.size).data.toList = A.data.toList.drop (A.data.toList.length - heldL A.data.toList) := by
    rw [ex_list _ _ _ (Nat.le_refl _), ← hsz, List.take_length]
  have eR : (A.extract (A.size - heldL A.data.toList) A.size ++ T).data.toList = A.data.toList.drop (A.data.toList.length - heldL A.data.toList) ++ T.data.toList := by
    rw [app_list, e1]
  have eA : (A ++ T).data.toList = A.data.toList ++ T.data.toList := app_list _ _
  have hh : heldL (A.extract (A.size - heldL A.data.toList) A.size ++ T).data.toList = heldL (A ++ T).data.toList := by
    rw [eR, eA]
    exact (heldL_rest _ _).symm
  have hs1 : (A.extract (A.size - heldL A.data.toList) A.size ++ T).size = heldL A.data.toList + T.size := by
    have := heldL_len A.data.toList
    rw [ByteArray.size_append, ByteArray.size_extract]
    omega
  have hs2 : (A ++ T).size = A.size + T.size := ByteArray.size_append
  have hl1 := heldL_len A.data.toList
  have hl2 : heldL (A ++ T).data.toList ≤ heldL A.data.toList + T.size := by
    have := heldL_len (A.extract (A.size - heldL A.data.toList) A.size ++ T).data.toList
    rw [hh] at this
    have h3 : (A.extract (A.size - heldL A.data.toList) A.size ++ T).data.toList.length = (A.extract (A.size - heldL A.data.toList) A.size ++ T).size := by simp
    omega
  generalize heldL (A ++ T).data.toList = m at *
  refine ⟨hh, ?_, ?_, by omega, by omega⟩
  · apply ba_ext
    rw [ex_list _ _ _ (by omega), ex_list _ _ _ (by omega), eR, eA, hs1, hs2, List.drop_zero, ← hsz]
    generalize heldL A.data.toList = h at *
    rw [show A.data.toList.drop (A.data.toList.length - h) ++ T.data.toList = (A.data.toList ++ T.data.toList).drop (A.data.toList.length - h) by rw [List.drop_append_of_le_length (by omega)]]
    rw [List.take_drop, show A.data.toList.length - h + (h + T.size - m) = A.data.toList.length + T.size - m by omega]
  · apply ba_ext
    rw [ex_list _ _ _ (Nat.le_refl _), ex_list _ _ _ (Nat.le_refl _)]
    rw [List.take_of_length_le (by simp), List.take_of_length_le (by simp), eR, eA, hs1, hs2, ← hsz]
    generalize heldL A.data.toList = h at *
    rw [show A.data.toList.drop (A.data.toList.length - h) ++ T.data.toList = (A.data.toList ++ T.data.toList).drop (A.data.toList.length - h) by rw [List.drop_append_of_le_length (by omega)], List.drop_drop, show A.data.toList.length - h + (h + T.size - m) = A.data.toList.length + T.size - m by omega]
/-- A text isn't long. -/
theorem rnd_few {L : List (Int × ByteArray)} (hk : Mk.TxOk L) : ∀ (I : List Int) (l : List UInt8), Mk.rnd (Mk.tL L) I = some l → l.length ≤ 1000 * I.length
  | [], l, h => by
    simp only [Mk.rnd, Option.some.injEq] at h
    subst h
    simp
  | x :: r, l, h => by
    unfold Mk.rnd at h
    split at h
    · rename_i a b ha hb
      have ih := rnd_few hk r b hb
      have hx : a.length ≤ 1000 := by
        unfold Mk.itm at ha
        split at ha
        · simp only [Option.some.injEq] at ha
          subst ha
          simp
        · split at ha
          · rename_i h1 h2
            simp only [Option.some.injEq] at ha
            subst ha
            have hlen := h2.2
            rw [Mk.tL_len] at hlen
            have hi : (-1 - x).toNat < L.length := by omega
            rw [Mk.mT_len L hi]
            exact hk.le _ hi
          · cases ha
      simp only [Option.some.injEq] at h
      subst h
      simp
      omega
    · cases h
theorem txD_few {L : List (Int × ByteArray)} (hk : Mk.TxOk L) {tx : List ByteArray} {mg : List (Int × Int)} (ht : Tok tx mg) (I : List Int) : (txD L tx I).length ≤ 64000 * I.length := by
  unfold txD
  cases h : Mk.rnd (Mk.tL L) (catV L tx I) with
  | none => simp
  | some l =>
    have h1 := rnd_few hk _ _ h
    have h2 := catV_fewD ht L I
    simp only [Option.getD_some]
    omega
/-- What holds of what was there ahead of the decoder. -/
def LwD (D : Nat) (w : World) (B q qd : Nat) (z : VV) (s : Wf.Sp) (vb vm : Value) (a4 : Option Addr) (n4 c4 : Nat) (a5 : Option Addr) (n5 c5 : Nat) (a3 : Option Addr) (n3 c3 : Nat) (u : Int) (W : World) : Prop := Shd (fun u W => LwU w B q qd z s vb vm a4 n4 c4 a5 n5 c5 a3 n3 c3 u W) D u W
section
variable {w W W' : World} {D B q qd : Nat} {z : VV} {s : Wf.Sp} {vb vm : Value} {a4 a5 a3 : Option Addr} {n4 c4 n5 c5 n3 c3 : Nat} {u u' : Int}
theorem LwD.lu (h : LwD D w B q qd z s vb vm a4 n4 c4 a5 n5 c5 a3 n3 c3 u W) : LwU w B q qd z s vb vm a4 n4 c4 a5 n5 c5 a3 n3 c3 u W := by
  obtain ⟨W0, h1, h2, h3⟩ := h
  exact LwU.low h2 h3
theorem LwD.low (h : LwD D w B q qd z s vb vm a4 n4 c4 a5 n5 c5 a3 n3 c3 u W) (hb : Below W.heap.size W W') : LwD D w B q qd z s vb vm a4 n4 c4 a5 n5 c5 a3 n3 c3 u W' := Shd.low h hb
theorem LwD.fed (h : LwD D w B q qd z s vb vm a4 n4 c4 a5 n5 c5 a3 n3 c3 u W) (hq : w.heap.size ≤ q) {W1 : World} (hv : Vu B q z s u' W1) (hF : FrL [q] W W1) (h1 : u ≤ u') (h2 : u' ≤ u + 1) (hF2 : FrL [D] W1 W') : LwD D w B q qd z s vb vm a4 n4 c4 a5 n5 c5 a3 n3 c3 u' W' :=
  Shd.frd (Shd.used (fun _ _ h => h.ve.vu.box) (fun _ _ h => h.used hq h.ve.vu.use (frq_set _ _ _ _)) h hv.box hF h1 h2) (Nat.le_refl _) hF2
theorem LwD.frd (h : LwD D w B q qd z s vb vm a4 n4 c4 a5 n5 c5 a3 n3 c3 u W) (hF : FrL [D] W W') : LwD D w B q qd z s vb vm a4 n4 c4 a5 n5 c5 a3 n3 c3 u W' := Shd.frd h (Nat.le_refl _) hF
end
end Go.Proofs.YtfjcfkkcdbojlaaGreat

namespace Go.Proofs.YtfjcfkkcdbojlaaGreat
open Go.RowKit Go.Maps
set_option linter.unusedVariables false
set_option linter.unusedSimpArgs false

theorem allD_few {A : ByteArray} {L : List (Int × ByteArray)} (hk : Mk.TxOk L) {tx : List ByteArray} {mg : List (Int × Int)} (ht : Tok tx mg) (I : List Int) (hI : I.length ≤ 100) (tl : Nat) : (allD (A.extract tl A.size) L tx I).size ≤ A.size + 6400000 := by
  have h1 := txD_few hk ht I
  unfold allD
  rw [ByteArray.size_append, ByteArray.size_extract]
  have h2 : (⟨(txD L tx I).toArray⟩ : ByteArray).size = (txD L tx I).length := by simp [ByteArray.size]
  rw [h2]
  omega
/-- What Feed tells of tokens that are there, by all that was there and is. -/
theorem dfp_yes {d q : Nat} {A : ByteArray} {tl : Nat} {L : List (Int × ByteArray)} {tx : List ByteArray} {I : List Int} {e : Ending} {w' : World} (htl : tl = A.size - heldL A.data.toList) (h : DfP d (A.extract tl A.size) q tl L tx I e w') :
    ((∀ j, j < I.length → hasD L tx.length (Mk.gI I j) = true) ∧ ∃ A2 tl2, A2 = A ++ ⟨(txD L tx I).toArray⟩ ∧ tl2 = A2.size - heldL A2.data.toList ∧ tl ≤ tl2 ∧ e = .returned (.tuple #[.string (A2.extract tl tl2), .int .i64 I.length, .int .i64 0]) ∧ DecAt d (A2.extract tl2 A2.size) q tl2 false w') ∨
    ∃ k, k < I.length ∧ (∀ j, j < k → hasD L tx.length (Mk.gI I j) = true) ∧ hasD L tx.length (Mk.gI I k) = false ∧ e = .returned (.tuple #[.string ⟨#[]⟩, .int .i64 (k : Int), .int .i64 4]) ∧ DecAt d (A.extract tl A.size) q tl false w' := by
  rcases h with ⟨hall, m, hm, he, hd⟩ | h
  · refine Or.inl ⟨hall, _, _, rfl, rfl, ?_⟩
    obtain ⟨f1, f2, f3, f4, f5⟩ := feed_more A ⟨(txD L tx I).toArray⟩
    unfold allD at hm he hd
    rw [← htl] at f1 f2 f3 f4 f5
    rw [f1] at hm
    subst hm
    rw [f2] at he
    rw [f3] at hd
    refine ⟨f5, he, ?_⟩
    rw [show ((tl : Nat) : Int) + (((A.extract tl A.size ++ ⟨(txD L tx I).toArray⟩).size - heldL (A ++ ⟨(txD L tx I).toArray⟩).data.toList : Nat) : Int) = (((A ++ ⟨(txD L tx I).toArray⟩).size - heldL (A ++ ⟨(txD L tx I).toArray⟩).data.toList : Nat) : Int) by omega] at hd
    exact hd
  · exact Or.inr h

set_option maxRecDepth 20000 in
set_option maxHeartbeats 16000000 in
theorem dfeeds_walk (c : CsR) (al : Option Addr) (nl cl : Nat) (L : List (Option Addr × Nat × Nat × List Int)) (w : World) (hc : CsAt c w) (hR : RwI w al L) (hl : L.length = nl ∧ nl ≤ 9223372036854775807) :
    Calls Tryz.prog 8 #[.agg c.cells, .slice al nl cl] w fun e w' => e = .returned (.bool true) ∧ Below w.heap.size w w' := by
  obtain ⟨hll, hlm⟩ := hl
  have hlo := Wf.low_alloc w (.cells c.cells 27)
  have hbx := heap_alloc_new w (.cells c.cells 27)
  have HLO := hide hlo
  have HBX := hide hbx
  have HC := hide hc
  have HR := hide hR
  have HLL := hide hll
  have KG := hide (cgreat_any c _ (hc.kept hlo))
  clear hc hlo hR hll hlm
  have y0 := Lib.cell_of_heap hbx 0
  have y1 := Lib.cell_of_heap hbx 1
  have y2 := Lib.cell_of_heap hbx 2
  have y3 := Lib.cell_of_heap hbx 3
  clear hbx
  go_enter Tryz.func8, Tryz.ntmps8
  go_wp2_with fail
  refine (unhide KG).mono ?_
  rintro e w1 ⟨hP, hb1⟩
  have HB1 := hide (below_step HLO.out hb1)
  have HBX1 := hide ((hb1.block _ (Array.getElem?_eq_some_iff.1 HBX.out).1).trans HBX.out)
  clear hb1 KG y0 y1 y2 y3
  rcases hP with rfl | ⟨rfl, hf⟩
  · go_wp2_with fail
    refine (awake13_any _).mono ?_
    rintro e w2 ⟨rfl, hb2⟩
    have HB2 := hide (below_step HB1.out hb2)
    clear hb2
    go_wp2
    (try simp only [Exit.inBlock, Exit.then])
    refine bodyPost_ret (v := .bool true) (by simp [results, Tryz.results8, go_sem]) rfl ?_
    exact ⟨rfl, HB2.out⟩
  have HF := hide hf
  clear hf
  by_cases h20 : 20 < nl
  · have g1 : (20 : Int) < (nl : Int) := by omega
    go_wp2_with fail
    refine (awake13_any _).mono ?_
    rintro e w2 ⟨rfl, hb2⟩
    have HB2 := hide (below_step HB1.out hb2)
    clear hb2
    go_wp2
    (try simp only [Exit.inBlock, Exit.then])
    refine bodyPost_ret (v := .bool true) (by simp [results, Tryz.results8, go_sem]) rfl ?_
    exact ⟨rfl, HB2.out⟩
  have g1 : ¬ (20 : Int) < (nl : Int) := by omega
  have KA := hide (awake13_any w1)
  go_wp2_with fail
  refine (unhide KA).mono ?_
  rintro e w2 ⟨rfl, hb2⟩
  have HB2 := hide (below_step HB1.out hb2)
  have HBX2 := hide ((hb2.block _ (Array.getElem?_eq_some_iff.1 HBX1.out).1).trans HBX1.out)
  have KO := hide (cof_any c w2 (HC.out.kept HB2.out) HF.out)
  have y0 := Lib.cell_of_heap HBX2.out 0
  have y1 := Lib.cell_of_heap HBX2.out 1
  have y2 := Lib.cell_of_heap HBX2.out 2
  have y3 := Lib.cell_of_heap HBX2.out 3
  clear hb2 KA
  go_wp2_with fail
  refine (unhide KO).mono ?_
  rintro e w3 ⟨⟨s, q, z, B, vb, vm, a4, n4, c4, a5, n5, c5, a3, n3, c3, rfl, hV, hOB, hL, hq, hve, hdv⟩, hb3⟩
  obtain ⟨e1, d1, rfl⟩ := row_form hdv.rt.rb
  obtain ⟨e2, d2, rfl⟩ := row_form hdv.rt.rm
  obtain rfl : s.specials.length = n3 := hdv.rd.1
  have hla := Mk.low1 w3 (.cells #[.slice e1 (txT s).length d1, .slice e2 (mgT s).length d2, .slice a4 n4 c4, .slice a5 n5 c5, .slice a3 s.specials.length c3] 39)
  have HS : Hid (LwS w B q w3.heap.size z s (.slice e1 (txT s).length d1) (.slice e2 (mgT s).length d2) a4 n4 c4 a5 n5 c5 a3 s.specials.length c3 0 (w3.alloc (.cells #[.slice e1 (txT s).length d1, .slice e2 (mgT s).length d2, .slice a4 n4 c4, .slice a5 n5 c5, .slice a3 s.specials.length c3] 39))) := hide ⟨below_step (below_step HB2.out hb3) hla, hve.low hla, hdv.kept hla, heap_alloc_new w3 _⟩
  have HV := hide hV
  have HOB := hide hOB
  have HL := hide hL
  have HQ := hide (Nat.le_trans HB2.out.size hq)
  clear y0 y1 y2 y3 hV hOB hL hq hve hdv hb3 hla KO HB2 HBX2 HB1 HBX1
  generalize hN1 : (txT s).length = N1 at *
  generalize hN2 : (mgT s).length = N2 at *
  have HNN := hide (And.intro hN1 hN2)
  clear hN1 hN2
  go_wp2_with fail
  refine (dnew_any q _).mono ?_
  generalize w3.heap.size = qd at *
  generalize w3.alloc (.cells #[.slice e1 N1 d1, .slice e2 N2 d2, .slice a4 n4 c4, .slice a5 n5 c5, .slice a3 s.specials.length c3] 39) = W1 at *
  rintro e W2 ⟨d, rfl, hd0, hd, hb⟩
  have HW0 : Hid (LwD d w B q qd z s (.slice e1 N1 d1) (.slice e2 N2 d2) a4 n4 c4 a5 n5 c5 a3 s.specials.length c3 0 W2) := hide (LwD.low (Shd.of (P := fun u W => LwU w B q qd z s (.slice e1 N1 d1) (.slice e2 N2 d2) a4 n4 c4 a5 n5 c5 a3 s.specials.length c3 u W) HS.out.lu (Nat.le_of_eq hd0.symm)) hb)
  have HD0 := hide hd
  clear hd0 hd hb HS
  have HTX := hide (Mk.good_tx HV.out.2.1)
  go_wp2
  go_loopw [8, 9, 10] (fun a t i wr => ∃ (k : Nat) (u : Int) (A : ByteArray) (tl : Nat), a = .string A ∧ t = .int .i64 (tl : Int) ∧ i = .int .i64 (k : Int) ∧ k ≤ nl ∧ tl ≤ A.size ∧ Hid (A.size ≤ k * 6400000) ∧ Hid (0 ≤ u ∧ u ≤ k) ∧ Hid (tl = A.size - heldL A.data.toList) ∧ Hid (DecAt d (A.extract tl A.size) q tl false wr) ∧ Hid (LwD d w B q qd z s (.slice e1 N1 d1) (.slice e2 N2 d2) a4 n4 c4 a5 n5 c5 a3 s.specials.length c3 u wr)) (fun _ _ i _ => nl - (intOf i).toNat)
  case atStart => exact ⟨0, 0, ⟨#[]⟩, 0, rfl, rfl, rfl, Nat.zero_le _, Nat.zero_le _, hide (Nat.zero_le _), hide ⟨by omega, by omega⟩, hide (by decide), HD0, HW0⟩
  case round =>
    obtain ⟨k, u, A, tl, rfl, rfl, rfl, hk, htA, HAK, HU, HTL, HDC, HLW⟩ := hrel
    clear HW0 HD0
    by_cases hlt : k < nl
    · have hk0 : (0 : Int) ≤ (k : Int) := by omega
      have hk1 : (k : Int) < (nl : Int) := by omega
      have hRk := HR.out.kept (LwD.lu HLW.out).bel
      rcases hRk.at_ with h0 | ⟨b, off, rfl, hbl, hc⟩
      · have := HLL.out
        omega
      have c1 := hc k (by have := HLL.out; omega)
      have hrow := hRk.row k (by have := HLL.out; omega)
      have hrow0 := HR.out.row k (by have := HLL.out; omega)
      obtain ⟨⟨ar, nr, cr, I⟩, hg⟩ : ∃ x, gR L k = x := ⟨_, rfl⟩
      rw [hg] at c1 hrow hrow0
      simp only at c1 hrow hrow0
      have HB0 : Hid (b < w.heap.size ∧ w.cell? ⟨b, off + k, none⟩ = some (.slice ar nr cr)) := hide (by
        rcases HR.out.at_ with h0 | ⟨b', off', e, hb', hc'⟩
        · have := HLL.out
          omega
        · simp only [Option.some.injEq, Addr.mk.injEq, and_true] at e
          obtain ⟨rfl, rfl⟩ := e
          have c2 := hc' k (by have := HLL.out; omega)
          rw [hg] at c2
          exact ⟨hb', c2⟩)
      have HI0 := hide hrow0
      clear hc hbl hRk hg hrow hrow0
      by_cases h100 : 100 < nr
      · have g2 : (100 : Int) < (nr : Int) := by omega
        go_wp2
        (try simp only [Exit.inBlock, Exit.then])
        refine bodyPost_ret (v := .bool true) (by simp [results, Tryz.results8, go_sem]) rfl ?_
        exact ⟨rfl, (LwD.lu HLW.out).bel⟩
      have g2 : ¬ (100 : Int) < (nr : Int) := by omega
      have K1 := hide (dfeed_any (ci := cr) HDC.out (LwD.lu HLW.out).ve.vu HTX.out ⟨HU.out.1, by have := HU.out.2; omega⟩ HL.out (HI0.out.1.kept (LwD.lu HLW.out).bel) (off_arg HI0.out.1 HQ.out) (by omega) HI0.out.2.2 ⟨by omega, by have := HAK.out; omega⟩ (Nat.le_trans (allD_few HTX.out (tokT s) I (by rw [HI0.out.1.1]; omega) tl) (by have := HAK.out; omega)))
      go_wp2_with fail
      refine (unhide K1).mono ?_
      rintro e W4 ⟨hP, W3, u', hu1, hu2, hv, hF1, hF2⟩
      have HLW4 := hide (LwD.fed HLW.out HQ.out hv hF1 hu1 hu2 hF2)
      have HU4 : Hid (0 ≤ u' ∧ u' ≤ ((k + 1 : Nat) : Int)) := hide ⟨by have := HU.out.1; omega, by have := HU.out.2; omega⟩
      have ne : Nonempty (Wb W4) := ⟨⟨_, Below.refl _ _⟩⟩
      have g0 : ∀ x : Wb W4, x.W.cell? ⟨qd, 0, none⟩ = some (.slice e1 N1 d1) := fun x => (LwD.lu (HLW4.out.low x.h)).cells.1
      have g1' : ∀ x : Wb W4, x.W.cell? ⟨qd, 1, none⟩ = some (.slice e2 N2 d2) := fun x => (LwD.lu (HLW4.out.low x.h)).cells.2.1
      have g2' : ∀ x : Wb W4, x.W.cell? ⟨qd, 2, none⟩ = some (.slice a4 n4 c4) := fun x => (LwD.lu (HLW4.out.low x.h)).cells.2.2.1
      have g3' : ∀ x : Wb W4, x.W.cell? ⟨qd, 3, none⟩ = some (.slice a5 n5 c5) := fun x => (LwD.lu (HLW4.out.low x.h)).cells.2.2.2.1
      have g4' : ∀ x : Wb W4, x.W.cell? ⟨qd, 4, none⟩ = some (.slice a3 s.specials.length c3) := fun x => (LwD.lu (HLW4.out.low x.h)).cells.2.2.2.2
      have g5' : ∀ x : Wb W4, x.W.cell? ⟨b, off + k, none⟩ = some (.slice ar nr cr) := fun x => ((LwD.lu (HLW4.out.low x.h)).bel.cell HB0.out.1).trans HB0.out.2
      have KB : Hid (∀ x : Wb W4, Calls Tryz.prog 27 #[.agg #[.slice e1 N1 d1, .slice e2 N2 d2, .slice a4 n4 c4, .slice a5 n5 c5, .slice a3 s.specials.length c3], .slice ar nr cr] x.W fun e w' => e = .returned (.int .i64 (badF s.specials (txT s).length I)) ∧ ∃ p : Wb W4, w' = p.W) := hide (fun x => by
        have hlu := LwD.lu (HLW4.out.low x.h)
        exact (rbad_any (.slice a4 n4 c4) (.slice a5 n5 c5) (cap := c3) (ci := cr) hlu.rt hlu.rd (by have := HL.out; omega) (HI0.out.1.kept hlu.bel) (by omega)).mono fun e w' h => ⟨h.1, ⟨w', below_step x.h h.2⟩, rfl⟩)
      clear hv hF1 hF2 K1 HU HDC HLW hu1 hu2
      rcases dfp_yes HTL.out hP with ⟨hall, A2, tl2, hA2, htl2, htt, he, hd4⟩ | ⟨kb, hkb, hj, hno, he, hd4⟩
      · rw [badF_no hall] at KB
        have HALL : Hid (∀ j, j < nr → hasD s.specials (txT s).length (Mk.gI I j) = true) := hide (fun j hj => hall j (by rw [HI0.out.1.1]; exact hj))
        rw [HI0.out.1.1] at he
        subst he
        have HA2 := hide hA2
        have HTL2 := hide htl2
        have HD4 := hide hd4
        clear hall hP hd4 hA2 htl2
        have HT2 : Hid (tl ≤ tl2 ∧ tl2 ≤ A2.size) := hide ⟨htt, by have := HTL2.out; omega⟩
        have HAK5 : Hid (A2.size ≤ (k + 1) * 6400000) := hide (by
          have h1 := txD_few HTX.out (tokT s) I
          have h2 : (⟨(txD s.specials (txT s) I).toArray⟩ : ByteArray).size = (txD s.specials (txT s) I).length := by simp [ByteArray.size]
          have h3 := HI0.out.1.1
          have h4 := HAK.out
          rw [HA2.out, ByteArray.size_append, h2]
          omega)
        clear htt
        go_wp2
        refine region_v (α := Wb W4) Wc.W (by kernel_rfl) (by kernel_rfl) ⟨_, below_drw⟩ rfl ?_
        repeat (go_big_quiet_step (first | (go_at_call 27; with_reducible exact KB.out _)))
        refine wpQuiet_nil ?_
        intro W5 hw'
        have hW : Below W4.heap.size W4 W5 := by obtain ⟨p, rfl⟩ := hw'; exact p.h
        have hs5 := (HLW4.out.low hW).low below_drw
        have HD5 := hide ((HD4.out.kept hW).kept below_drw)
        have HS : Hid (LwD d w B q qd z s (.slice e1 N1 d1) (.slice e2 N2 d2) a4 n4 c4 a5 n5 c5 a3 s.specials.length c3 u' W5.drew) := hide hs5
        have HHB := HB0
        clear hw' hW KB g0 g1' g2' g3' g4' g5' ne HLW4 HD4 HAK HTL hs5
        have CI := hide (fun (W : World) (h : LwD d w B q qd z s (.slice e1 N1 d1) (.slice e2 N2 d2) a4 n4 c4 a5 n5 c5 a3 s.specials.length c3 u' W) => ritems_any (.slice a4 n4 c4) (.slice a5 n5 c5) (cap := c3) (ci := cr) h.lu.rt h.lu.rd (by have := HL.out; omega) (HI0.out.1.kept h.lu.bel) (by omega) HALL.out)
        have CR := hide (fun (W : World) (h : LwD d w B q qd z s (.slice e1 N1 d1) (.slice e2 N2 d2) a4 n4 c4 a5 n5 c5 a3 s.specials.length c3 u' W) (ao : Option Addr) (co : Nat) (hr : Mk.RdI W ao (catV s.specials (txT s) I).length (catV s.specials (txT s) I)) => Mk.rrender_any (cap := c3) (ci := co) h.lu.rd HTX.out hr (fun i hi => catV_wfD (txT s) HL.out (by
          rw [show Mk.gI (catV s.specials (txT s) I) i = (catV s.specials (txT s) I)[i] by simp [Mk.gI, hi]]
          exact List.getElem_mem hi)) (by
          have h1 := catV_fewD (tokT s) s.specials I
          have h2 := HI0.out.1.1
          omega))
        rw [show Mk.RndV (Mk.rnd (Mk.tL s.specials) (catV s.specials (txT s) I)) = .tuple #[.string ⟨(txD s.specials (txT s) I).toArray⟩, .bool (Mk.rnd (Mk.tL s.specials) (catV s.specials (txT s) I)).isSome] from rndV_eq _] at CR
        generalize (Mk.rnd (Mk.tL s.specials) (catV s.specials (txT s) I)).isSome = ok at *
        generalize (⟨(txD s.specials (txT s) I).toArray⟩ : ByteArray) = T at *
        have hcat : ¬ A.size + T.size > 9223372036854775807 := by
          have h1 := HAK5.out
          have h2 := HA2.out
          have h3 : A2.size = A.size + T.size := by rw [h2, ByteArray.size_append]
          omega
        have ya := fun (W : World) (h : LwD d w B q qd z s (.slice e1 N1 d1) (.slice e2 N2 d2) a4 n4 c4 a5 n5 c5 a3 s.specials.length c3 u' W) => (h.lu.bel.cell HB0.out.1).trans HB0.out.2
        have YA := hide ya
        have y5 := ya _ HS.out
        clear ya
        obtain ⟨y0, y1, y2, y3, y4⟩ := HS.out.lu.cells
        go_wp2
        go_region_held3 (fun W => W.cell? ⟨qd, 0, none⟩ = some (.slice e1 N1 d1) ∧ W.cell? ⟨qd, 1, none⟩ = some (.slice e2 N2 d2) ∧ W.cell? ⟨qd, 2, none⟩ = some (.slice a4 n4 c4) ∧ W.cell? ⟨qd, 3, none⟩ = some (.slice a5 n5 c5) ∧ W.cell? ⟨qd, 4, none⟩ = some (.slice a3 s.specials.length c3) ∧ W.cell? ⟨b, off + k, none⟩ = some (.slice ar nr cr)) (first | exact ⟨y0, y1, y2, y3, y4, y5⟩ | go_keep) (first
          | (go_at_call 29; refine (CI.out _ HS.out).mono ?_; rintro e W5 ⟨⟨ao, co, rfl, hr⟩, hb⟩; have HS := hide (HS.out.low hb); have HD5 := hide (HD5.out.kept hb); obtain ⟨y0, y1, y2, y3, y4⟩ := HS.out.lu.cells; have y5 := YA.out _ HS.out; have HRY := hide hr)
          | (go_at_call 28; refine (CR.out _ HS.out _ _ (Mk.RdI.of_row HRY.out)).mono ?_; rintro e W5 ⟨rfl, hb⟩; have HS := hide (HS.out.low hb); have HD5 := hide (HD5.out.kept hb); obtain ⟨y0, y1, y2, y3, y4⟩ := HS.out.lu.cells; have y5 := YA.out _ HS.out)
          | fail)
        all_goals
          have HLW5 := HS
          have HA2E := hide (HA2.out.symm)
          have HA2S : Hid (A2.size ≤ 1000000000) := hide (by have := HAK5.out; omega)
          clear CI CR HS y0 y1 y2 y3 y4 HA2
          go_wp2_with fail
          rw [HA2E.out]
          refine (held_same A2 _ (by have := HA2S.out; omega)).mono ?_
          rintro e W6 ⟨rfl, hw6⟩
          obtain rfl := hw6.symm
          clear hw6 hcat
          have htl2 := HTL2.out
          have hm : heldL A2.data.toList ≤ A2.size := by
            have := heldL_len A2.data.toList
            simpa using this
          have K4 := hide (dheldN_any HD5.out)
          have hex : (A2.extract tl2 A2.size).size = heldL A2.data.toList := by
            rw [ByteArray.size_extract]
            omega
          rw [hex] at K4
          have HTLQ := HTL2
          clear hex
          generalize heldL A2.data.toList = m at htl2 hm K4 ⊢
          have hw1 : IntKind.i64.wrap ((A2.size : Int) - (m : Int)) = (tl2 : Int) := by have := HA2S.out; rw [IntKind.wrap_i64]; omega
          have h01 : (0 : Int) ≤ (tl : Int) := by omega
          have h02 : (tl : Int) ≤ (tl2 : Int) := by have := HT2.out.1; omega
          have h03 : (tl2 : Int) ≤ (A2.size : Int) := by have := HT2.out.2; omega
          have K5 := hide (dbytesN_any HD5.out)
          clear htl2 hm HA2E HA2S
          go_wp2_with fail
          refine (unhide K4).mono ?_
          rintro e W6 ⟨rfl, hw6⟩
          obtain rfl := hw6.symm
          clear hw6 K4
          go_wp2_with fail
          refine (unhide K5).mono ?_
          rintro e W6 ⟨rfl, hw6⟩
          obtain rfl := hw6.symm
          clear hw6 K5
          have HTA2 := HT2.out.2
          go_wp2
          first
            | exact ⟨⟨k + 1, u', A2, tl2, rfl, rfl, by go_num, by omega, HTA2, HAK5, HU4, HTLQ, HD5, HLW5⟩, by simp [intOf]; omega⟩
            | (go_roundw
               case rel => exact ⟨k + 1, u', A2, tl2, rfl, rfl, by go_num, by omega, HTA2, HAK5, HU4, HTLQ, HD5, HLW5⟩
               case measure => simp [intOf]; omega)
      · rw [badF_at hkb hj hno] at KB
        subst he
        have HD4 := hide hd4
        have hkb0 : (0 : Int) ≤ (kb : Int) := by omega
        have HAK5 : Hid (A.size ≤ (k + 1) * 6400000) := hide (Nat.le_trans HAK.out (Nat.mul_le_mul_right _ (Nat.le_succ k)))
        clear hkb hj hno hP hd4
        go_wp2
        refine region_v (α := Wb W4) Wc.W (by kernel_rfl) (by kernel_rfl) ⟨_, below_drw⟩ rfl ?_
        repeat (go_big_quiet_step (first | (go_at_call 27; with_reducible exact KB.out _)))
        refine wpQuiet_nil ?_
        intro W5 hw'
        have hW : Below W4.heap.size W4 W5 := by obtain ⟨p, rfl⟩ := hw'; exact p.h
        have HLW5 := hide (HLW4.out.low hW)
        have HD5 := hide (HD4.out.kept hW)
        clear hw' hW KB g0 g1' g2' g3' g4' g5' ne HLW4 HD4
        go_wp2
        first
          | exact ⟨⟨k + 1, u', A, tl, rfl, rfl, by go_num, by omega, htA, HAK5, HU4, HTL, HD5, HLW5⟩, by simp [intOf]; omega⟩
          | (go_roundw
             case rel => exact ⟨k + 1, u', A, tl, rfl, rfl, by go_num, by omega, htA, HAK5, HU4, HTL, HD5, HLW5⟩
             case measure => simp [intOf]; omega)
    · obtain rfl : k = nl := by omega
      have hex : (A.extract tl A.size).size = A.size - tl := by
        rw [ByteArray.size_extract]
        omega
      have K1 := dclose_any HDC.out ⟨by omega, by have := HAK.out; omega⟩ (by rw [hex]; have := HAK.out; omega)
      rw [hex, show (tl : Int) + ((A.size - tl : Nat) : Int) = (A.size : Int) by omega] at K1
      replace K1 := hide K1
      have hta : (tl : Int) ≤ (A.size : Int) := by omega
      have hta0 : (0 : Int) ≤ (tl : Int) := by omega
      have HS0 : Hid (A.size ≤ 1000000000) := hide (by have := HAK.out; omega)
      clear hex HTL HAK HU HR
      go_wp2_with fail
      refine (unhide K1).mono ?_
      rintro e W4 ⟨rfl, hd4, hF4⟩
      have HLW4 := hide (LwD.frd HLW.out hF4)
      have hla := Mk.low1 W4 (.cells #[.int .i64 97] 3)
      have HLW5 := hide (HLW4.out.low hla)
      have hd5 := hd4.kept hla
      have K2 := hide (dfeed_closed (ai := some ⟨W4.heap.size, 0, none⟩) (ni := 1) (ci := 1) hd5)
      have K3 := dclose_any hd5 ⟨by omega, by have := HS0.out; omega⟩ (by decide)
      rw [show ((⟨#[]⟩ : ByteArray).size : Int) = 0 from rfl, Int.add_zero] at K3
      replace K3 := hide K3
      clear hd4 hF4 K1 HLW HDC hla hd5 HLW4
      go_wp2_with fail
      refine (unhide K2).mono ?_
      generalize W4.alloc (.cells #[.int .i64 97] 3) = W5 at *
      rintro e W6 ⟨rfl, hw6⟩
      obtain rfl := hw6.symm
      clear hw6 K2
      go_wp2_with fail
      refine (unhide K3).mono ?_
      rintro e W7 ⟨rfl, hd7, hF7⟩
      have HLW7 := hide (LwD.frd HLW5.out hF7)
      have K4 := hide (dbytesN_any hd7)
      have K5 := dheldN_any hd7
      rw [show ((⟨#[]⟩ : ByteArray).size : Int) = 0 from rfl] at K5
      replace K5 := hide K5
      clear hd7 hF7 K3 HLW5
      go_wp2_with fail
      refine (unhide K4).mono ?_
      rintro e W8 ⟨rfl, hw6⟩
      obtain rfl := hw6.symm
      clear hw6 K4
      go_wp2_with fail
      refine (unhide K5).mono ?_
      rintro e W8 ⟨rfl, hw6⟩
      obtain rfl := hw6.symm
      clear hw6 K5
      go_wp2
      go_ret
      exact ⟨rfl, (LwD.lu HLW7.out).bel⟩
end Go.Proofs.YtfjcfkkcdbojlaaGreat
