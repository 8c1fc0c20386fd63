/- EncodeItems: the walk. EncodeTexts: the walk. Made by mkej.py. EncodeTexts: the walk. Made by mkej.py. -/
import Derived.Test.YtfjcfkkcdbojlaaGreatQa40
import Derived.Test.YtfjcfkkcdbojlaaGreatQb3
import Derived.Deep.RegionHeld3
namespace Go.Proofs.YtfjcfkkcdbojlaaGreat
open Go.RowKit Go.Maps
set_option linter.unusedVariables false
set_option linter.unusedSimpArgs false

/-- Where a law stands: the vocabulary, and the document's in a box. -/
structure LwS (w : World) (B q qd : Nat) (z : VV) (s : Wf.Sp) (vb vm : Value) (a4 : Option Addr) (n4 c4 : Nat) (a5 : Option Addr) (n5 c5 : Nat) (a3 : Option Addr) (n3 c3 : Nat) (u : Int) (W : World) : Prop where
  bel : Below w.heap.size w W
  ve : Ve B q z s u W
  dv : DvP s vb vm a4 n4 a5 n5 a3 n3 W
  box : W.heap[qd]? = some (.cells #[vb, vm, .slice a4 n4 c4, .slice a5 n5 c5, .slice a3 n3 c3] 39 (0, 0))
section
variable {w W W' : World} {B q qd : Nat} {z : VV} {s : Wf.Sp} {vb vm : Value} {a4 a5 a3 : Option Addr} {n4 c4 n5 c5 n3 c3 : Nat} {u u' : Int}
theorem LwS.low (h : LwS w B q qd z s vb vm a4 n4 c4 a5 n5 c5 a3 n3 c3 u W) (hb : Below W.heap.size W W') : LwS w B q qd z s vb vm a4 n4 c4 a5 n5 c5 a3 n3 c3 u W' :=
  ⟨below_step h.bel hb, h.ve.low hb, h.dv.kept hb, by rw [hb.block _ (Array.getElem?_eq_some_iff.1 h.box).1]; exact h.box⟩
theorem LwS.cells (h : LwS w B q qd z s vb vm a4 n4 c4 a5 n5 c5 a3 n3 c3 u W) : W.cell? ⟨qd, 0, none⟩ = some vb ∧ W.cell? ⟨qd, 1, none⟩ = some vm ∧ W.cell? ⟨qd, 2, none⟩ = some (.slice a4 n4 c4) ∧ W.cell? ⟨qd, 3, none⟩ = some (.slice a5 n5 c5) ∧ W.cell? ⟨qd, 4, none⟩ = some (.slice a3 n3 c3) :=
  ⟨Lib.cell_of_heap h.box 0, Lib.cell_of_heap h.box 1, Lib.cell_of_heap h.box 2, Lib.cell_of_heap h.box 3, Lib.cell_of_heap h.box 4⟩
end
/-- The document's Encode. -/
theorem renc_any {s : Wf.Sp} {vb vm : Value} {a4 a5 a3 : Option Addr} {n4 c4 n5 c5 n3 c3 : Nat} {W : World} (h : DvP s vb vm a4 n4 a5 n5 a3 n3 W) {ai : Option Addr} {ni ci : Nat} {I : List Int} (hI : Mk.RdI W ai ni I) (hni : ni ≤ 50000) (hok : ∀ j, j < ni → okE s.specials (Mk.gI I j)) :
    Calls Tryz.prog 15 #[.agg #[vb, vm, .slice a4 n4 c4, .slice a5 n5 c5, .slice a3 n3 c3], .slice ai ni ci] W fun e w' => (∃ a2 c2, e = .returned (.slice a2 (enS s I).length c2) ∧ EnR W.heap.size (.slice a2 (enS s I).length c2) (enS s I) w') ∧ Below W.heap.size W w' := by
  have K := rencode10_any (ci := ci) (c4 := c4) (c5 := c5) (cap := c3) h.rt (tokT s) h.rc h.rj h.rd hI (by have := h.l4; omega) (by have := h.l5; omega) (by have := h.l3; omega) hni hok
  have e := encF_eq (cuE s) (mgT s) (tE s) s.specials I [] (fun x hx => by
    obtain ⟨j, hj, rfl⟩ := List.mem_iff_getElem.1 hx
    have := (hok j (by rw [← hI.1]; exact hj)).1
    simpa [Mk.gI, hj] using this)
  rw [e] at K
  simp only [itE, List.map_nil, List.nil_append] at K
  exact K
/-- Pieces of items that aren't right. -/
theorem epieces_bad {B q : Nat} {z : VV} {s : Wf.Sp} {u : Int} {w : World} (h : Ve B q z s u w) (hl : s.specials.length ≤ 1000) {ai : Option Addr} {ni ci : Nat} {I : List Int} (hI : Mk.RdI w ai ni I) (hni : ni ≤ 1000000000) (hw : ∀ j, j < ni → Mk.wfI (Mk.gI I j)) (hbad : ¬ ∀ j, j < I.length → okE s.specials (Mk.gI I j)) :
    Calls Tryz.prog 13 #[.pointer (some ⟨q, 0, none⟩), .slice ai ni ci] w fun e w' => e = .returned (.slice none 0 0) ∧ Below w.heap.size w w' := by
  have K := hide (right_any (ci := ci) h hl hI hni hw)
  have HBD := hide hbad
  clear h hl hI hni hw hbad
  refine (callsIn_wide (n := 10)).1 ?_
  refine callsIn_of_wp Tryz.func13 rfl trivial ?_ rfl
  simp only [Tryz.ntmps13, List.size_toArray, List.length_cons, List.length_nil, Nat.reduceAdd, Nat.reduceSub, Array.replicate_succ, Array.replicate_zero, List.push_toArray, List.append_toArray, List.nil_append, List.cons_append]
  gi_wp2_with fail
  refine ⟨trivial, (callsIn_wide.2 (unhide K)).mono ?_⟩
  rintro e w1 ⟨⟨b, rfl, hb1⟩, hb⟩
  cases b with
  | true => exact absurd (hb1.1 rfl) HBD.out
  | false =>
    have HB := hide hb
    clear hb K hb1
    gi_wp2
    (try simp only [Exit.inBlock, Exit.then])
    refine bodyPost_ret (v := .slice none 0 0) (by simp [results, Tryz.results13, go_sem]) rfl ?_
    exact ⟨rfl, HB.out⟩

set_option maxRecDepth 20000 in
set_option maxHeartbeats 16000000 in
theorem eitems_walk (c : CsR) (ai : Option Addr) (ni ci : Nat) (I : List Int) (w : World) (hc : CsAt c w) (hI : Mk.RdI w ai ni I) (hni : ni ≤ 9223372036854775807) (hwI : ∀ i, i < ni → Mk.wfI (Mk.gI I i)) (hci : ni ≤ ci) :
    Calls Tryz.prog 3 #[.agg c.cells, .slice ai ni ci] w fun e w' => e = .returned (.bool true) ∧ Below w.heap.size w w' := by
  have hlo := Wf.low_alloc w (.cells c.cells 27)
  have hbx := heap_alloc_new w (.cells c.cells 27)
  have HLO := hide hlo
  have HBX := hide hbx
  have HC := hide hc
  have HI := hide hI
  have HWI := hide hwI
  have HCI := hide hci
  have KG := hide (cgreat_any c _ (hc.kept hlo))
  clear hc hI hwI hci hlo
  have y0 := Lib.cell_of_heap hbx 0
  have y1 := Lib.cell_of_heap hbx 1
  have y2 := Lib.cell_of_heap hbx 2
  have y3 := Lib.cell_of_heap hbx 3
  clear hbx
  go_enter Tryz.func3, Tryz.ntmps3
  go_wp2_with fail
  refine (unhide KG).mono ?_
  rintro e w1 ⟨hP, hb1⟩
  have HB1 := hide (below_step HLO.out hb1)
  have HBX1 := hide ((hb1.block _ (Array.getElem?_eq_some_iff.1 HBX.out).1).trans HBX.out)
  clear hb1 KG y0 y1 y2 y3
  rcases hP with rfl | ⟨rfl, hf⟩
  · go_wp2_with fail
    refine (awake12_any _).mono ?_
    rintro e w2 ⟨rfl, hb2⟩
    have HB2 := hide (below_step HB1.out hb2)
    clear hb2
    go_wp2
    (try simp only [Exit.inBlock, Exit.then])
    refine bodyPost_ret (v := .bool true) (by simp [results, Tryz.results3, go_sem]) rfl ?_
    exact ⟨rfl, HB2.out⟩
  by_cases hmid : 200 < ni ∧ ni ≤ 4000
  · have g1 : (200 : Int) < (ni : Int) := by omega
    have g2 : (ni : Int) ≤ 4000 := by omega
    go_wp2_with fail
    refine (awake12_any _).mono ?_
    rintro e w2 ⟨rfl, hb2⟩
    have HB2 := hide (below_step HB1.out hb2)
    clear hb2
    go_wp2
    (try simp only [Exit.inBlock, Exit.then])
    refine bodyPost_ret (v := .bool true) (by simp [results, Tryz.results3, go_sem]) rfl ?_
    exact ⟨rfl, HB2.out⟩
  have HF := hide hf
  have HMID := hide hmid
  clear hf hmid
  have KA := hide (awake12_any w1)
  by_cases h200 : 200 < ni
  · have g1 : (200 : Int) < (ni : Int) := by omega
    have g2 : (4000 : Int) < (ni : Int) := by have := HMID.out; omega
    have g3 : decide ((ni : Int) ≤ 4000) = false := decide_eq_false (by omega)
    go_wp2_with fail
    refine (unhide KA).mono ?_
    rintro e w2 ⟨rfl, hb2⟩
    have HB2 := hide (below_step HB1.out hb2)
    have HBX2 := hide ((hb2.block _ (Array.getElem?_eq_some_iff.1 HBX1.out).1).trans HBX1.out)
    have KO := hide (cof_any c w2 (HC.out.kept HB2.out) HF.out)
    have y0 := Lib.cell_of_heap HBX2.out 0
    have y1 := Lib.cell_of_heap HBX2.out 1
    have y2 := Lib.cell_of_heap HBX2.out 2
    have y3 := Lib.cell_of_heap HBX2.out 3
    clear hb2 KA
    go_wp2_with fail
    refine (unhide KO).mono ?_
    rintro e w3 ⟨⟨s, q, z, B, vb, vm, a4, n4, c4, a5, n5, c5, a3, n3, c3, rfl, hV, hOB, hL, hq, hve, hdv⟩, hb3⟩
    obtain ⟨e1, d1, rfl⟩ := row_form hdv.rt.rb
    obtain ⟨e2, d2, rfl⟩ := row_form hdv.rt.rm
    have hla := Mk.low1 w3 (.cells #[.slice e1 (txT s).length d1, .slice e2 (mgT s).length d2, .slice a4 n4 c4, .slice a5 n5 c5, .slice a3 n3 c3] 39)
    have HS : Hid (LwS w B q w3.heap.size z s (.slice e1 (txT s).length d1) (.slice e2 (mgT s).length d2) a4 n4 c4 a5 n5 c5 a3 n3 c3 0 (w3.alloc (.cells #[.slice e1 (txT s).length d1, .slice e2 (mgT s).length d2, .slice a4 n4 c4, .slice a5 n5 c5, .slice a3 n3 c3] 39))) := hide ⟨below_step (below_step HB2.out hb3) hla, hve.low hla, hdv.kept hla, heap_alloc_new w3 _⟩
    have HV := hide hV
    have HOB := hide hOB
    have HL := hide hL
    have HQ := hide (Nat.le_trans HB2.out.size hq)
    have HN3 := hide hdv.rd.1
    have KI := hide (eitems_any (ci := ci) HS.out.ve hOB hV hL (HI.out.kept HS.out.bel) HCI.out hni HWI.out)
    clear y0 y1 y2 y3 hV hOB hL hq hve hdv hb3 hla KO HB2 HBX2 HB1 HBX1
    generalize hN1 : (txT s).length = N1 at *
    generalize hN2 : (mgT s).length = N2 at *
    have HNN := hide (And.intro hN1 hN2)
    clear hN1 hN2
    go_wp2_with fail
    refine (unhide KI).mono ?_
    generalize w3.heap.size = qd at *
    generalize w3.alloc (.cells #[.slice e1 N1 d1, .slice e2 N2 d2, .slice a4 n4 c4, .slice a5 n5 c5, .slice a3 n3 c3] 39) = W1 at *
    rintro e W2 ⟨hP, hb⟩
    have HS2 := hide (HS.out.low hb)
    clear hb KI
    rcases hP with ⟨_, rfl⟩ | ⟨h1, _⟩ | ⟨h1, _⟩
    · go_wp2
      (try simp only [Exit.inBlock, Exit.then])
      refine bodyPost_ret (v := .bool true) (by simp [results, Tryz.results3, go_sem]) rfl ?_
      exact ⟨rfl, HS2.out.bel⟩
    · have := HI.out.1
      omega
    · have := HI.out.1
      omega
  · have g1 : (ni : Int) ≤ 200 := by omega
    have g2 : (ni : Int) ≤ 4000 := by omega
    go_wp2_with fail
    refine (unhide KA).mono ?_
    rintro e w2 ⟨rfl, hb2⟩
    have HB2 := hide (below_step HB1.out hb2)
    have HBX2 := hide ((hb2.block _ (Array.getElem?_eq_some_iff.1 HBX1.out).1).trans HBX1.out)
    have KO := hide (cof_any c w2 (HC.out.kept HB2.out) HF.out)
    have y0 := Lib.cell_of_heap HBX2.out 0
    have y1 := Lib.cell_of_heap HBX2.out 1
    have y2 := Lib.cell_of_heap HBX2.out 2
    have y3 := Lib.cell_of_heap HBX2.out 3
    clear hb2 KA
    go_wp2_with fail
    refine (unhide KO).mono ?_
    rintro e w3 ⟨⟨s, q, z, B, vb, vm, a4, n4, c4, a5, n5, c5, a3, n3, c3, rfl, hV, hOB, hL, hq, hve, hdv⟩, hb3⟩
    obtain ⟨e1, d1, rfl⟩ := row_form hdv.rt.rb
    obtain ⟨e2, d2, rfl⟩ := row_form hdv.rt.rm
    have hla := Mk.low1 w3 (.cells #[.slice e1 (txT s).length d1, .slice e2 (mgT s).length d2, .slice a4 n4 c4, .slice a5 n5 c5, .slice a3 n3 c3] 39)
    have HS : Hid (LwS w B q w3.heap.size z s (.slice e1 (txT s).length d1) (.slice e2 (mgT s).length d2) a4 n4 c4 a5 n5 c5 a3 n3 c3 0 (w3.alloc (.cells #[.slice e1 (txT s).length d1, .slice e2 (mgT s).length d2, .slice a4 n4 c4, .slice a5 n5 c5, .slice a3 n3 c3] 39))) := hide ⟨below_step (below_step HB2.out hb3) hla, hve.low hla, hdv.kept hla, heap_alloc_new w3 _⟩
    have HV := hide hV
    have HOB := hide hOB
    have HL := hide hL
    have HQ := hide (Nat.le_trans HB2.out.size hq)
    have HN3 := hide hdv.rd.1
    have KI := hide (eitems_any (ci := ci) HS.out.ve hOB hV hL (HI.out.kept HS.out.bel) HCI.out hni HWI.out)
    clear y0 y1 y2 y3 hV hOB hL hq hve hdv hb3 hla KO HB2 HBX2 HB1 HBX1
    generalize hN1 : (txT s).length = N1 at *
    generalize hN2 : (mgT s).length = N2 at *
    have HNN := hide (And.intro hN1 hN2)
    clear hN1 hN2
    go_wp2_with fail
    refine (unhide KI).mono ?_
    generalize w3.heap.size = qd at *
    generalize w3.alloc (.cells #[.slice e1 N1 d1, .slice e2 N2 d2, .slice a4 n4 c4, .slice a5 n5 c5, .slice a3 n3 c3] 39) = W1 at *
    rintro e W2 ⟨hP, hb⟩
    have HS2 := hide (HS.out.low hb)
    clear hb KI
    rcases hP with ⟨h1, _⟩ | ⟨_, kb, h0, h1, h2, rfl⟩ | ⟨_, hok, ao, cap, he, hrow⟩
    · have := HI.out.1
      omega
    · have hkn : kb < ni := by have := HI.out.1; omega
      have HOKJ := hide h1
      have HXB := hide h2
      have HBAD : Hid (¬ ∀ j, j < I.length → okE s.specials (Mk.gI I j)) := hide (fun e => h2 (e kb h0))
      clear h0 h1 h2
      go_wp2
      go_loopw [10] (fun i wr => ∃ k : Nat, i = .int .i64 (k : Int) ∧ k ≤ kb ∧ Hid (Below W2.heap.size W2 wr)) (fun i _ => ni - (intOf i).toNat)
      case atStart => exact ⟨0, rfl, Nat.zero_le _, hide (Below.refl _ _)⟩
      case round =>
        obtain ⟨k, rfl, hk, HB⟩ := hrel
        have hlt : k < ni := by omega
        have hk0 : (0 : Int) ≤ (k : Int) := by omega
        have hk1 : (k : Int) < (ni : Int) := by omega
        have HSR := hide (HS2.out.low HB.out)
        rcases (HI.out.kept HSR.out.bel).2 with h0 | ⟨b, off, rfl, hbl, hc⟩
        · omega
        have x0 : ∀ d : Wb wr, d.W.cell? ⟨b, off + k, none⟩ = some (.int .i64 (Mk.gI I k)) := fun d => (d.h.cell (p := ⟨b, off + k, none⟩) hbl).trans (hc k hlt)
        have y4 : ∀ d : Wb wr, d.W.cell? ⟨qd, 4, none⟩ = some (.slice a3 n3 c3) := fun d => (HSR.out.low d.h).cells.2.2.2.2
        have y2 : ∀ d : Wb wr, d.W.cell? ⟨qd, 2, none⟩ = some (.slice a4 n4 c4) := fun d => (HSR.out.low d.h).cells.2.2.1
        have hwn : IntKind.i64.wrap (-(n3 : Int)) = -(n3 : Int) := by have := HN3.out; have := HL.out; rw [IntKind.wrap_i64]; omega
        have ne : Nonempty (Wb wr) := ⟨⟨_, Below.refl _ _⟩⟩
        by_cases hkb : k < kb
        · have hkb2 : k + 1 ≤ kb := by omega
          have hxo := HOKJ.out k hkb
          have hd1 : decide ((255 : Int) < Mk.gI I k) = false := decide_eq_false (by have := hxo.1; omega)
          have hd2 : decide (Mk.gI I k < -(n3 : Int)) = false := decide_eq_false (by have h1 := hxo.2; have h2 := HN3.out; rw [h2] at h1; omega)
          clear hc hbl hxo
          generalize Mk.gI I k = x at *
          go_wp2
          refine region_v (α := Wb wr) Wc.W (by kernel_rfl) (by kernel_rfl) ⟨_, below_drw⟩ rfl ?_
          repeat (go_big_quiet_step (fail))
          refine wpQuiet_nil ?_
          intro W9 hw'
          have hW : Below wr.heap.size wr W9 := by obtain ⟨p, rfl⟩ := hw'; exact p.h
          have HB9 := hide (below_step HB.out hW)
          clear hW hw' x0 y4 y2 ne hd1 hd2 hwn HB HSR
          go_wp2
          first
            | exact ⟨⟨k + 1, by go_num, by omega, HB9⟩, by simp [intOf]; omega⟩
            | (go_roundw
               case rel => exact ⟨k + 1, by go_num, by omega, HB9⟩
               case measure => simp [intOf]; omega)
        · obtain rfl : k = kb := by omega
          have KP := hide (fun (W : World) (hb : Below wr.heap.size wr W) => epieces_bad (ci := ci) (HSR.out.low hb).ve HL.out (HI.out.kept (HSR.out.low hb).bel) (by omega) HWI.out HBAD.out)
          have HB0 := hide HSR.out.bel
          have hxb := HXB.out
          clear hc hbl HSR
          by_cases hx : 255 < Mk.gI I k
          · have hd1 : decide ((255 : Int) < Mk.gI I k) = true := decide_eq_true hx
            clear hxb hx
            generalize Mk.gI I k = x at *
            go_wp2
            refine region_v (α := Wb wr) Wc.W (by kernel_rfl) (by kernel_rfl) ⟨_, below_drw⟩ rfl ?_
            repeat (go_big_quiet_step (fail))
            refine wpQuiet_nil ?_
            intro W9 hw'
            have hW : Below wr.heap.size wr W9 := by obtain ⟨p, rfl⟩ := hw'; exact p.h
            have HB9 := hide (below_step HB0.out hW)
            have K := hide (KP.out W9 hW)
            clear hW hw' x0 y4 y2 ne hd1 hwn HB0 KP HB
            go_wp2_with fail
            refine (unhide K).mono ?_
            rintro e W10 ⟨rfl, hb⟩
            have HB10 := hide (below_step HB9.out hb)
            clear hb K HB9
            go_wp2
            (try simp only [Exit.inBlock, Exit.then])
            refine bodyPost_ret (v := .bool true) (by simp [results, Tryz.results3, go_sem]) rfl ?_
            exact ⟨rfl, HB10.out⟩
          · have hd1 : decide ((255 : Int) < Mk.gI I k) = false := decide_eq_false hx
            have hd2 : decide (Mk.gI I k < -(n3 : Int)) = true := decide_eq_true (by
              have h2 := HN3.out
              unfold okE at hxb
              rw [h2] at hxb
              omega)
            clear hxb hx
            generalize Mk.gI I k = x at *
            go_wp2
            refine region_v (α := Wb wr) Wc.W (by kernel_rfl) (by kernel_rfl) ⟨_, below_drw⟩ rfl ?_
            repeat (go_big_quiet_step (fail))
            refine wpQuiet_nil ?_
            intro W9 hw'
            have hW : Below wr.heap.size wr W9 := by obtain ⟨p, rfl⟩ := hw'; exact p.h
            have HB9 := hide (below_step HB0.out hW)
            have K := hide (KP.out W9 hW)
            clear hW hw' x0 y4 y2 ne hd1 hd2 hwn HB0 KP HB
            go_wp2_with fail
            refine (unhide K).mono ?_
            rintro e W10 ⟨rfl, hb⟩
            have HB10 := hide (below_step HB9.out hb)
            clear hb K HB9
            go_wp2
            (try simp only [Exit.inBlock, Exit.then])
            refine bodyPost_ret (v := .bool true) (by simp [results, Tryz.results3, go_sem]) rfl ?_
            exact ⟨rfl, HB10.out⟩
    · rw [HI.out.1] at he
      subst he
      have HOKJ := hide hok
      have HRW := hide hrow
      clear hok hrow
      go_wp2
      go_loopw [10] (fun i wr => ∃ k : Nat, i = .int .i64 (k : Int) ∧ k ≤ ni ∧ Hid (Below W2.heap.size W2 wr)) (fun i _ => ni - (intOf i).toNat)
      case atStart => exact ⟨0, rfl, Nat.zero_le _, hide (Below.refl _ _)⟩
      case round =>
        obtain ⟨k, rfl, hk, HB⟩ := hrel
        by_cases hlt : k < ni
        · have hk0 : (0 : Int) ≤ (k : Int) := by omega
          have hk1 : (k : Int) < (ni : Int) := by omega
          have HSR := hide (HS2.out.low HB.out)
          rcases (HI.out.kept HSR.out.bel).2 with h0 | ⟨b, off, rfl, hbl, hc⟩
          · omega
          have x0 : ∀ d : Wb wr, d.W.cell? ⟨b, off + k, none⟩ = some (.int .i64 (Mk.gI I k)) := fun d => (d.h.cell (p := ⟨b, off + k, none⟩) hbl).trans (hc k hlt)
          have y4 : ∀ d : Wb wr, d.W.cell? ⟨qd, 4, none⟩ = some (.slice a3 n3 c3) := fun d => (HSR.out.low d.h).cells.2.2.2.2
          have y2 : ∀ d : Wb wr, d.W.cell? ⟨qd, 2, none⟩ = some (.slice a4 n4 c4) := fun d => (HSR.out.low d.h).cells.2.2.1
          have hwn : IntKind.i64.wrap (-(n3 : Int)) = -(n3 : Int) := by have := HN3.out; have := HL.out; rw [IntKind.wrap_i64]; omega
          have ne : Nonempty (Wb wr) := ⟨⟨_, Below.refl _ _⟩⟩
          have hxo := HOKJ.out k (by rw [HI.out.1]; exact hlt)
          have hd1 : decide ((255 : Int) < Mk.gI I k) = false := decide_eq_false (by have := hxo.1; omega)
          have hd2 : decide (Mk.gI I k < -(n3 : Int)) = false := decide_eq_false (by have h1 := hxo.2; have h2 := HN3.out; rw [h2] at h1; omega)
          clear hc hbl hxo
          generalize Mk.gI I k = x at *
          go_wp2
          refine region_v (α := Wb wr) Wc.W (by kernel_rfl) (by kernel_rfl) ⟨_, below_drw⟩ rfl ?_
          repeat (go_big_quiet_step (fail))
          refine wpQuiet_nil ?_
          intro W9 hw'
          have hW : Below wr.heap.size wr W9 := by obtain ⟨p, rfl⟩ := hw'; exact p.h
          have HB9 := hide (below_step HB.out hW)
          clear hW hw' x0 y4 y2 ne hd1 hd2 hwn HB HSR
          go_wp2
          first
            | exact ⟨⟨k + 1, by go_num, by omega, HB9⟩, by simp [intOf]; omega⟩
            | (go_roundw
               case rel => exact ⟨k + 1, by go_num, by omega, HB9⟩
               case measure => simp [intOf]; omega)
        · obtain rfl : ni = k := by omega
          have HSR := hide (HS2.out.low HB.out)
          have HRR := hide (row_keptB HRW.out HB.out)
          have HIL := hide HI.out.1
          have KE := hide (renc_any (ci := ci) (c4 := c4) (c5 := c5) (c3 := c3) HSR.out.dv (HI.out.kept HSR.out.bel) (by omega) (fun j hj => HOKJ.out j (by rw [HI.out.1]; exact hj)))
          have KM := hide (fun (W : World) (hb : Below wr.heap.size wr W) => emade_any (ci := ci) (HSR.out.low hb).ve HOB.out HV.out HL.out (HI.out.kept (HSR.out.low hb).bel) HCI.out (by omega) HWI.out HOKJ.out)
          have HLE : Hid ((enS s I).length ≤ 1000000) := hide (by
            have h1 : (enS s I).length ≤ I.length := encG_len (q := cuE s) (mgT s) (tE s) s.specials I
            have h2 := HI.out.1
            omega)
          obtain ⟨g0, g1', g2', g3', g4'⟩ := HSR.out.cells
          have HB0 := hide HSR.out.bel
          clear HSR HB HRW HOKJ
          generalize enS s I = A at *
          go_wp2_with fail
          refine (unhide KE).mono ?_
          rintro e W3 ⟨⟨a2, c2, rfl, hr2⟩, hb⟩
          have KI := hide (Mk.ints_same W3 _ _ (.slice ao A.length cap) (.slice a2 A.length c2) A (row_keptB HRR.out hb) hr2 HLE.out)
          have HR3 := hide (row_keptB HRR.out hb)
          have HB3 := hide hb
          clear hb hr2 KE HRR g0 g1' g2' g3' g4'
          go_wp2_with fail
          refine (unhide KI).mono ?_
          rintro e W4 ⟨rfl, hb⟩
          have HR4 := hide (row_keptB HR3.out hb)
          have hb4 := below_step HB3.out hb
          have HB4 := hide hb4
          have K := hide (KM.out W4 hb4)
          clear hb hb4 KI KM HR3 HB3
          go_wp2_with fail
          refine (unhide K).mono ?_
          rintro e W5 ⟨⟨v, rfl, hr5⟩, hb⟩
          obtain ⟨a5', c5', rfl⟩ := Mk.row_form hr5
          have KI := hide (Mk.ints_same W5 _ _ (.slice a5' A.length c5') (.slice ao A.length cap) A hr5 (row_keptB HR4.out hb) HLE.out)
          have HB5 := hide (below_step HB4.out hb)
          clear hb hr5 K HR4 HB4
          go_wp2_with fail
          refine (unhide KI).mono ?_
          rintro e W6 ⟨rfl, hb⟩
          have HB6 := hide (below_step HB0.out (below_step HB5.out hb))
          clear hb KI HB5
          go_wp2
          (try simp only [Exit.inBlock, Exit.then])
          first
            | (go_ret
               exact ⟨rfl, HB6.out⟩)
            | (refine bodyPost_ret (v := .bool true) (by simp [results, Tryz.results3, go_sem]) rfl ?_
               exact ⟨rfl, HB6.out⟩)
end Go.Proofs.YtfjcfkkcdbojlaaGreat

namespace Go.Proofs.YtfjcfkkcdbojlaaGreat
open Go.RowKit Go.Maps
set_option linter.unusedVariables false
set_option linter.unusedSimpArgs false

theorem own_frq {W W' : World} {q B E k n : Nat} {v : Value} {xs : List Value} {cs : Array Value} {T : TypeId} (h : W.ownsRow B E k v n xs) (hb : W.heap[q]? = some (.cells cs T (0, 0))) (hT : T ≠ E) (hF : FrL [q] W W') : W'.ownsRow B E k v n xs := by
  refine ⟨h.1, ?_⟩
  rcases h.2 with e | ⟨g, cap, cur, e, hbg, hg, rest⟩
  · exact Or.inl e
  · refine Or.inr ⟨g, cap, cur, e, hbg, ?_, rest⟩
    rw [hF.block g (Array.getElem?_eq_some_iff.1 hg).1 (by
      simp only [List.mem_singleton]
      rintro rfl
      rw [hb] at hg
      simp only [Option.some.injEq, Obj.cells.injEq] at hg
      exact hT hg.2.1)]
    exact hg
/-- Where a law stands when the vocabulary was used. -/
structure LwU (w : World) (B q qd : Nat) (z : VV) (s : Wf.Sp) (vb vm : Value) (a4 : Option Addr) (n4 c4 : Nat) (a5 : Option Addr) (n5 c5 : Nat) (a3 : Option Addr) (n3 c3 : Nat) (u : Int) (W : World) : Prop where
  bel : Below w.heap.size w W
  ve : Ve B q z s u W
  rt : RT vb vm (txT s) (mgT s) W
  rd : Mk.RdS W a3 n3 s.specials
  box : W.heap[qd]? = some (.cells #[vb, vm, .slice a4 n4 c4, .slice a5 n5 c5, .slice a3 n3 c3] 39 (0, 0))
section
variable {w W W' : World} {B q qd : Nat} {z : VV} {s : Wf.Sp} {vb vm : Value} {a4 a5 a3 : Option Addr} {n4 c4 n5 c5 n3 c3 : Nat} {u u' : Int}
theorem LwS.lu (h : LwS w B q qd z s vb vm a4 n4 c4 a5 n5 c5 a3 n3 c3 u W) : LwU w B q qd z s vb vm a4 n4 c4 a5 n5 c5 a3 n3 c3 u W := ⟨h.bel, h.ve, h.dv.rt, h.dv.rd, h.box⟩
theorem LwU.low (h : LwU w B q qd z s vb vm a4 n4 c4 a5 n5 c5 a3 n3 c3 u W) (hb : Below W.heap.size W W') : LwU w B q qd z s vb vm a4 n4 c4 a5 n5 c5 a3 n3 c3 u W' :=
  ⟨below_step h.bel hb, h.ve.low hb, h.rt.kept hb, h.rd.kept hb, by rw [hb.block _ (Array.getElem?_eq_some_iff.1 h.box).1]; exact h.box⟩
theorem LwU.cells (h : LwU w B q qd z s vb vm a4 n4 c4 a5 n5 c5 a3 n3 c3 u W) : W.cell? ⟨qd, 0, none⟩ = some vb ∧ W.cell? ⟨qd, 1, none⟩ = some vm ∧ W.cell? ⟨qd, 2, none⟩ = some (.slice a4 n4 c4) ∧ W.cell? ⟨qd, 3, none⟩ = some (.slice a5 n5 c5) ∧ W.cell? ⟨qd, 4, none⟩ = some (.slice a3 n3 c3) :=
  ⟨Lib.cell_of_heap h.box 0, Lib.cell_of_heap h.box 1, Lib.cell_of_heap h.box 2, Lib.cell_of_heap h.box 3, Lib.cell_of_heap h.box 4⟩
theorem LwU.used (h : LwU w B q qd z s vb vm a4 n4 c4 a5 n5 c5 a3 n3 c3 u W) (hq : w.heap.size ≤ q) (hv : Vu B q z s u' W') (hF : FrL [q] W W') : LwU w B q qd z s vb vm a4 n4 c4 a5 n5 c5 a3 n3 c3 u' W' := by
  have hb : Below w.heap.size w W' := h.bel.trans (hF.below h.bel.size (fun k hk => by simp at hk; omega))
  have hbx := h.ve.vu.box
  have hV : IsV q W := IsV.of hbx
  refine ⟨hb, h.ve.used hv hF, h.rt.q hbx (by decide) (by decide) hF, ?_, ?_⟩
  · refine ⟨h.rd.1, ?_⟩
    rcases h.rd.2 with h0 | ⟨b, off, ha, hlt, hc⟩
    · exact Or.inl h0
    · rcases Nat.eq_zero_or_pos n3 with h0 | h0
      · exact Or.inl h0
      · have hne := hV.ne_str (hc 0 h0).2
        exact Or.inr ⟨b, off, ha, Nat.lt_of_lt_of_le hlt hF.size, fun i hi => ⟨frq hF (hc i hi).1 hne, frq hF (hc i hi).2 hne⟩⟩
  · have hne : qd ≠ q := by
      rintro rfl
      have h1 := h.box
      rw [hbx] at h1
      simp only [Option.some.injEq, Obj.cells.injEq] at h1
      exact absurd h1.2.1 (by decide)
    rw [hF.block qd (Array.getElem?_eq_some_iff.1 h.box).1 (by simpa using hne)]
    exact h.box
theorem LwU.own (h : LwU w B q qd z s vb vm a4 n4 c4 a5 n5 c5 a3 n3 c3 u W) (hF : FrL [q] W W') {B2 k n : Nat} {v : Value} {xs : List Value} (ho : W.ownsRow B2 3 k v n xs) : W'.ownsRow B2 3 k v n xs := own_frq ho h.ve.vu.box (by decide) hF
/-- A row of numbers is none of the vocabulary's own box. -/
theorem LwU.off (h : LwU w B q qd z s vb vm a4 n4 c4 a5 n5 c5 a3 n3 c3 u W) {B2 n cap : Nat} {ao : Option Addr} {xs : List Value} (ho : W.ownsRow B2 3 1 (.slice ao n cap) n xs) : ∀ b off, ao = some ⟨b, off, none⟩ → 0 < n → b ≠ q := by
  rintro b off rfl h0 rfl
  rcases ho.2 with ⟨e, _⟩ | ⟨g, c, cur, e, _, hg, _⟩
  · simp at e
  · simp only [Value.slice.injEq, Option.some.injEq, Addr.mk.injEq, and_true] at e
    obtain ⟨⟨rfl, _⟩, _⟩ := e
    rw [h.ve.vu.box] at hg
    simp only [Option.some.injEq, Obj.cells.injEq] at hg
    exact absurd hg.2.1 (by decide)
end
theorem has_wf {s : Wf.Sp} (hV : VOk s) {x : Int} (h : hasD s.specials (txT s).length x = true) : Mk.wfI x := by
  have hc := (tokT s).cap
  unfold hasD at h
  rw [Bool.or_eq_true, decide_eq_true_iff, decide_eq_true_iff] at h
  rcases h with h | h
  · unfold Mk.wfI
    constructor <;> omega
  · rcases mkF_cases s.specials x with ⟨k, hk, _, e, _⟩ | ⟨_, e⟩
    · rw [← e]
      exact (Mk.good_tx hV.2.1).id k hk
    · omega
/-- The items of what is made of right items. -/
theorem made_has {s : Wf.Sp} (hV : VOk s) {I : List Int} (hI : ∀ j, j < I.length → okE s.specials (Mk.gI I j)) : (∀ j, j < (enS s I).length → hasD s.specials (txT s).length (Mk.gI (enS s I) j) = true) ∧ catV s.specials (txT s) (enS s I) = I := by
  have hI' : ∀ x ∈ I, okE s.specials x := fun x hx => by
    obtain ⟨j, hj, rfl⟩ := List.mem_iff_getElem.1 hx
    simpa [Mk.gI, hj] using hI j hj
  refine ⟨fun j hj => ?_, catV_encG hV (tE s) hI'⟩
  have := encG_has (q := cuE s) hV (tE s) hI' _ (List.getElem_mem hj)
  simpa [Mk.gI, hj] using this
/-- What Items tells of what is made of right items: these items. -/
theorem vitems_made {w W : World} {B q qd : Nat} {z : VV} {s : Wf.Sp} {vb vm : Value} {a4 a5 a3 : Option Addr} {n4 c4 n5 c5 n3 c3 : Nat} {u : Int} (h : LwU w B q qd z s vb vm a4 n4 c4 a5 n5 c5 a3 n3 c3 u W) (hV : VOk s) (hL : s.specials.length ≤ 1000) (hu : 0 ≤ u ∧ u < 1000) {I : List Int} (hI : ∀ j, j < I.length → okE s.specials (Mk.gI I j)) (hn : I.length ≤ 1000) {B2 cap : Nat} {ao : Option Addr} (hr : EnR B2 (.slice ao (enS s I).length cap) (enS s I) W) :
    Calls Tryz.prog 21 #[.pointer (some ⟨q, 0, none⟩), .slice ao (enS s I).length cap] W fun e w' => (∃ a2 c2, e = .returned (.tuple #[.slice a2 I.length c2, .int .i64 ((enS s I).length : Int), .int .i64 0]) ∧ w'.ownsRow W.heap.size 3 1 (.slice a2 I.length c2) I.length (Mk.iv I)) ∧ Vu B q z s (u + 1) w' ∧ FrL [q] W w' := by
  obtain ⟨h1, h2⟩ := made_has hV hI
  have hle : (enS s I).length ≤ I.length := encG_len (q := cuE s) (mgT s) (tE s) s.specials I
  refine (vitems_any (ci := cap) h.ve.vu hu hL (Mk.RdI.of_row hr) (h.off hr) (by omega) (fun i hi => has_wf hV (h1 i hi))).mono ?_
  rintro e w' ⟨hP, hv, hF⟩
  refine ⟨?_, hv, hF⟩
  rcases hP with ⟨_, ao2, cap2, rfl, hrow⟩ | ⟨k, hk, _, hno, _⟩
  · rw [h2] at hrow
    refine ⟨ao2, cap2, by rw [h2], hrow⟩
  · rw [h1 k hk] at hno
    cases hno
end Go.Proofs.YtfjcfkkcdbojlaaGreat

namespace Go.Proofs.YtfjcfkkcdbojlaaGreat
open Go.RowKit Go.Maps
set_option linter.unusedVariables false
set_option linter.unusedSimpArgs false

set_option maxRecDepth 20000 in
set_option maxHeartbeats 16000000 in
theorem etexts_walk (c : CsR) (t : ByteArray) (w : World) (hc : CsAt c w) (ht : t.size ≤ 9223372036854775807) :
    Calls Tryz.prog 4 #[.agg c.cells, .string t] w fun e w' => e = .returned (.bool true) ∧ Below w.heap.size w w' := by
  have hlo := Wf.low_alloc w (.cells c.cells 27)
  have hbx := heap_alloc_new w (.cells c.cells 27)
  have HLO := hide hlo
  have HBX := hide hbx
  have HC := hide hc
  have KG := hide (cgreat_any c _ (hc.kept hlo))
  clear hc hlo
  have y0 := Lib.cell_of_heap hbx 0
  have y1 := Lib.cell_of_heap hbx 1
  have y2 := Lib.cell_of_heap hbx 2
  have y3 := Lib.cell_of_heap hbx 3
  clear hbx
  go_enter Tryz.func4, Tryz.ntmps4
  go_wp2_with fail
  refine (unhide KG).mono ?_
  rintro e w1 ⟨hP, hb1⟩
  have HB1 := hide (below_step HLO.out hb1)
  have HBX1 := hide ((hb1.block _ (Array.getElem?_eq_some_iff.1 HBX.out).1).trans HBX.out)
  clear hb1 KG y0 y1 y2 y3
  rcases hP with rfl | ⟨rfl, hf⟩
  · go_wp2_with fail
    refine (awake12_any _).mono ?_
    rintro e w2 ⟨rfl, hb2⟩
    have HB2 := hide (below_step HB1.out hb2)
    clear hb2
    go_wp2
    (try simp only [Exit.inBlock, Exit.then])
    refine bodyPost_ret (v := .bool true) (by simp [results, Tryz.results4, go_sem]) rfl ?_
    exact ⟨rfl, HB2.out⟩
  by_cases hmid : 300 < t.size ∧ t.size ≤ 4000
  · have g1 : (300 : Int) < (t.size : Int) := by omega
    have g2 : (t.size : Int) ≤ 4000 := by omega
    go_wp2_with fail
    refine (awake12_any _).mono ?_
    rintro e w2 ⟨rfl, hb2⟩
    have HB2 := hide (below_step HB1.out hb2)
    clear hb2
    go_wp2
    (try simp only [Exit.inBlock, Exit.then])
    refine bodyPost_ret (v := .bool true) (by simp [results, Tryz.results4, go_sem]) rfl ?_
    exact ⟨rfl, HB2.out⟩
  have HF := hide hf
  have HMID := hide hmid
  clear hf hmid
  have KA := hide (awake12_any w1)
  by_cases h300 : 300 < t.size
  · have g1 : (300 : Int) < (t.size : Int) := by omega
    have g2 : (4000 : Int) < (t.size : Int) := by have := HMID.out; omega
    have g3 : decide ((t.size : Int) ≤ 4000) = false := decide_eq_false (by omega)
    go_wp2_with fail
    refine (unhide KA).mono ?_
    rintro e w2 ⟨rfl, hb2⟩
    have HB2 := hide (below_step HB1.out hb2)
    have HBX2 := hide ((hb2.block _ (Array.getElem?_eq_some_iff.1 HBX1.out).1).trans HBX1.out)
    have KO := hide (cof_any c w2 (HC.out.kept HB2.out) HF.out)
    have y0 := Lib.cell_of_heap HBX2.out 0
    have y1 := Lib.cell_of_heap HBX2.out 1
    have y2 := Lib.cell_of_heap HBX2.out 2
    have y3 := Lib.cell_of_heap HBX2.out 3
    clear hb2 KA
    go_wp2_with fail
    refine (unhide KO).mono ?_
    rintro e w3 ⟨⟨s, q, z, B, vb, vm, a4, n4, c4, a5, n5, c5, a3, n3, c3, rfl, hV, hOB, hL, hq, hve, hdv⟩, hb3⟩
    obtain ⟨e1, d1, rfl⟩ := row_form hdv.rt.rb
    obtain ⟨e2, d2, rfl⟩ := row_form hdv.rt.rm
    obtain rfl : s.specials.length = n3 := hdv.rd.1
    have hla := Mk.low1 w3 (.cells #[.slice e1 (txT s).length d1, .slice e2 (mgT s).length d2, .slice a4 n4 c4, .slice a5 n5 c5, .slice a3 s.specials.length c3] 39)
    have HS : Hid (LwS w B q w3.heap.size z s (.slice e1 (txT s).length d1) (.slice e2 (mgT s).length d2) a4 n4 c4 a5 n5 c5 a3 s.specials.length c3 0 (w3.alloc (.cells #[.slice e1 (txT s).length d1, .slice e2 (mgT s).length d2, .slice a4 n4 c4, .slice a5 n5 c5, .slice a3 s.specials.length c3] 39))) := hide ⟨below_step (below_step HB2.out hb3) hla, hve.low hla, hdv.kept hla, heap_alloc_new w3 _⟩
    have HV := hide hV
    have HOB := hide hOB
    have HL := hide hL
    have HQ := hide (Nat.le_trans HB2.out.size hq)
    have KT := hide (etext_any HS.out.ve hOB hV hL t ht)
    clear y0 y1 y2 y3 hV hOB hL hq hve hdv hb3 hla KO HB2 HBX2 HB1 HBX1
    generalize hN1 : (txT s).length = N1 at *
    generalize hN2 : (mgT s).length = N2 at *
    have HNN := hide (And.intro hN1 hN2)
    clear hN1 hN2
    go_wp2_with fail
    refine (unhide KT).mono ?_
    generalize w3.heap.size = qd at *
    generalize w3.alloc (.cells #[.slice e1 N1 d1, .slice e2 N2 d2, .slice a4 n4 c4, .slice a5 n5 c5, .slice a3 s.specials.length c3] 39) = W1 at *
    rintro e W2 ⟨hP, hb⟩
    have HS2 := hide (HS.out.low hb)
    have KP := hide (eplain_any HS2.out.ve HOB.out HV.out HL.out t ht)
    clear hb KT
    rcases hP with ⟨_, rfl⟩ | ⟨h1, _⟩
    rotate_left
    · omega
    go_wp2_with fail
    refine (unhide KP).mono ?_
    rintro e W3 ⟨hP, hb⟩
    have HS3 := hide (HS2.out.low hb)
    clear hb KP HS2
    rcases hP with ⟨_, rfl⟩ | ⟨h1, _⟩
    rotate_left
    · omega
    go_wp2
    (try simp only [Exit.inBlock, Exit.then])
    refine bodyPost_ret (v := .bool true) (by simp [results, Tryz.results4, go_sem]) rfl ?_
    exact ⟨rfl, HS3.out.bel⟩
  · have g1 : (t.size : Int) ≤ 300 := by omega
    have g2 : (t.size : Int) ≤ 4000 := by omega
    go_wp2_with fail
    refine (unhide KA).mono ?_
    rintro e w2 ⟨rfl, hb2⟩
    have HB2 := hide (below_step HB1.out hb2)
    have HBX2 := hide ((hb2.block _ (Array.getElem?_eq_some_iff.1 HBX1.out).1).trans HBX1.out)
    have KO := hide (cof_any c w2 (HC.out.kept HB2.out) HF.out)
    have y0 := Lib.cell_of_heap HBX2.out 0
    have y1 := Lib.cell_of_heap HBX2.out 1
    have y2 := Lib.cell_of_heap HBX2.out 2
    have y3 := Lib.cell_of_heap HBX2.out 3
    clear hb2 KA
    go_wp2_with fail
    refine (unhide KO).mono ?_
    rintro e w3 ⟨⟨s, q, z, B, vb, vm, a4, n4, c4, a5, n5, c5, a3, n3, c3, rfl, hV, hOB, hL, hq, hve, hdv⟩, hb3⟩
    obtain ⟨e1, d1, rfl⟩ := row_form hdv.rt.rb
    obtain ⟨e2, d2, rfl⟩ := row_form hdv.rt.rm
    obtain rfl : s.specials.length = n3 := hdv.rd.1
    have hla := Mk.low1 w3 (.cells #[.slice e1 (txT s).length d1, .slice e2 (mgT s).length d2, .slice a4 n4 c4, .slice a5 n5 c5, .slice a3 s.specials.length c3] 39)
    have HS : Hid (LwS w B q w3.heap.size z s (.slice e1 (txT s).length d1) (.slice e2 (mgT s).length d2) a4 n4 c4 a5 n5 c5 a3 s.specials.length c3 0 (w3.alloc (.cells #[.slice e1 (txT s).length d1, .slice e2 (mgT s).length d2, .slice a4 n4 c4, .slice a5 n5 c5, .slice a3 s.specials.length c3] 39))) := hide ⟨below_step (below_step HB2.out hb3) hla, hve.low hla, hdv.kept hla, heap_alloc_new w3 _⟩
    have HV := hide hV
    have HOB := hide hOB
    have HL := hide hL
    have HQ := hide (Nat.le_trans HB2.out.size hq)
    have KT := hide (etext_any HS.out.ve hOB hV hL t ht)
    clear y0 y1 y2 y3 hV hOB hL hq hve hdv hb3 hla KO HB2 HBX2 HB1 HBX1
    generalize hN1 : (txT s).length = N1 at *
    generalize hN2 : (mgT s).length = N2 at *
    have HNN := hide (And.intro hN1 hN2)
    clear hN1 hN2
    go_wp2_with fail
    refine (unhide KT).mono ?_
    generalize w3.heap.size = qd at *
    generalize w3.alloc (.cells #[.slice e1 N1 d1, .slice e2 N2 d2, .slice a4 n4 c4, .slice a5 n5 c5, .slice a3 s.specials.length c3] 39) = W1 at *
    rintro e W2 ⟨hP, hb⟩
    have HS2 := hide (HS.out.low hb)
    have KP := hide (eplain_any HS2.out.ve HOB.out HV.out HL.out t ht)
    clear hb KT
    rcases hP with ⟨h1, _⟩ | ⟨_, ao, cap, rfl, hr⟩
    · omega
    have HRa := hide hr
    clear hr
    go_wp2_with fail
    refine (unhide KP).mono ?_
    rintro e W3 ⟨hP, hb⟩
    have HS3 := hide (HS2.out.low hb)
    replace HRa := hide (row_keptB HRa.out hb)
    clear hb KP HS2
    rcases hP with ⟨h1, _⟩ | ⟨_, bo, cbp, rfl, hr⟩
    · omega
    have HRb := hide hr
    have KR := hide (Mk.rparse_any (cap := c3) (by have := HS3.out.dv.rd; exact this) (Mk.good_tx HV.out.2.1) (Mk.good_mk HV.out.2.1) t (by omega))
    obtain ⟨y0, y1, y2, y3, y4⟩ := HS3.out.cells
    clear hr
    go_wp2_with fail
    refine (unhide KR).mono ?_
    rintro e W4 ⟨⟨ai, ci, rfl, hr⟩, hb⟩
    have HS4 := hide (HS3.out.low hb)
    replace HRa := hide (row_keptB HRa.out hb)
    replace HRb := hide (row_keptB HRb.out hb)
    have HRI := hide hr
    have HOI := hide (ok_pars (L := s.specials) t.data.toList)
    have HLI := hide (show (Mk.parsM (Mk.tL s.specials) t.data.toList).length ≤ 300 by have := pars_len (Mk.tL s.specials) t.data.toList; simp at this; omega)
    have HOY := hide (ok_bys (L := s.specials) t)
    have HYL := hide (Mk.bys_len t)
    clear hb hr KR y0 y1 y2 y3 y4 HS3
    generalize Mk.parsM (Mk.tL s.specials) t.data.toList = I at *
    have CE1 := hide (fun (W : World) (h : LwS w B q qd z s (.slice e1 N1 d1) (.slice e2 N2 d2) a4 n4 c4 a5 n5 c5 a3 s.specials.length c3 0 W) (hI : Mk.RdI W ai I.length I) => renc_any (ci := ci) (c4 := c4) (c5 := c5) (c3 := c3) h.dv hI (by have := HLI.out; omega) HOI.out)
    have CE2 := hide (fun (W : World) (h : LwS w B q qd z s (.slice e1 N1 d1) (.slice e2 N2 d2) a4 n4 c4 a5 n5 c5 a3 s.specials.length c3 0 W) (ay : Option Addr) (cy : Nat) (hI : Mk.RdI W ay t.size (Mk.bys t)) => renc_any (ci := cy) (c4 := c4) (c5 := c5) (c3 := c3) h.dv hI (by omega) (fun j hj => HOY.out j (by rw [HYL.out]; exact hj)))
    have CB := hide (fun (W : World) => Mk.bytes_any t W (by omega))
    have CV1 := hide (fun (B2 : Nat) (W : World) (h : LwU w B q qd z s (.slice e1 N1 d1) (.slice e2 N2 d2) a4 n4 c4 a5 n5 c5 a3 s.specials.length c3 0 W) (hr : EnR B2 (.slice ao (enS s I).length cap) (enS s I) W) => vitems_made h HV.out HL.out ⟨by omega, by omega⟩ HOI.out (by have := HLI.out; omega) hr)
    have CV2 := hide (fun (B2 : Nat) (W : World) (h : LwU w B q qd z s (.slice e1 N1 d1) (.slice e2 N2 d2) a4 n4 c4 a5 n5 c5 a3 s.specials.length c3 1 W) (hr : EnR B2 (.slice bo (enS s (Mk.bys t)).length cbp) (enS s (Mk.bys t)) W) => vitems_made h HV.out HL.out ⟨by omega, by omega⟩ HOY.out (by rw [HYL.out]; omega) hr)
    have HM1 : Hid ((enS s I).length ≤ 1000000) := hide (by have h1 : (enS s I).length ≤ I.length := encG_len (q := cuE s) (mgT s) (tE s) s.specials I; have := HLI.out; omega)
    have HM2 : Hid ((enS s (Mk.bys t)).length ≤ 1000000) := hide (by have h1 : (enS s (Mk.bys t)).length ≤ (Mk.bys t).length := encG_len (q := cuE s) (mgT s) (tE s) s.specials (Mk.bys t); rw [HYL.out] at h1; omega)
    generalize enS s I = A1 at *
    generalize enS s (Mk.bys t) = A2 at *
    generalize Mk.bys t = Y at *
    have HS := hide (HS4.out.low below_drw)
    replace HRa := hide (row_keptB HRa.out below_drw)
    replace HRb := hide (row_keptB HRb.out below_drw)
    replace HRI := hide (row_keptB HRI.out below_drw)
    clear HS4
    obtain ⟨y0, y1, y2, y3, y4⟩ := HS.out.cells
    go_wp2
    go_region_held3 (fun W => W.cell? ⟨qd, 0, none⟩ = some (.slice e1 N1 d1) ∧ W.cell? ⟨qd, 1, none⟩ = some (.slice e2 N2 d2) ∧ W.cell? ⟨qd, 2, none⟩ = some (.slice a4 n4 c4) ∧ W.cell? ⟨qd, 3, none⟩ = some (.slice a5 n5 c5) ∧ W.cell? ⟨qd, 4, none⟩ = some (.slice a3 s.specials.length c3)) (first | exact ⟨y0, y1, y2, y3, y4⟩ | go_keep) (first
      | (go_at_call 15; first
          | (have hz := HRY; with_reducible refine (CE2.out _ HS.out _ _ (Mk.RdI.of_row HRY.out)).mono ?_; rintro e W5 ⟨⟨af, cf, rfl, hr⟩, hb⟩; have HS := hide (HS.out.low hb); have HRa := hide (row_keptB HRa.out hb); have HRb := hide (row_keptB HRb.out hb); have HRI := hide (row_keptB HRI.out hb); (try have HRe := hide (row_keptB HRe.out hb)); (try have HRf := hide (row_keptB HRf.out hb)); (try have HRY := hide (row_keptB HRY.out hb)); obtain ⟨y0, y1, y2, y3, y4⟩ := HS.out.cells; have HRf := hide hr)
          | (refine (CE1.out _ HS.out (Mk.RdI.of_row HRI.out)).mono ?_; rintro e W5 ⟨⟨ae, ce, rfl, hr⟩, hb⟩; have HS := hide (HS.out.low hb); have HRa := hide (row_keptB HRa.out hb); have HRb := hide (row_keptB HRb.out hb); have HRI := hide (row_keptB HRI.out hb); (try have HRe := hide (row_keptB HRe.out hb)); (try have HRf := hide (row_keptB HRf.out hb)); (try have HRY := hide (row_keptB HRY.out hb)); obtain ⟨y0, y1, y2, y3, y4⟩ := HS.out.cells; have HRe := hide hr))
      | (go_at_call 14; (first
          | (have hz := HRf; refine (Mk.ints_same _ _ _ _ _ A2 HRb.out HRf.out HM2.out).mono ?_)
          | refine (Mk.ints_same _ _ _ _ _ A1 HRa.out HRe.out HM1.out).mono ?_); rintro e W5 ⟨rfl, hb⟩; have HS := hide (HS.out.low hb); have HRa := hide (row_keptB HRa.out hb); have HRb := hide (row_keptB HRb.out hb); have HRI := hide (row_keptB HRI.out hb); (try have HRe := hide (row_keptB HRe.out hb)); (try have HRf := hide (row_keptB HRf.out hb)); (try have HRY := hide (row_keptB HRY.out hb)); obtain ⟨y0, y1, y2, y3, y4⟩ := HS.out.cells)
      | (go_at_call 20; refine (CB.out _).mono ?_; rintro e W5 ⟨⟨ay, cy, rfl, hr⟩, hb⟩; have HS := hide (HS.out.low hb); have HRa := hide (row_keptB HRa.out hb); have HRb := hide (row_keptB HRb.out hb); have HRI := hide (row_keptB HRI.out hb); (try have HRe := hide (row_keptB HRe.out hb)); (try have HRf := hide (row_keptB HRf.out hb)); (try have HRY := hide (row_keptB HRY.out hb)); obtain ⟨y0, y1, y2, y3, y4⟩ := HS.out.cells; have HRY := hide hr)
      | fail)
    all_goals
      have HB0 := hide HS.out.bel
      have K1 := hide (CV1.out _ _ HS.out.lu HRa.out)
      clear y0 y1 y2 y3 y4 CE1 CE2 CV1
      go_wp2_with fail
      refine (unhide K1).mono ?_
      rintro e W6 ⟨⟨ag, cg, rfl, hx⟩, hv, hF⟩
      have HU := hide (HS.out.lu.used HQ.out hv hF)
      have HRb2 := hide (HS.out.lu.own hF HRb.out)
      have HRI2 := hide (HS.out.lu.own hF HRI.out)
      have HRX := hide hx
      have K2 := hide (CV2.out _ _ HU.out HRb2.out)
      clear hx hv hF K1 HS HRa HRb HRI CV2
      go_wp2_with fail
      refine (unhide K2).mono ?_
      rintro e W7 ⟨⟨ah, ch, he, hy⟩, hv, hF⟩
      rw [HYL.out] at he hy
      subst he
      have HU2 := hide (HU.out.used HQ.out hv hF)
      have HRI3 := hide (HU.out.own hF HRI2.out)
      have HRX2 := hide (HU.out.own hF HRX.out)
      have HRY2 := hide hy
      have K3 := hide (Mk.ints_same W7 _ _ _ _ I HRX2.out HRI3.out (by have := HLI.out; omega))
      clear hy hv hF K2 HU HRb2 HRI2 HRX HRX2 HRI3
      go_wp2_with fail
      refine (unhide K3).mono ?_
      rintro e W8 ⟨rfl, hb⟩
      have HU3 := hide (HU2.out.low hb)
      have HRY3 := hide (row_keptB HRY2.out hb)
      clear hb K3 HU2 HRY2
      go_wp2_with fail
      refine (CB.out _).mono ?_
      rintro e W9 ⟨⟨aj, cj, rfl, hr⟩, hb⟩
      have HU4 := hide (HU3.out.low hb)
      have K4 := hide (Mk.ints_same W9 _ _ (.slice ah t.size ch) (.slice aj t.size cj) Y (by rw [HYL.out]; exact row_keptB HRY3.out hb) (by rw [HYL.out]; exact hr) (by rw [HYL.out]; omega))
      clear hb hr HU3 HRY3 CB
      go_wp2_with fail
      refine (unhide K4).mono ?_
      rintro e W10 ⟨rfl, hb⟩
      have HU5 := hide (HU4.out.low hb)
      clear hb K4 HU4
      go_wp2
      (try simp only [Exit.inBlock, Exit.then])
      first
        | (go_ret
           exact ⟨rfl, HU5.out.bel⟩)
        | (refine bodyPost_ret (v := .bool true) (by simp [results, Tryz.results4, go_sem]) rfl ?_
           exact ⟨rfl, HU5.out.bel⟩)
end Go.Proofs.YtfjcfkkcdbojlaaGreat
