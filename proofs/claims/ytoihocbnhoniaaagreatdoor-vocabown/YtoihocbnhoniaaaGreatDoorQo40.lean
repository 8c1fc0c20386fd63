/- Contracts of package vocab: Size, Has; of no vocabulary; the law's example. Contract: Spec of a vocabulary. -/
import Derived.Test.YtoihocbnhoniaaaGreatDoorQo39
namespace Go.Proofs.YtoihocbnhoniaaaGreatDoor
open Go.RowKit Go.Maps
set_option linter.unusedVariables false
set_option linter.unusedSimpArgs false

section
variable {w W : World} {q : Nat} {z : VV} {s : Wf.Sp} {n : Int}
theorem StB.vcells (h : StB w q 4 z s W) : W.cell? ⟨q, 6, none⟩ = some (.pointer (some ⟨z.p, 0, none⟩)) ∧ W.cell? ⟨q, 7, none⟩ = some (.int .i64 (txT s).length) ∧ W.cell? ⟨q, 8, none⟩ = some (.pointer (some ⟨z.pm, 0, none⟩)) ∧ W.cell? ⟨q, 9, none⟩ = some (.pointer (some ⟨z.pb, 0, none⟩)) :=
  ⟨Lib.cell_of_heap h.box 6, Lib.cell_of_heap h.box 7, Lib.cell_of_heap h.box 8, Lib.cell_of_heap h.box 9⟩
theorem vsize_c (c7 : W.cell? ⟨q, 7, none⟩ = some (.int .i64 n)) : Calls Tryz.prog 27 #[.pointer (some ⟨q, 0, none⟩)] W fun e w' => e = .returned (.int .i64 n) ∧ w' = W := by
  go_enter Tryz.func27, Tryz.ntmps27
  go_wp2
  go_ret
  exact ⟨rfl, rfl⟩
/-- Is there a token? -/
def spcV (s : Wf.Sp) (id : Int) : Bool := s.specials.any (fun x => decide (x.1 = id))
theorem spc_iff {s : Wf.Sp} {id : Int} : spcV s id = true ↔ Mk.ik id ∈ Mk.ids s.specials := by
  unfold spcV Mk.ids
  rw [List.any_eq_true, List.mem_map]
  constructor
  · rintro ⟨x, hx, h⟩
    exact ⟨x, hx, by rw [of_decide_eq_true h]⟩
  · rintro ⟨x, hx, h⟩
    exact ⟨x, hx, decide_eq_true (Mk.ik_inj h)⟩
def hasV (s : Wf.Sp) (id : Int) : Bool := spcV s id || decide (0 ≤ id ∧ id < ((txT s).length : Int))
theorem vhas_c {ao : Option Addr} {cap pm : Nat} (c7 : W.cell? ⟨q, 7, none⟩ = some (.int .i64 (txT s).length)) (c8 : W.cell? ⟨q, 8, none⟩ = some (.pointer (some ⟨pm, 0, none⟩))) (hS : Mk.StV W (.pointer (some ⟨pm, 0, none⟩)) ao cap s.specials) (hl : s.specials.length ≤ 1000) (id : Int) (hw : Mk.wfI id) :
    Calls Tryz.prog 25 #[.pointer (some ⟨q, 0, none⟩), .int .i64 id] W fun e w' => e = .returned (.bool (hasV s id)) ∧ w' = W := by
  have HO := hide (ordinary_any q _ id W c7)
  by_cases hm : Mk.ik id ∈ Mk.ids s.specials
  · obtain ⟨i, hi⟩ := List.getElem?_of_mem hm
    have HK := hide (Mk.mark_yes hS hl id hw i hi)
    have HR : Hid (hasV s id = true) := hide (by simp [hasV, spc_iff.2 hm])
    clear hS hm hi hl hw HO
    go_enter Tryz.func25, Tryz.ntmps25
    go_wp2_with fail
    refine (unhide HK).mono ?_
    rintro e w' ⟨rfl, rfl⟩
    go_wp2
    go_ret
    exact ⟨by rw [HR.out]; rfl, rfl⟩
  · have HK := hide (Mk.mark_no hS id hw hm)
    have HR : Hid (hasV s id = decide (0 ≤ id ∧ id < ((txT s).length : Int))) := hide (by
      have : spcV s id = false := by
        cases h : spcV s id with
        | false => rfl
        | true => exact absurd (spc_iff.1 h) hm
      simp [hasV, this])
    clear hS hm hl hw
    generalize (decide (0 ≤ id ∧ id < ((txT s).length : Int))) = b at *
    go_enter Tryz.func25, Tryz.ntmps25
    go_wp2_with fail
    refine (unhide HK).mono ?_
    rintro e w' ⟨rfl, rfl⟩
    go_wp2_with fail
    refine (unhide HO).mono ?_
    rintro e w' ⟨rfl, rfl⟩
    go_wp2
    go_ret
    exact ⟨by rw [HR.out]; rfl, rfl⟩
theorem vhas_any (h : StB w q 4 z s W) (hR : s.specials.length ≤ 1000) (id : Int) (hw : Mk.wfI id) :
    Calls Tryz.prog 25 #[.pointer (some ⟨q, 0, none⟩), .int .i64 id] W fun e w' => e = .returned (.bool (hasV s id)) ∧ w' = W :=
  vhas_c h.vcells.2.1 h.vcells.2.2.1 (h.mr (by omega)).1 hR id hw
end

/- The example. -/
def v1S : Wf.Sp := ⟨false, [(97, 98)], [], [(257, ⟨#[60]⟩)], [], []⟩
def v2S : Wf.Sp := ⟨false, [(97, 98)], [], [(256, ⟨#[60]⟩)], [], []⟩
def v1T : List UInt8 := [118, 111, 99, 97, 98, 32, 109, 101, 114, 103, 101, 115, 10, 109, 101, 114, 103, 101, 32, 57, 55, 32, 57, 56, 10, 115, 112, 101, 99, 105, 97, 108, 32, 50, 53, 55, 32, 51, 99, 10]
def v2T : List UInt8 := [118, 111, 99, 97, 98, 32, 109, 101, 114, 103, 101, 115, 10, 109, 101, 114, 103, 101, 32, 57, 55, 32, 57, 56, 10, 115, 112, 101, 99, 105, 97, 108, 32, 50, 53, 54, 32, 51, 99, 10]
theorem vi97 : Lib.itoa 97 = [57, 55] := by simp [Lib.itoa, Lib.decDigits]
theorem vi98 : Lib.itoa 98 = [57, 56] := by simp [Lib.itoa, Lib.decDigits]
theorem vi256 : Lib.itoa 256 = [50, 53, 54] := by simp [Lib.itoa, Lib.decDigits]
theorem vi257 : Lib.itoa 257 = [50, 53, 55] := by simp [Lib.itoa, Lib.decDigits]
theorem vhex : Wf.hexb ⟨#[60]⟩ = [51, 99] := by decide +kernel
theorem v1_text : v1S.text = v1T := by
  simp only [Wf.Sp.text, Wf.Sp.lines, Wf.Sp.body, v1S, List.map_cons, List.map_nil, Wf.lM, Wf.lS, vi97, vi98, vi257, vhex]
  decide
theorem v2_text : v2S.text = v2T := by
  simp only [Wf.Sp.text, Wf.Sp.lines, Wf.Sp.body, v2S, List.map_cons, List.map_nil, Wf.lM, Wf.lS, vi97, vi98, vi256, vhex]
  decide
theorem v1_right : v1S.Right := (Wf.rightB_iff v1S).1 (by decide)
theorem v2_right : v2S.Right := (Wf.rightB_iff v2S).1 (by decide)
theorem v1_parse : Wf.parseP v1T = (v1S, 0, 0) := by
  rw [← v1_text]
  exact Wf.parseP_text v1_right (by rw [v1_text]; decide)
theorem v2_parse : Wf.parseP v2T = (v2S, 0, 0) := by
  rw [← v2_text]
  exact Wf.parseP_text v2_right (by rw [v2_text]; decide)
theorem v1_len : (txT v1S).length = 257 := by decide +kernel
theorem v2_len : (txT v2S).length = 257 := by decide +kernel
theorem v1_ok : VOk v1S := by
  refine ⟨fun j hj => ?_, ?_, fun j hj => ?_⟩
  · obtain rfl : j = 0 := by
      have : nT v1S = 1 := rfl
      omega
    decide +kernel
  · refine ⟨fun i hi => ?_, Or.inl ⟨rfl, rfl⟩⟩
    obtain rfl : i = 0 := by
      have : v1S.specials.length = 1 := rfl
      omega
    exact ⟨⟨by decide, by decide, by decide, by decide⟩, by decide, fun j hj => by omega⟩
  · obtain rfl : j = 0 := by
      have : v1S.specials.length = 1 := rfl
      omega
    rw [v1_len]
    decide
theorem v2_bad : VBad v2S 2 0 4 := by
  refine Or.inr (Or.inr ⟨rfl, fun j hj => ?_, ?_, by decide, fun j hj => by omega, ?_, rfl⟩)
  · obtain rfl : j = 0 := by
      have : nT v2S = 1 := rfl
      omega
    decide +kernel
  · refine ⟨fun i hi => ?_, Or.inl ⟨rfl, rfl⟩⟩
    obtain rfl : i = 0 := by
      have : v2S.specials.length = 1 := rfl
      omega
    exact ⟨⟨by decide, by decide, by decide, by decide⟩, by decide, fun j hj => by omega⟩
  · rw [v2_len]
    decide
theorem v1_257 : hasV v1S 257 = true := by
  unfold hasV
  rw [v1_len]
  decide
theorem v1_258 : hasV v1S 258 = false := by
  unfold hasV
  rw [v1_len]
  decide

set_option maxRecDepth 20000 in
set_option maxHeartbeats 4000000 in
theorem awake10_any (w : World) (hE : Wf.Env w) : Calls Tryz.prog 10 #[] w fun e w' => e = .returned (.bool true) ∧ Below w.heap.size w w' := by
  have K1 := hide (vload_any ⟨v1T.toArray⟩ w hE (by decide))
  have K2 := hide (fun (W : World) (h : Wf.Env W) => vload_any ⟨v2T.toArray⟩ W h (by decide))
  have HE := hide hE
  clear hE
  go_enter Tryz.func10, Tryz.ntmps10
  go_wp2_with fail
  refine (unhide K1).mono ?_
  rintro e w1 ⟨hP, hb1⟩
  rw [v1_parse] at hP
  rcases hP with ⟨n, er, h1, hne, _⟩ | ⟨s, h1, hP⟩
  · simp at h1
    exact absurd h1.2.symm hne
  obtain rfl : v1S = s := by simpa using h1
  rcases hP with ⟨q, z, hv, rfl, hz⟩ | ⟨p, k, er, hbad, _⟩
  rotate_left
  · exact (hbad.not v1_ok).elim
  have HZ := hide hz
  have HE1 := hide (HE.out.kept hb1)
  clear hb1 h1 hv hz K1
  go_wp2_with fail
  refine (K2.out _ HE1.out).mono ?_
  rintro e w2 ⟨hP, hb2⟩
  rw [v2_parse] at hP
  rcases hP with ⟨n, er, h1, hne, _⟩ | ⟨s, h1, hP⟩
  · simp at h1
    exact absurd h1.2.symm hne
  obtain rfl : v2S = s := by simpa using h1
  rcases hP with ⟨q2, z2, hv, rfl, hz⟩ | ⟨p, k, er, hbad, rfl⟩
  · exact (v2_bad.not hv).elim
  obtain ⟨rfl, rfl, rfl⟩ := v2_bad.uniq hbad
  rw [show lineV 2 0 (v2S.merges.length + v2S.tokens.length) = 3 from rfl]
  replace HZ := hide (HZ.out.low hb2)
  have HS := hide (vsize_c HZ.out.vcells.2.1)
  rw [v1_len] at HS
  have H7 := hide (vhas_any HZ.out (by decide) 257 (by unfold Mk.wfI; omega))
  have H8 := hide (vhas_any HZ.out (by decide) 258 (by unfold Mk.wfI; omega))
  rw [v1_257] at H7
  rw [v1_258] at H8
  clear hbad h1 hb2 K2
  go_wp2_with fail
  refine (unhide HS).mono ?_
  rintro e w' ⟨rfl, rfl⟩
  go_wp2_with fail
  refine (unhide H7).mono ?_
  rintro e w' ⟨rfl, rfl⟩
  go_wp2_with fail
  refine (unhide H8).mono ?_
  rintro e w' ⟨rfl, rfl⟩
  go_wp2
  go_ret
  exact ⟨rfl, HZ.out.bel⟩
end Go.Proofs.YtoihocbnhoniaaaGreatDoor

namespace Go.Proofs.YtoihocbnhoniaaaGreatDoor
open Go.RowKit Go.Maps
set_option linter.unusedVariables false
set_option linter.unusedSimpArgs false

set_option maxRecDepth 20000 in
set_option maxHeartbeats 4000000 in
theorem vspec_c {W : World} {q : Nat} {y : Wf.Sv} {s : Wf.Sp} (hbx : ∃ cs : Array Value, W.heap[q]? = some (.cells cs 114 (0, 0)) ∧ cs[0]? = some (.bool y.r) ∧ cs[1]? = some (.slice y.a1 y.n1 y.c1) ∧ cs[2]? = some (.slice y.a2 y.n2 y.c2) ∧ cs[3]? = some (.slice y.a3 y.n3 y.c3) ∧ cs[4]? = some (.slice y.a4 y.n4 y.c4) ∧ cs[5]? = some (.slice y.a5 y.n5 y.c5)) (hsp : Wf.SpAt W y s) (hnl : Wf.NLe y 1000) :
    Calls Tryz.prog 17 #[.pointer (some ⟨q, 0, none⟩)] W fun e w' => (∃ y : Wf.Sv, e = .returned (.agg y.cs) ∧ Wf.SpRw W.heap.size y s w' ∧ Wf.NLe y 1000) ∧ Below W.heap.size W w' := by
  have hl := Wf.low_alloc W (.cells #[.bool false, .slice none 0 0, .slice none 0 0, .slice none 0 0, .slice none 0 0, .slice none 0 0] 28)
  have HC := hide (Wf.copied_any y s _ (hsp.kept hl) hnl)
  have hres := heap_alloc_new W (.cells #[.bool false, .slice none 0 0, .slice none 0 0, .slice none 0 0, .slice none 0 0, .slice none 0 0] 28)
  have HRES := hide hres
  have HL := hide hl
  obtain ⟨cs, hq, c0, c1, c2, c3, c4, c5⟩ := hbx
  have hql : q < W.heap.size := (Array.getElem?_eq_some_iff.1 hq).1
  have hq2 : (W.alloc (.cells #[.bool false, .slice none 0 0, .slice none 0 0, .slice none 0 0, .slice none 0 0, .slice none 0 0] 28)).heap[q]? = some (.cells cs 114 (0, 0)) := by rw [hl.block q hql]; exact hq
  replace c0 := (Lib.cell_of_heap hq2 0).trans c0
  replace c1 := (Lib.cell_of_heap hq2 1).trans c1
  replace c2 := (Lib.cell_of_heap hq2 2).trans c2
  replace c3 := (Lib.cell_of_heap hq2 3).trans c3
  replace c4 := (Lib.cell_of_heap hq2 4).trans c4
  replace c5 := (Lib.cell_of_heap hq2 5).trans c5
  have hlt : W.heap.size < (W.alloc (.cells #[.bool false, .slice none 0 0, .slice none 0 0, .slice none 0 0, .slice none 0 0, .slice none 0 0] 28)).heap.size := by simp
  clear hsp hnl hl hres hq hq2 hql
  obtain ⟨r, a1, n1, c1', a2, n2, c2', a3, n3, c3', a4, n4, c4', a5, n5, c5'⟩ := y
  simp only at c0 c1 c2 c3 c4 c5
  go_enter Tryz.func17, Tryz.ntmps17
  go_wp2_with fail
  refine (unhide HC).mono ?_
  rintro e w2 ⟨⟨y, rfl, hrw, hnl⟩, hb2⟩
  obtain ⟨r', b1, n1', e1, b2, n2', e2, b3, n3', e3, b4, n4', e4, b5, n5', e5⟩ := y
  have hz : w2.heap[W.heap.size]? = some (.cells #[.bool false, .slice none 0 0, .slice none 0 0, .slice none 0 0, .slice none 0 0, .slice none 0 0] 28 (0, 0)) := by rw [hb2.block _ hlt]; exact HRES.out
  have hB := HL.out.trans (hb2.mono HL.out.size)
  have HP := hide (Wf.put_spec (hrw.mono (B := W.heap.size) HL.out.size) hB hz (Nat.le_refl _))
  have f0 := Lib.frozen_of_heap hz 0
  have f1 := Lib.frozen_of_heap hz 1
  have f2 := Lib.frozen_of_heap hz 2
  have f3 := Lib.frozen_of_heap hz 3
  have f4 := Lib.frozen_of_heap hz 4
  have f5 := Lib.frozen_of_heap hz 5
  have d0 : w2.cell? ⟨W.heap.size, 0, none⟩ = some (.bool false) := Lib.cell_of_heap hz 0
  have d1 : w2.cell? ⟨W.heap.size, 1, none⟩ = some (.slice none 0 0) := Lib.cell_of_heap hz 1
  have d2 : w2.cell? ⟨W.heap.size, 2, none⟩ = some (.slice none 0 0) := Lib.cell_of_heap hz 2
  have d3 : w2.cell? ⟨W.heap.size, 3, none⟩ = some (.slice none 0 0) := Lib.cell_of_heap hz 3
  have d4 : w2.cell? ⟨W.heap.size, 4, none⟩ = some (.slice none 0 0) := Lib.cell_of_heap hz 4
  have d5 : w2.cell? ⟨W.heap.size, 5, none⟩ = some (.slice none 0 0) := Lib.cell_of_heap hz 5
  have HNL := hide hnl
  clear hrw hnl hb2 hz hB HC HRES HL c0 c1 c2 c3 c4 c5 hlt
  go_wp2
  obtain ⟨HR6, HB6, HZ6⟩ := HP.out
  have g0 := Lib.cell_of_heap HZ6 0
  have g1 := Lib.cell_of_heap HZ6 1
  have g2 := Lib.cell_of_heap HZ6 2
  have g3 := Lib.cell_of_heap HZ6 3
  have g4 := Lib.cell_of_heap HZ6 4
  have g5 := Lib.cell_of_heap HZ6 5
  generalize ((((((w2.setCell ⟨W.heap.size, 0, none⟩ (.bool r')).setCell ⟨W.heap.size, 1, none⟩ (.slice b1 n1' e1)).setCell ⟨W.heap.size, 2, none⟩ (.slice b2 n2' e2)).setCell ⟨W.heap.size, 3, none⟩ (.slice b3 n3' e3)).setCell ⟨W.heap.size, 4, none⟩ (.slice b4 n4' e4)).setCell ⟨W.heap.size, 5, none⟩ (.slice b5 n5' e5)) = W6 at *
  refine bodyPost_ret (v := .agg #[.bool r', .slice b1 n1' e1, .slice b2 n2' e2, .slice b3 n3' e3, .slice b4 n4' e4, .slice b5 n5' e5]) (by simp [results, Tryz.results17, go_sem, g0, g1, g2, g3, g4, g5]) rfl ?_
  exact ⟨⟨_, rfl, HR6, HNL.out⟩, HB6⟩
theorem vspec_any {w W : World} {q : Nat} {z : VV} {s : Wf.Sp} (h : StB w q 4 z s W) :
    Calls Tryz.prog 17 #[.pointer (some ⟨q, 0, none⟩)] W fun e w' => (∃ y : Wf.Sv, e = .returned (.agg y.cs) ∧ Wf.SpRw W.heap.size y s w' ∧ Wf.NLe y 1000) ∧ Below W.heap.size W w' :=
  vspec_c ⟨_, h.box, rfl, rfl, rfl, rfl, rfl, rfl⟩ h.rows.spec h.nle
end Go.Proofs.YtoihocbnhoniaaaGreatDoor
