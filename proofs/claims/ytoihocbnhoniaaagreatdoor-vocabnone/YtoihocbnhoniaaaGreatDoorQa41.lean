/- Contracts of package vocab: Size, Has; of no vocabulary; the law's example. VocabNone: the walk. -/
import Derived.Test.YtoihocbnhoniaaaGreatDoorQa40
import Derived.Test.YtoihocbnhoniaaaGreatDoorQa9
namespace Go.Proofs.YtoihocbnhoniaaaGreatDoor
open Go.RowKit Go.Maps
set_option linter.unusedVariables false
set_option linter.unusedSimpArgs false

section
variable {w W : World} {q : Nat} {z : VV} {s : Wf.Sp} {n : Int}
theorem StB.vcells (h : StB w q 4 z s W) : W.cell? ⟨q, 6, none⟩ = some (.pointer (some ⟨z.p, 0, none⟩)) ∧ W.cell? ⟨q, 7, none⟩ = some (.int .i64 (txT s).length) ∧ W.cell? ⟨q, 8, none⟩ = some (.pointer (some ⟨z.pm, 0, none⟩)) ∧ W.cell? ⟨q, 9, none⟩ = some (.pointer (some ⟨z.pb, 0, none⟩)) :=
  ⟨Lib.cell_of_heap h.box 6, Lib.cell_of_heap h.box 7, Lib.cell_of_heap h.box 8, Lib.cell_of_heap h.box 9⟩
theorem vsize_c (c7 : W.cell? ⟨q, 7, none⟩ = some (.int .i64 n)) : Calls Tryz.prog 27 #[.pointer (some ⟨q, 0, none⟩)] W fun e w' => e = .returned (.int .i64 n) ∧ w' = W := by
  go_enter Tryz.func27, Tryz.ntmps27
  go_wp2
  go_ret
  exact ⟨rfl, rfl⟩
/-- Is there a token? -/
def spcV (s : Wf.Sp) (id : Int) : Bool := s.specials.any (fun x => decide (x.1 = id))
theorem spc_iff {s : Wf.Sp} {id : Int} : spcV s id = true ↔ Mk.ik id ∈ Mk.ids s.specials := by
  unfold spcV Mk.ids
  rw [List.any_eq_true, List.mem_map]
  constructor
  · rintro ⟨x, hx, h⟩
    exact ⟨x, hx, by rw [of_decide_eq_true h]⟩
  · rintro ⟨x, hx, h⟩
    exact ⟨x, hx, decide_eq_true (Mk.ik_inj h)⟩
def hasV (s : Wf.Sp) (id : Int) : Bool := spcV s id || decide (0 ≤ id ∧ id < ((txT s).length : Int))
theorem vhas_c {ao : Option Addr} {cap pm : Nat} (c7 : W.cell? ⟨q, 7, none⟩ = some (.int .i64 (txT s).length)) (c8 : W.cell? ⟨q, 8, none⟩ = some (.pointer (some ⟨pm, 0, none⟩))) (hS : Mk.StV W (.pointer (some ⟨pm, 0, none⟩)) ao cap s.specials) (hl : s.specials.length ≤ 1000) (id : Int) (hw : Mk.wfI id) :
    Calls Tryz.prog 25 #[.pointer (some ⟨q, 0, none⟩), .int .i64 id] W fun e w' => e = .returned (.bool (hasV s id)) ∧ w' = W := by
  have HO := hide (ordinary_any q _ id W c7)
  by_cases hm : Mk.ik id ∈ Mk.ids s.specials
  · obtain ⟨i, hi⟩ := List.getElem?_of_mem hm
    have HK := hide (Mk.mark_yes hS hl id hw i hi)
    have HR : Hid (hasV s id = true) := hide (by simp [hasV, spc_iff.2 hm])
    clear hS hm hi hl hw HO
    go_enter Tryz.func25, Tryz.ntmps25
    go_wp2_with fail
    refine (unhide HK).mono ?_
    rintro e w' ⟨rfl, rfl⟩
    go_wp2
    go_ret
    exact ⟨by rw [HR.out]; rfl, rfl⟩
  · have HK := hide (Mk.mark_no hS id hw hm)
    have HR : Hid (hasV s id = decide (0 ≤ id ∧ id < ((txT s).length : Int))) := hide (by
      have : spcV s id = false := by
        cases h : spcV s id with
        | false => rfl
        | true => exact absurd (spc_iff.1 h) hm
      simp [hasV, this])
    clear hS hm hl hw
    generalize (decide (0 ≤ id ∧ id < ((txT s).length : Int))) = b at *
    go_enter Tryz.func25, Tryz.ntmps25
    go_wp2_with fail
    refine (unhide HK).mono ?_
    rintro e w' ⟨rfl, rfl⟩
    go_wp2_with fail
    refine (unhide HO).mono ?_
    rintro e w' ⟨rfl, rfl⟩
    go_wp2
    go_ret
    exact ⟨by rw [HR.out]; rfl, rfl⟩
theorem vhas_any (h : StB w q 4 z s W) (hR : s.specials.length ≤ 1000) (id : Int) (hw : Mk.wfI id) :
    Calls Tryz.prog 25 #[.pointer (some ⟨q, 0, none⟩), .int .i64 id] W fun e w' => e = .returned (.bool (hasV s id)) ∧ w' = W :=
  vhas_c h.vcells.2.1 h.vcells.2.2.1 (h.mr (by omega)).1 hR id hw
end

/- The example. -/
def v1S : Wf.Sp := ⟨false, [(97, 98)], [], [(257, ⟨#[60]⟩)], [], []⟩
def v2S : Wf.Sp := ⟨false, [(97, 98)], [], [(256, ⟨#[60]⟩)], [], []⟩
def v1T : List UInt8 := [118, 111, 99, 97, 98, 32, 109, 101, 114, 103, 101, 115, 10, 109, 101, 114, 103, 101, 32, 57, 55, 32, 57, 56, 10, 115, 112, 101, 99, 105, 97, 108, 32, 50, 53, 55, 32, 51, 99, 10]
def v2T : List UInt8 := [118, 111, 99, 97, 98, 32, 109, 101, 114, 103, 101, 115, 10, 109, 101, 114, 103, 101, 32, 57, 55, 32, 57, 56, 10, 115, 112, 101, 99, 105, 97, 108, 32, 50, 53, 54, 32, 51, 99, 10]
theorem vi97 : Lib.itoa 97 = [57, 55] := by simp [Lib.itoa, Lib.decDigits]
theorem vi98 : Lib.itoa 98 = [57, 56] := by simp [Lib.itoa, Lib.decDigits]
theorem vi256 : Lib.itoa 256 = [50, 53, 54] := by simp [Lib.itoa, Lib.decDigits]
theorem vi257 : Lib.itoa 257 = [50, 53, 55] := by simp [Lib.itoa, Lib.decDigits]
theorem vhex : Wf.hexb ⟨#[60]⟩ = [51, 99] := by decide +kernel
theorem v1_text : v1S.text = v1T := by
  simp only [Wf.Sp.text, Wf.Sp.lines, Wf.Sp.body, v1S, List.map_cons, List.map_nil, Wf.lM, Wf.lS, vi97, vi98, vi257, vhex]
  decide
theorem v2_text : v2S.text = v2T := by
  simp only [Wf.Sp.text, Wf.Sp.lines, Wf.Sp.body, v2S, List.map_cons, List.map_nil, Wf.lM, Wf.lS, vi97, vi98, vi256, vhex]
  decide
theorem v1_right : v1S.Right := (Wf.rightB_iff v1S).1 (by decide)
theorem v2_right : v2S.Right := (Wf.rightB_iff v2S).1 (by decide)
theorem v1_parse : Wf.parseP v1T = (v1S, 0, 0) := by
  rw [← v1_text]
  exact Wf.parseP_text v1_right (by rw [v1_text]; decide)
theorem v2_parse : Wf.parseP v2T = (v2S, 0, 0) := by
  rw [← v2_text]
  exact Wf.parseP_text v2_right (by rw [v2_text]; decide)
theorem v1_len : (txT v1S).length = 257 := by decide +kernel
theorem v2_len : (txT v2S).length = 257 := by decide +kernel
theorem v1_ok : VOk v1S := by
  refine ⟨fun j hj => ?_, ?_, fun j hj => ?_⟩
  · obtain rfl : j = 0 := by
      have : nT v1S = 1 := rfl
      omega
    decide +kernel
  · refine ⟨fun i hi => ?_, Or.inl ⟨rfl, rfl⟩⟩
    obtain rfl : i = 0 := by
      have : v1S.specials.length = 1 := rfl
      omega
    exact ⟨⟨by decide, by decide, by decide, by decide⟩, by decide, fun j hj => by omega⟩
  · obtain rfl : j = 0 := by
      have : v1S.specials.length = 1 := rfl
      omega
    rw [v1_len]
    decide
theorem v2_bad : VBad v2S 2 0 4 := by
  refine Or.inr (Or.inr ⟨rfl, fun j hj => ?_, ?_, by decide, fun j hj => by omega, ?_, rfl⟩)
  · obtain rfl : j = 0 := by
      have : nT v2S = 1 := rfl
      omega
    decide +kernel
  · refine ⟨fun i hi => ?_, Or.inl ⟨rfl, rfl⟩⟩
    obtain rfl : i = 0 := by
      have : v2S.specials.length = 1 := rfl
      omega
    exact ⟨⟨by decide, by decide, by decide, by decide⟩, by decide, fun j hj => by omega⟩
  · rw [v2_len]
    decide
theorem v1_257 : hasV v1S 257 = true := by
  unfold hasV
  rw [v1_len]
  decide
theorem v1_258 : hasV v1S 258 = false := by
  unfold hasV
  rw [v1_len]
  decide

set_option maxRecDepth 20000 in
set_option maxHeartbeats 4000000 in
theorem awake10_any (w : World) (hE : Wf.Env w) : Calls Tryz.prog 10 #[] w fun e w' => e = .returned (.bool true) ∧ Below w.heap.size w w' := by
  have K1 := hide (vload_any ⟨v1T.toArray⟩ w hE (by decide))
  have K2 := hide (fun (W : World) (h : Wf.Env W) => vload_any ⟨v2T.toArray⟩ W h (by decide))
  have HE := hide hE
  clear hE
  go_enter Tryz.func10, Tryz.ntmps10
  go_wp2_with fail
  refine (unhide K1).mono ?_
  rintro e w1 ⟨hP, hb1⟩
  rw [v1_parse] at hP
  rcases hP with ⟨n, er, h1, hne, _⟩ | ⟨s, h1, hP⟩
  · simp at h1
    exact absurd h1.2.symm hne
  obtain rfl : v1S = s := by simpa using h1
  rcases hP with ⟨q, z, hv, rfl, hz⟩ | ⟨p, k, er, hbad, _⟩
  rotate_left
  · exact (hbad.not v1_ok).elim
  have HZ := hide hz
  have HE1 := hide (HE.out.kept hb1)
  clear hb1 h1 hv hz K1
  go_wp2_with fail
  refine (K2.out _ HE1.out).mono ?_
  rintro e w2 ⟨hP, hb2⟩
  rw [v2_parse] at hP
  rcases hP with ⟨n, er, h1, hne, _⟩ | ⟨s, h1, hP⟩
  · simp at h1
    exact absurd h1.2.symm hne
  obtain rfl : v2S = s := by simpa using h1
  rcases hP with ⟨q2, z2, hv, rfl, hz⟩ | ⟨p, k, er, hbad, rfl⟩
  · exact (v2_bad.not hv).elim
  obtain ⟨rfl, rfl, rfl⟩ := v2_bad.uniq hbad
  rw [show lineV 2 0 (v2S.merges.length + v2S.tokens.length) = 3 from rfl]
  replace HZ := hide (HZ.out.low hb2)
  have HS := hide (vsize_c HZ.out.vcells.2.1)
  rw [v1_len] at HS
  have H7 := hide (vhas_any HZ.out (by decide) 257 (by unfold Mk.wfI; omega))
  have H8 := hide (vhas_any HZ.out (by decide) 258 (by unfold Mk.wfI; omega))
  rw [v1_257] at H7
  rw [v1_258] at H8
  clear hbad h1 hb2 K2
  go_wp2_with fail
  refine (unhide HS).mono ?_
  rintro e w' ⟨rfl, rfl⟩
  go_wp2_with fail
  refine (unhide H7).mono ?_
  rintro e w' ⟨rfl, rfl⟩
  go_wp2_with fail
  refine (unhide H8).mono ?_
  rintro e w' ⟨rfl, rfl⟩
  go_wp2
  go_ret
  exact ⟨rfl, HZ.out.bel⟩
end Go.Proofs.YtoihocbnhoniaaaGreatDoor

namespace Go.Proofs.YtoihocbnhoniaaaGreatDoor
open Go.RowKit Go.Maps
set_option linter.unusedVariables false
set_option linter.unusedSimpArgs false

theorem vn_items (w : World) (ao : Option Addr) (n cap : Nat) : Calls Tryz.prog 22 #[.pointer none, .slice ao n cap] w fun e w' => e = .returned (.tuple #[.slice none 0 0, .int .i64 0, .int .i64 1]) ∧ w' = w := by
  go_enter Tryz.func22, Tryz.ntmps22
  go_wp2
  (try simp only [Exit.inBlock, Exit.then])
  refine bodyPost_ret (v := (.tuple #[.slice none 0 0, .int .i64 0, .int .i64 1])) (by simp [results, Tryz.results22, go_sem]) rfl ?_
  exact ⟨rfl, rfl⟩
theorem vn_alone (w : World) (id : Int) : Calls Tryz.prog 31 #[.pointer none, .int .i64 id] w fun e w' => e = .returned (.bool false) ∧ w' = w := by
  go_enter Tryz.func31, Tryz.ntmps31
  go_wp2
  go_ret
  exact ⟨rfl, rfl⟩
theorem vn_has (w : World) (id : Int) : Calls Tryz.prog 25 #[.pointer none, .int .i64 id] w fun e w' => e = .returned (.bool false) ∧ w' = w := by
  go_enter Tryz.func25, Tryz.ntmps25
  go_wp2
  go_ret
  exact ⟨rfl, rfl⟩
theorem vn_size (w : World) : Calls Tryz.prog 27 #[.pointer none] w fun e w' => e = .returned (.int .i64 0) ∧ w' = w := by
  go_enter Tryz.func27, Tryz.ntmps27
  go_wp2
  go_ret
  exact ⟨rfl, rfl⟩
theorem vn_ids (w : World) : Calls Tryz.prog 24 #[.pointer none] w fun e w' => e = .returned (.slice none 0 0) ∧ w' = w := by
  go_enter Tryz.func24, Tryz.ntmps24
  go_wp2
  go_ret
  exact ⟨rfl, rfl⟩
theorem vn_uses (w : World) : Calls Tryz.prog 28 #[.pointer none] w fun e w' => e = .returned (.int .i64 0) ∧ w' = w := by
  go_enter Tryz.func28, Tryz.ntmps28
  go_wp2
  go_ret
  exact ⟨rfl, rfl⟩
theorem vn_table (w : World) : Calls Tryz.prog 34 #[.pointer none] w fun e w' => e = .returned (.pointer none) ∧ w' = w := by
  go_enter Tryz.func34, Tryz.ntmps34
  go_wp2
  go_ret
  exact ⟨rfl, rfl⟩
theorem vn_bounds (w : World) : Calls Tryz.prog 35 #[.pointer none] w fun e w' => e = .returned (.pointer none) ∧ w' = w := by
  go_enter Tryz.func35, Tryz.ntmps35
  go_wp2
  go_ret
  exact ⟨rfl, rfl⟩
theorem vn_marks (w : World) : Calls Tryz.prog 36 #[.pointer none] w fun e w' => e = .returned (.pointer none) ∧ w' = w := by
  go_enter Tryz.func36, Tryz.ntmps36
  go_wp2
  go_ret
  exact ⟨rfl, rfl⟩

def zSv : Wf.Sv := ⟨false, none, 0, 0, none, 0, 0, none, 0, 0, none, 0, 0, none, 0, 0⟩
theorem zSp_at (w : World) : Wf.SpAt w zSv Wf.Sp.zero := ⟨rfl, ⟨rfl, Or.inl rfl⟩, ⟨rfl, Or.inl rfl⟩, ⟨rfl, Or.inl rfl⟩, ⟨rfl, Or.inl rfl⟩, ⟨rfl, Or.inl rfl⟩⟩
theorem vn_spec (w : World) : Calls Tryz.prog 17 #[.pointer none] w fun e w' => e = .returned (.agg zSv.cs) ∧ Below w.heap.size w w' := by
  have hl := Wf.low_alloc w (.cells #[.bool false, .slice none 0 0, .slice none 0 0, .slice none 0 0, .slice none 0 0, .slice none 0 0] 28)
  have hb := heap_alloc_new w (.cells #[.bool false, .slice none 0 0, .slice none 0 0, .slice none 0 0, .slice none 0 0, .slice none 0 0] 28)
  have HZ := hide hb
  have HB := hide hl
  clear hl hb
  go_enter Tryz.func17, Tryz.ntmps17
  go_wp2
  have g0 := Lib.cell_of_heap HZ.out 0
  have g1 := Lib.cell_of_heap HZ.out 1
  have g2 := Lib.cell_of_heap HZ.out 2
  have g3 := Lib.cell_of_heap HZ.out 3
  have g4 := Lib.cell_of_heap HZ.out 4
  have g5 := Lib.cell_of_heap HZ.out 5
  (try simp only [Exit.inBlock, Exit.then])
  generalize w.alloc (.cells #[.bool false, .slice none 0 0, .slice none 0 0, .slice none 0 0, .slice none 0 0, .slice none 0 0] 28) = w4 at *
  refine bodyPost_ret (v := .agg zSv.cs) (by simp [results, Tryz.results17, go_sem, g0, g1, g2, g3, g4, g5, zSv]) rfl ?_
  exact ⟨rfl, HB.out⟩

set_option maxRecDepth 20000 in
set_option maxHeartbeats 4000000 in
theorem vnone_walk (id : Int) (w : World) (hE : Wf.Env w) :
    Calls Tryz.prog 8 #[.int .i64 id] w fun e w' => e = .returned (.bool true) ∧ Below w.heap.size w w' := by
  have hl := Wf.low_alloc w (.cells #[.int .i64 id] 3)
  have HE := hide (hE.kept hl)
  have HB := hide hl
  clear hE hl
  go_enter Tryz.func8, Tryz.ntmps8
  go_wp2_with fail
  refine (vn_items _ _ _ _).mono ?_
  rintro e w1 ⟨rfl, rfl⟩
  go_wp2_with fail
  generalize w.alloc (.cells #[.int .i64 id] 3) = w1 at *
  refine (vn_alone _ _).mono ?_
  rintro e w' ⟨rfl, rfl⟩
  go_wp2_with fail
  refine (vn_has _ _).mono ?_
  rintro e w' ⟨rfl, rfl⟩
  go_wp2_with fail
  refine (vn_size _).mono ?_
  rintro e w' ⟨rfl, rfl⟩
  go_wp2_with fail
  refine (vn_ids _).mono ?_
  rintro e w' ⟨rfl, rfl⟩
  go_wp2_with fail
  refine (vn_uses _).mono ?_
  rintro e w' ⟨rfl, rfl⟩
  go_wp2_with fail
  refine (vn_table _).mono ?_
  rintro e w' ⟨rfl, rfl⟩
  go_wp2_with fail
  refine (vn_bounds _).mono ?_
  rintro e w' ⟨rfl, rfl⟩
  go_wp2_with fail
  refine (vn_marks _).mono ?_
  rintro e w' ⟨rfl, rfl⟩
  go_wp2_with fail
  refine (vn_spec _).mono ?_
  rintro e w2 ⟨rfl, hb2⟩
  have HE2 := hide (HE.out.kept hb2)
  have HB2 := hide (HB.out.trans (hb2.mono HB.out.size))
  clear hb2 HE HB
  go_wp2_with fail
  refine (Wf.same_any zSv zSv Wf.Sp.zero w2 (zSp_at _) (zSp_at _) (by decide) (by decide) (by decide) (by decide) (by decide)).mono ?_
  rintro e w3 ⟨rfl, hb3⟩
  have HE3 := hide (HE2.out.kept hb3)
  have HB3 := hide (HB2.out.trans (hb3.mono HB2.out.size))
  clear hb3 HE2 HB2
  go_wp2_with fail
  refine (awake10_any _ HE3.out).mono ?_
  rintro e w4 ⟨rfl, hb4⟩
  have HB4 := hide (HB3.out.trans (hb4.mono HB3.out.size))
  clear hb4
  go_wp2
  go_ret
  exact ⟨rfl, HB4.out⟩
end Go.Proofs.YtoihocbnhoniaaaGreatDoor
