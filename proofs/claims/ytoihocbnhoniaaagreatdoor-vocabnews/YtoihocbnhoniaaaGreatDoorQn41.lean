/- Contracts of package vocab: Size, Has; of no vocabulary; the law's example. Contract: Spec of a vocabulary. The document's vocabulary: New. -/
import Derived.Test.YtoihocbnhoniaaaGreatDoorQn40
import Derived.Test.YtoihocbnhoniaaaGreatDoorQn38
import Derived.Test.YtoihocbnhoniaaaGreatDoorQn28
namespace Go.Proofs.YtoihocbnhoniaaaGreatDoor
open Go.RowKit Go.Maps
set_option linter.unusedVariables false
set_option linter.unusedSimpArgs false

section
variable {w W : World} {q : Nat} {z : VV} {s : Wf.Sp} {n : Int}
theorem StB.vcells (h : StB w q 4 z s W) : W.cell? ⟨q, 6, none⟩ = some (.pointer (some ⟨z.p, 0, none⟩)) ∧ W.cell? ⟨q, 7, none⟩ = some (.int .i64 (txT s).length) ∧ W.cell? ⟨q, 8, none⟩ = some (.pointer (some ⟨z.pm, 0, none⟩)) ∧ W.cell? ⟨q, 9, none⟩ = some (.pointer (some ⟨z.pb, 0, none⟩)) :=
  ⟨Lib.cell_of_heap h.box 6, Lib.cell_of_heap h.box 7, Lib.cell_of_heap h.box 8, Lib.cell_of_heap h.box 9⟩
theorem vsize_c (c7 : W.cell? ⟨q, 7, none⟩ = some (.int .i64 n)) : Calls Tryz.prog 27 #[.pointer (some ⟨q, 0, none⟩)] W fun e w' => e = .returned (.int .i64 n) ∧ w' = W := by
  go_enter Tryz.func27, Tryz.ntmps27
  go_wp2
  go_ret
  exact ⟨rfl, rfl⟩
/-- Is there a token? -/
def spcV (s : Wf.Sp) (id : Int) : Bool := s.specials.any (fun x => decide (x.1 = id))
theorem spc_iff {s : Wf.Sp} {id : Int} : spcV s id = true ↔ Mk.ik id ∈ Mk.ids s.specials := by
  unfold spcV Mk.ids
  rw [List.any_eq_true, List.mem_map]
  constructor
  · rintro ⟨x, hx, h⟩
    exact ⟨x, hx, by rw [of_decide_eq_true h]⟩
  · rintro ⟨x, hx, h⟩
    exact ⟨x, hx, decide_eq_true (Mk.ik_inj h)⟩
def hasV (s : Wf.Sp) (id : Int) : Bool := spcV s id || decide (0 ≤ id ∧ id < ((txT s).length : Int))
theorem vhas_c {ao : Option Addr} {cap pm : Nat} (c7 : W.cell? ⟨q, 7, none⟩ = some (.int .i64 (txT s).length)) (c8 : W.cell? ⟨q, 8, none⟩ = some (.pointer (some ⟨pm, 0, none⟩))) (hS : Mk.StV W (.pointer (some ⟨pm, 0, none⟩)) ao cap s.specials) (hl : s.specials.length ≤ 1000) (id : Int) (hw : Mk.wfI id) :
    Calls Tryz.prog 25 #[.pointer (some ⟨q, 0, none⟩), .int .i64 id] W fun e w' => e = .returned (.bool (hasV s id)) ∧ w' = W := by
  have HO := hide (ordinary_any q _ id W c7)
  by_cases hm : Mk.ik id ∈ Mk.ids s.specials
  · obtain ⟨i, hi⟩ := List.getElem?_of_mem hm
    have HK := hide (Mk.mark_yes hS hl id hw i hi)
    have HR : Hid (hasV s id = true) := hide (by simp [hasV, spc_iff.2 hm])
    clear hS hm hi hl hw HO
    go_enter Tryz.func25, Tryz.ntmps25
    go_wp2_with fail
    refine (unhide HK).mono ?_
    rintro e w' ⟨rfl, rfl⟩
    go_wp2
    go_ret
    exact ⟨by rw [HR.out]; rfl, rfl⟩
  · have HK := hide (Mk.mark_no hS id hw hm)
    have HR : Hid (hasV s id = decide (0 ≤ id ∧ id < ((txT s).length : Int))) := hide (by
      have : spcV s id = false := by
        cases h : spcV s id with
        | false => rfl
        | true => exact absurd (spc_iff.1 h) hm
      simp [hasV, this])
    clear hS hm hl hw
    generalize (decide (0 ≤ id ∧ id < ((txT s).length : Int))) = b at *
    go_enter Tryz.func25, Tryz.ntmps25
    go_wp2_with fail
    refine (unhide HK).mono ?_
    rintro e w' ⟨rfl, rfl⟩
    go_wp2_with fail
    refine (unhide HO).mono ?_
    rintro e w' ⟨rfl, rfl⟩
    go_wp2
    go_ret
    exact ⟨by rw [HR.out]; rfl, rfl⟩
theorem vhas_any (h : StB w q 4 z s W) (hR : s.specials.length ≤ 1000) (id : Int) (hw : Mk.wfI id) :
    Calls Tryz.prog 25 #[.pointer (some ⟨q, 0, none⟩), .int .i64 id] W fun e w' => e = .returned (.bool (hasV s id)) ∧ w' = W :=
  vhas_c h.vcells.2.1 h.vcells.2.2.1 (h.mr (by omega)).1 hR id hw
end

/- The example. -/
def v1S : Wf.Sp := ⟨false, [(97, 98)], [], [(257, ⟨#[60]⟩)], [], []⟩
def v2S : Wf.Sp := ⟨false, [(97, 98)], [], [(256, ⟨#[60]⟩)], [], []⟩
def v1T : List UInt8 := [118, 111, 99, 97, 98, 32, 109, 101, 114, 103, 101, 115, 10, 109, 101, 114, 103, 101, 32, 57, 55, 32, 57, 56, 10, 115, 112, 101, 99, 105, 97, 108, 32, 50, 53, 55, 32, 51, 99, 10]
def v2T : List UInt8 := [118, 111, 99, 97, 98, 32, 109, 101, 114, 103, 101, 115, 10, 109, 101, 114, 103, 101, 32, 57, 55, 32, 57, 56, 10, 115, 112, 101, 99, 105, 97, 108, 32, 50, 53, 54, 32, 51, 99, 10]
theorem vi97 : Lib.itoa 97 = [57, 55] := by simp [Lib.itoa, Lib.decDigits]
theorem vi98 : Lib.itoa 98 = [57, 56] := by simp [Lib.itoa, Lib.decDigits]
theorem vi256 : Lib.itoa 256 = [50, 53, 54] := by simp [Lib.itoa, Lib.decDigits]
theorem vi257 : Lib.itoa 257 = [50, 53, 55] := by simp [Lib.itoa, Lib.decDigits]
theorem vhex : Wf.hexb ⟨#[60]⟩ = [51, 99] := by decide +kernel
theorem v1_text : v1S.text = v1T := by
  simp only [Wf.Sp.text, Wf.Sp.lines, Wf.Sp.body, v1S, List.map_cons, List.map_nil, Wf.lM, Wf.lS, vi97, vi98, vi257, vhex]
  decide
theorem v2_text : v2S.text = v2T := by
  simp only [Wf.Sp.text, Wf.Sp.lines, Wf.Sp.body, v2S, List.map_cons, List.map_nil, Wf.lM, Wf.lS, vi97, vi98, vi256, vhex]
  decide
theorem v1_right : v1S.Right := (Wf.rightB_iff v1S).1 (by decide)
theorem v2_right : v2S.Right := (Wf.rightB_iff v2S).1 (by decide)
theorem v1_parse : Wf.parseP v1T = (v1S, 0, 0) := by
  rw [← v1_text]
  exact Wf.parseP_text v1_right (by rw [v1_text]; decide)
theorem v2_parse : Wf.parseP v2T = (v2S, 0, 0) := by
  rw [← v2_text]
  exact Wf.parseP_text v2_right (by rw [v2_text]; decide)
theorem v1_len : (txT v1S).length = 257 := by decide +kernel
theorem v2_len : (txT v2S).length = 257 := by decide +kernel
theorem v1_ok : VOk v1S := by
  refine ⟨fun j hj => ?_, ?_, fun j hj => ?_⟩
  · obtain rfl : j = 0 := by
      have : nT v1S = 1 := rfl
      omega
    decide +kernel
  · refine ⟨fun i hi => ?_, Or.inl ⟨rfl, rfl⟩⟩
    obtain rfl : i = 0 := by
      have : v1S.specials.length = 1 := rfl
      omega
    exact ⟨⟨by decide, by decide, by decide, by decide⟩, by decide, fun j hj => by omega⟩
  · obtain rfl : j = 0 := by
      have : v1S.specials.length = 1 := rfl
      omega
    rw [v1_len]
    decide
theorem v2_bad : VBad v2S 2 0 4 := by
  refine Or.inr (Or.inr ⟨rfl, fun j hj => ?_, ?_, by decide, fun j hj => by omega, ?_, rfl⟩)
  · obtain rfl : j = 0 := by
      have : nT v2S = 1 := rfl
      omega
    decide +kernel
  · refine ⟨fun i hi => ?_, Or.inl ⟨rfl, rfl⟩⟩
    obtain rfl : i = 0 := by
      have : v2S.specials.length = 1 := rfl
      omega
    exact ⟨⟨by decide, by decide, by decide, by decide⟩, by decide, fun j hj => by omega⟩
  · rw [v2_len]
    decide
theorem v1_257 : hasV v1S 257 = true := by
  unfold hasV
  rw [v1_len]
  decide
theorem v1_258 : hasV v1S 258 = false := by
  unfold hasV
  rw [v1_len]
  decide

set_option maxRecDepth 20000 in
set_option maxHeartbeats 4000000 in
theorem awake10_any (w : World) (hE : Wf.Env w) : Calls Tryz.prog 10 #[] w fun e w' => e = .returned (.bool true) ∧ Below w.heap.size w w' := by
  have K1 := hide (vload_any ⟨v1T.toArray⟩ w hE (by decide))
  have K2 := hide (fun (W : World) (h : Wf.Env W) => vload_any ⟨v2T.toArray⟩ W h (by decide))
  have HE := hide hE
  clear hE
  go_enter Tryz.func10, Tryz.ntmps10
  go_wp2_with fail
  refine (unhide K1).mono ?_
  rintro e w1 ⟨hP, hb1⟩
  rw [v1_parse] at hP
  rcases hP with ⟨n, er, h1, hne, _⟩ | ⟨s, h1, hP⟩
  · simp at h1
    exact absurd h1.2.symm hne
  obtain rfl : v1S = s := by simpa using h1
  rcases hP with ⟨q, z, hv, rfl, hz⟩ | ⟨p, k, er, hbad, _⟩
  rotate_left
  · exact (hbad.not v1_ok).elim
  have HZ := hide hz
  have HE1 := hide (HE.out.kept hb1)
  clear hb1 h1 hv hz K1
  go_wp2_with fail
  refine (K2.out _ HE1.out).mono ?_
  rintro e w2 ⟨hP, hb2⟩
  rw [v2_parse] at hP
  rcases hP with ⟨n, er, h1, hne, _⟩ | ⟨s, h1, hP⟩
  · simp at h1
    exact absurd h1.2.symm hne
  obtain rfl : v2S = s := by simpa using h1
  rcases hP with ⟨q2, z2, hv, rfl, hz⟩ | ⟨p, k, er, hbad, rfl⟩
  · exact (v2_bad.not hv).elim
  obtain ⟨rfl, rfl, rfl⟩ := v2_bad.uniq hbad
  rw [show lineV 2 0 (v2S.merges.length + v2S.tokens.length) = 3 from rfl]
  replace HZ := hide (HZ.out.low hb2)
  have HS := hide (vsize_c HZ.out.vcells.2.1)
  rw [v1_len] at HS
  have H7 := hide (vhas_any HZ.out (by decide) 257 (by unfold Mk.wfI; omega))
  have H8 := hide (vhas_any HZ.out (by decide) 258 (by unfold Mk.wfI; omega))
  rw [v1_257] at H7
  rw [v1_258] at H8
  clear hbad h1 hb2 K2
  go_wp2_with fail
  refine (unhide HS).mono ?_
  rintro e w' ⟨rfl, rfl⟩
  go_wp2_with fail
  refine (unhide H7).mono ?_
  rintro e w' ⟨rfl, rfl⟩
  go_wp2_with fail
  refine (unhide H8).mono ?_
  rintro e w' ⟨rfl, rfl⟩
  go_wp2
  go_ret
  exact ⟨rfl, HZ.out.bel⟩
end Go.Proofs.YtoihocbnhoniaaaGreatDoor

namespace Go.Proofs.YtoihocbnhoniaaaGreatDoor
open Go.RowKit Go.Maps
set_option linter.unusedVariables false
set_option linter.unusedSimpArgs false

set_option maxRecDepth 20000 in
set_option maxHeartbeats 4000000 in
theorem vspec_any {w W : World} {q : Nat} {z : VV} {s : Wf.Sp} (h : StB w q 4 z s W) :
    Calls Tryz.prog 17 #[.pointer (some ⟨q, 0, none⟩)] W fun e w' => (∃ y : Wf.Sv, e = .returned (.agg y.cs) ∧ Wf.SpRw W.heap.size y s w' ∧ Wf.NLe y 1000) ∧ Below W.heap.size W w' := by
  have hl := Wf.low_alloc W (.cells #[.bool false, .slice none 0 0, .slice none 0 0, .slice none 0 0, .slice none 0 0, .slice none 0 0] 28)
  have HH := hide (h.low hl)
  have HC := hide (Wf.copied_any z.y s _ HH.out.rows.spec h.nle)
  have hres := heap_alloc_new W (.cells #[.bool false, .slice none 0 0, .slice none 0 0, .slice none 0 0, .slice none 0 0, .slice none 0 0] 28)
  have HRES := hide hres
  have HL := hide hl
  obtain ⟨c0, c1, c2, c3, c4, c5⟩ := HH.out.cells
  have hlt : W.heap.size < (W.alloc (.cells #[.bool false, .slice none 0 0, .slice none 0 0, .slice none 0 0, .slice none 0 0, .slice none 0 0] 28)).heap.size := by simp
  clear h hl hres
  obtain ⟨⟨r, a1, n1, c1', a2, n2, c2', a3, n3, c3', a4, n4, c4', a5, n5, c5'⟩, F0, p0, v00, v10, b20, b30, pm0, ao0, cap0, pb0⟩ := z
  simp only at c0 c1 c2 c3 c4 c5
  go_enter Tryz.func17, Tryz.ntmps17
  go_wp2_with fail
  refine (unhide HC).mono ?_
  rintro e w2 ⟨⟨y, rfl, hrw, hnl⟩, hb2⟩
  obtain ⟨r', b1, n1', e1, b2, n2', e2, b3, n3', e3, b4, n4', e4, b5, n5', e5⟩ := y
  have hz : w2.heap[W.heap.size]? = some (.cells #[.bool false, .slice none 0 0, .slice none 0 0, .slice none 0 0, .slice none 0 0, .slice none 0 0] 28 (0, 0)) := by rw [hb2.block _ hlt]; exact HRES.out
  have hB := HL.out.trans (hb2.mono HL.out.size)
  have HP := hide (Wf.put_spec (hrw.mono (B := W.heap.size) HL.out.size) hB hz (Nat.le_refl _))
  have f0 := Lib.frozen_of_heap hz 0
  have f1 := Lib.frozen_of_heap hz 1
  have f2 := Lib.frozen_of_heap hz 2
  have f3 := Lib.frozen_of_heap hz 3
  have f4 := Lib.frozen_of_heap hz 4
  have f5 := Lib.frozen_of_heap hz 5
  have d0 : w2.cell? ⟨W.heap.size, 0, none⟩ = some (.bool false) := Lib.cell_of_heap hz 0
  have d1 : w2.cell? ⟨W.heap.size, 1, none⟩ = some (.slice none 0 0) := Lib.cell_of_heap hz 1
  have d2 : w2.cell? ⟨W.heap.size, 2, none⟩ = some (.slice none 0 0) := Lib.cell_of_heap hz 2
  have d3 : w2.cell? ⟨W.heap.size, 3, none⟩ = some (.slice none 0 0) := Lib.cell_of_heap hz 3
  have d4 : w2.cell? ⟨W.heap.size, 4, none⟩ = some (.slice none 0 0) := Lib.cell_of_heap hz 4
  have d5 : w2.cell? ⟨W.heap.size, 5, none⟩ = some (.slice none 0 0) := Lib.cell_of_heap hz 5
  have HNL := hide hnl
  clear hrw hnl hb2 hz hB HC HH HRES HL c0 c1 c2 c3 c4 c5 hlt
  go_wp2
  obtain ⟨HR6, HB6, HZ6⟩ := HP.out
  have g0 := Lib.cell_of_heap HZ6 0
  have g1 := Lib.cell_of_heap HZ6 1
  have g2 := Lib.cell_of_heap HZ6 2
  have g3 := Lib.cell_of_heap HZ6 3
  have g4 := Lib.cell_of_heap HZ6 4
  have g5 := Lib.cell_of_heap HZ6 5
  generalize ((((((w2.setCell ⟨W.heap.size, 0, none⟩ (.bool r')).setCell ⟨W.heap.size, 1, none⟩ (.slice b1 n1' e1)).setCell ⟨W.heap.size, 2, none⟩ (.slice b2 n2' e2)).setCell ⟨W.heap.size, 3, none⟩ (.slice b3 n3' e3)).setCell ⟨W.heap.size, 4, none⟩ (.slice b4 n4' e4)).setCell ⟨W.heap.size, 5, none⟩ (.slice b5 n5' e5)) = W6 at *
  refine bodyPost_ret (v := .agg #[.bool r', .slice b1 n1' e1, .slice b2 n2' e2, .slice b3 n3' e3, .slice b4 n4' e4, .slice b5 n5' e5]) (by simp [results, Tryz.results17, go_sem, g0, g1, g2, g3, g4, g5]) rfl ?_
  exact ⟨⟨_, rfl, HR6, HNL.out⟩, HB6⟩
end Go.Proofs.YtoihocbnhoniaaaGreatDoor

namespace Go.Proofs.YtoihocbnhoniaaaGreatDoor
open Go.RowKit Go.Maps
set_option linter.unusedVariables false
set_option linter.unusedSimpArgs false
attribute [local go_sem ↓] Go.wp_at_zero Go.wp_at_succ

theorem IsV.small {q : Nat} {W : World} {T : TypeId} {cs : Array Value} (h : W.heap[q]? = some (.cells cs T (0, 0))) (hT : T ≠ 70 ∧ T ≠ 9 ∧ T ≠ 67 ∧ T ≠ 72 ∧ T ≠ 93 ∧ T ≠ 189) (hs : cs.size ≤ 100) (hn : ∀ v ∈ cs, NoSM v) : IsV q W :=
  ⟨T, cs, h, hT, fun j v hj => hn v (Array.mem_of_getElem? hj), hs⟩
theorem RT.q {vb vm : Value} {tx : List ByteArray} {mg : List (Int × Int)} {W W' : World} {q : Nat} (h : RT vb vm tx mg W) {T : TypeId} {cs : Array Value} (hb : W.heap[q]? = some (.cells cs T (0, 0))) (h1 : T ≠ 9) (h2 : T ≠ 70) (hF : FrL [q] W W') : RT vb vm tx mg W' := by
  refine h.keptF hF (fun k hk hm => ?_) (fun k hk hm => ?_)
  · obtain rfl : k = q := by simpa using hm
    obtain ⟨c, f, e⟩ := Lib.ownsRow_kind h.rb k hk
    rw [hb] at e
    simp only [Option.some.injEq, Obj.cells.injEq] at e
    exact h1 e.2.1
  · obtain rfl : k = q := by simpa using hm
    obtain ⟨c, f, e⟩ := Lib.ownsRow_kind h.rm k hk
    rw [hb] at e
    simp only [Option.some.injEq, Obj.cells.injEq] at e
    exact h2 e.2.1

abbrev rz5 : Array Value := #[.slice none 0 0, .slice none 0 0, .slice none 0 0, .slice none 0 0, .slice none 0 0]
/-- What comes of the document's New. -/
def RnP (s : Wf.Sp) (x : Wf.Sv) (w : World) (e : Ending) (w' : World) : Prop :=
  ((∃ vb vm, VOk s ∧ e = .returned (.tuple #[.agg #[vb, vm, .slice x.a4 x.n4 x.c4, .slice x.a5 x.n5 x.c5, .slice x.a3 x.n3 x.c3], .int .i64 0, .int .i64 0, .int .i64 0]) ∧ RT vb vm (txT s) (mgT s) w') ∨
   ∃ (p k : Nat) (er : Int), VBad s p k er ∧ e = .returned (.tuple #[.agg rz5, .int .i64 (if p = 0 then 1 else 2), .int .i64 k, .int .i64 er])) ∧ Below w.heap.size w w'
/-- Where it stands. -/
structure RnM (w : World) (q r : Nat) (x : Wf.Sv) (s : Wf.Sp) (W : World) : Prop where
  bel : Below w.heap.size w W
  sp : Wf.SpAt W x s
  box : Wf.BxS q x W
  qlt : q < W.heap.size
  res : W.heap[r]? = some (.cells #[.slice none 0 0, .slice none 0 0, .slice none 0 0, .slice none 0 0, .slice none 0 0] 40 (0, 0))
  rge : w.heap.size ≤ r
theorem RnM.next {w : World} {q r : Nat} {x : Wf.Sv} {s : Wf.Sp} {W W' : World} (h : RnM w q r x s W) (hb : Below W.heap.size W W') : RnM w q r x s W' :=
  ⟨h.bel.trans (hb.mono h.bel.size), h.sp.kept hb, h.box.kept h.qlt hb, Nat.lt_of_lt_of_le h.qlt hb.size, by rw [hb.block _ (Array.getElem?_eq_some_iff.1 h.res).1]; exact h.res, h.rge⟩
theorem below_drw {W : World} : Below W.heap.size W W.drew := ⟨rfl, rfl, rfl, Nat.le_refl _, fun _ _ => rfl⟩
/-- Nothing is put into the result's box. -/
theorem RnM.empt {w : World} {q r : Nat} {x : Wf.Sv} {s : Wf.Sp} {W : World} (h : RnM w q r x s W) : Below w.heap.size w (((((W.setCell ⟨r, 0, none⟩ (.slice none 0 0)).setCell ⟨r, 1, none⟩ (.slice none 0 0)).setCell ⟨r, 2, none⟩ (.slice none 0 0)).setCell ⟨r, 3, none⟩ (.slice none 0 0)).setCell ⟨r, 4, none⟩ (.slice none 0 0)) ∧
    (((((W.setCell ⟨r, 0, none⟩ (.slice none 0 0)).setCell ⟨r, 1, none⟩ (.slice none 0 0)).setCell ⟨r, 2, none⟩ (.slice none 0 0)).setCell ⟨r, 3, none⟩ (.slice none 0 0)).setCell ⟨r, 4, none⟩ (.slice none 0 0)).heap[r]? = some (.cells rz5 40 (0, 0)) := by
  have z := Wf.set_block (Wf.set_block (Wf.set_block (Wf.set_block (Wf.set_block h.res 0 (.slice none 0 0)) 1 (.slice none 0 0)) 2 (.slice none 0 0)) 3 (.slice none 0 0)) 4 (.slice none 0 0)
  refine ⟨?_, by simpa using z⟩
  exact ((((h.bel.setCell (p := ⟨r, 0, none⟩) h.rge _).setCell (p := ⟨r, 1, none⟩) h.rge _).setCell (p := ⟨r, 2, none⟩) h.rge _).setCell (p := ⟨r, 3, none⟩) h.rge _).setCell (p := ⟨r, 4, none⟩) h.rge _

set_option maxRecDepth 20000 in
set_option maxHeartbeats 8000000 in
theorem rnew10_any (x : Wf.Sv) (s : Wf.Sp) (w : World) (h : Wf.SpAt w x s) (hR : s.Right) :
    Calls Tryz.prog 13 #[.agg x.cs] w (RnP s x w) := by
  have hn := at_le h hR
  have HIP : Hid (Mk.ChkR s.specials s.specials.length 0 → ∀ k, k < s.specials.length → 0 ≤ (Mk.gS s.specials k).1) := hide (fun hc k hk => ((hc.1) k hk).1.1)
  have hl1 := Wf.low_alloc w (.cells x.cs 28)
  have hl2 := Wf.low_alloc (w.alloc (.cells x.cs 28)) (.cells #[.slice none 0 0, .slice none 0 0, .slice none 0 0, .slice none 0 0, .slice none 0 0] 40)
  have hi := (Wf.SpI.new h 28).next hl2
  have hres := heap_alloc_new (w.alloc (.cells x.cs 28)) (.cells #[.slice none 0 0, .slice none 0 0, .slice none 0 0, .slice none 0 0, .slice none 0 0] 40)
  have HM : Hid (RnM w w.heap.size (w.heap.size + 1) x s ((w.alloc (.cells x.cs 28)).alloc (.cells #[.slice none 0 0, .slice none 0 0, .slice none 0 0, .slice none 0 0, .slice none 0 0] 40))) := hide ⟨hi.bel, hi.sp, hi.box, hi.lt, by simpa using hres, by omega⟩
  have HNL := hide hn
  have HTK := hide (right_toks hR)
  have HLN := hide h.ss.1
  have hn3 := hn.n3
  clear h hR hn hl1 hl2 hi hres
  obtain ⟨y0, y1, y2, y3, y4, y5⟩ := HM.out.box
  have HC := hide (rload_any (gx x) (gsp s) _ (gsp_at HM.out.sp (Nat.le_trans HNL.out.n1 (by omega)) (Nat.le_trans HNL.out.n2 (by omega))) (Nat.le_trans HNL.out.n1 (by omega)) (Nat.le_trans HNL.out.n2 (by omega)) HTK.out)
  obtain ⟨r, a1, n1, c1, a2, n2, c2, a3, n3, c3, a4, n4, c4, a5, n5, c5⟩ := x
  simp only at y0 y1 y2 y3 y4 y5 HLN hn3
  go_enter Tryz.func13, Tryz.ntmps13
  go_wp2_with fail
  refine (unhide HC).mono ?_
  rintro e w2 ⟨⟨k, c, vb, vm, rfl, hok, hcase, hRT⟩, hb2⟩
  obtain ⟨e1, d1, hv1⟩ := row_form hRT.rb
  obtain ⟨e2, d2, hv2⟩ := row_form hRT.rm
  subst hv1 hv2
  replace HM := hide (HM.out.next hb2)
  clear hb2 HC y0 y1 y2 y3 y4 y5
  have hla := Wf.low_alloc w2 (.cells #[.slice e1 (ldS (gsp s) k).1.length d1, .slice e2 (ldS (gsp s) k).2.length d2] 36)
  have hRT2 := hRT.kept hla
  have htab := heap_alloc_new w2 (.cells #[.slice e1 (ldS (gsp s) k).1.length d1, .slice e2 (ldS (gsp s) k).2.length d2] 36)
  replace HM := hide (HM.out.next hla)
  clear hla hRT
  by_cases hc0 : c = 0
  rotate_left
  · have hbad : VBad s 0 k c := by
      rcases hcase with ⟨h1, h2, h3⟩ | ⟨_, h2⟩
      · exact Or.inl ⟨rfl, h1, hok, by rw [← h2]; exact h3, h2⟩
      · exact absurd h2 hc0
    have HBD := hide hbad
    have hcb : (c != 0) = true := by simpa using hc0
    clear hbad hc0 hcase hok hRT2 htab
    generalize (ldS (gsp s) k).1.length = N1 at *
    generalize (ldS (gsp s) k).2.length = N2 at *
    obtain ⟨hB5, hZ5⟩ := HM.out.empt
    have HB5 := hide hB5
    have HZ5 := hide hZ5
    have x0 := Lib.frozen_of_heap HM.out.res 0
    have x1 := Lib.frozen_of_heap HM.out.res 1
    have x2 := Lib.frozen_of_heap HM.out.res 2
    have x3 := Lib.frozen_of_heap HM.out.res 3
    have x4 := Lib.frozen_of_heap HM.out.res 4
    have z0 := Lib.cell_of_heap HM.out.res 0
    have z1 := Lib.cell_of_heap HM.out.res 1
    have z2 := Lib.cell_of_heap HM.out.res 2
    have z3 := Lib.cell_of_heap HM.out.res 3
    have z4 := Lib.cell_of_heap HM.out.res 4
    clear hB5 hZ5 HM
    go_wp2
    generalize w2.alloc (.cells #[.slice e1 N1 d1, .slice e2 N2 d2] 36) = w3 at *
    have g0 := Lib.cell_of_heap HZ5.out 0
    have g1 := Lib.cell_of_heap HZ5.out 1
    have g2 := Lib.cell_of_heap HZ5.out 2
    have g3 := Lib.cell_of_heap HZ5.out 3
    have g4 := Lib.cell_of_heap HZ5.out 4
    generalize (((((w3.setCell ⟨w.heap.size + 1, 0, none⟩ (.slice none 0 0)).setCell ⟨w.heap.size + 1, 1, none⟩ (.slice none 0 0)).setCell ⟨w.heap.size + 1, 2, none⟩ (.slice none 0 0)).setCell ⟨w.heap.size + 1, 3, none⟩ (.slice none 0 0)).setCell ⟨w.heap.size + 1, 4, none⟩ (.slice none 0 0)) = w4 at *
    (try simp only [Exit.inBlock, Exit.then])
    refine bodyPost_ret (v := .tuple #[.agg rz5, .int .i64 1, .int .i64 k, .int .i64 c]) (by simp [results, Tryz.results13, go_sem, g0, g1, g2, g3, g4]) rfl ?_
    exact ⟨Or.inr ⟨0, k, c, HBD.out, rfl⟩, HB5.out⟩
  subst hc0
  obtain rfl : k = nT s := by
    rcases hcase with ⟨_, h2, h3⟩ | ⟨h1, _⟩
    · exact absurd rfl h3
    · exact h1
  have HOKT : Hid (okT s) := hide hok
  have HRT : Hid (RT (.slice e1 (txT s).length d1) (.slice e2 (mgT s).length d2) (txT s) (mgT s) (w2.alloc (.cells #[.slice e1 (txT s).length d1, .slice e2 (mgT s).length d2] 36))) := hide hRT2
  have HTB : Hid ((w2.alloc (.cells #[.slice e1 (txT s).length d1, .slice e2 (mgT s).length d2] 36)).heap[w2.heap.size]? = some (.cells #[.slice e1 (txT s).length d1, .slice e2 (mgT s).length d2] 36 (0, 0))) := hide htab
  have HM2 : Hid (RnM w w.heap.size (w.heap.size + 1) ⟨r, a1, n1, c1, a2, n2, c2, a3, n3, c3, a4, n4, c4, a5, n5, c5⟩ s (w2.alloc (.cells #[.slice e1 (txT s).length d1, .slice e2 (mgT s).length d2] 36))) := HM
  clear hcase hok hRT2 htab HM
  have hfold1 : (ldS (gsp s) (nT s)).1 = txT s := rfl
  have hfold2 : (ldS (gsp s) (nT s)).2 = mgT s := rfl
  rw [hfold1, hfold2]
  clear hfold1 hfold2
  obtain ⟨y0, y1, y2, y3, y4, y5⟩ := HM2.out.box
  simp only at y0 y1 y2 y3 y4 y5
  have hRC : Mk.RdS (w2.alloc (.cells #[.slice e1 (txT s).length d1, .slice e2 (mgT s).length d2] 36)) a3 s.specials.length s.specials := by
    have := mk_at HM2.out.sp.ss
    rw [← HLN.out] at this
    exact this
  have HCK := hide (Mk.rchk_any (cap := c3) hRC (by rw [HLN.out]; exact hn3))
  rw [HLN.out] at HCK
  clear hRC
  generalize hT1 : (txT s).length = N1 at *
  generalize hT2 : (mgT s).length = N2 at *
  have HT1 := hide hT1
  clear hT1 hT2
  go_wp2_with fail
  generalize w2.heap.size = bt at *
  generalize w2.alloc (.cells #[.slice e1 N1 d1, .slice e2 N2 d2] 36) = w3 at *
  refine (unhide HCK).mono ?_
  rintro e w4 ⟨⟨k, er, rfl, hck⟩, hb4⟩
  have hltb := (Array.getElem?_eq_some_iff.1 HTB.out).1
  replace HM2 := hide (HM2.out.next hb4)
  replace HRT := hide (HRT.out.kept hb4)
  replace HTB : Hid (w4.heap[bt]? = some (.cells #[.slice e1 N1 d1, .slice e2 N2 d2] 36 (0, 0))) := hide (by rw [hb4.block _ hltb]; exact HTB.out)
  clear hltb hb4 HCK y0 y1 y2 y3 y4 y5
  by_cases her : er = 0
  rotate_left
  · have HBD : Hid (VBad s 1 k er) := hide (Or.inr (Or.inl ⟨rfl, HOKT.out, hck, her⟩))
    have hcb : (er != 0) = true := by simpa using her
    clear her hck
    obtain ⟨hB5, hZ5⟩ := HM2.out.empt
    have HB5 := hide hB5
    have HZ5 := hide hZ5
    have x0 := Lib.frozen_of_heap HM2.out.res 0
    have x1 := Lib.frozen_of_heap HM2.out.res 1
    have x2 := Lib.frozen_of_heap HM2.out.res 2
    have x3 := Lib.frozen_of_heap HM2.out.res 3
    have x4 := Lib.frozen_of_heap HM2.out.res 4
    have z0 := Lib.cell_of_heap HM2.out.res 0
    have z1 := Lib.cell_of_heap HM2.out.res 1
    have z2 := Lib.cell_of_heap HM2.out.res 2
    have z3 := Lib.cell_of_heap HM2.out.res 3
    have z4 := Lib.cell_of_heap HM2.out.res 4
    clear hB5 hZ5 HM2 HRT HTB
    go_wp2
    have g0 := Lib.cell_of_heap HZ5.out 0
    have g1 := Lib.cell_of_heap HZ5.out 1
    have g2 := Lib.cell_of_heap HZ5.out 2
    have g3 := Lib.cell_of_heap HZ5.out 3
    have g4 := Lib.cell_of_heap HZ5.out 4
    generalize (((((w4.setCell ⟨w.heap.size + 1, 0, none⟩ (.slice none 0 0)).setCell ⟨w.heap.size + 1, 1, none⟩ (.slice none 0 0)).setCell ⟨w.heap.size + 1, 2, none⟩ (.slice none 0 0)).setCell ⟨w.heap.size + 1, 3, none⟩ (.slice none 0 0)).setCell ⟨w.heap.size + 1, 4, none⟩ (.slice none 0 0)) = w5 at *
    (try simp only [Exit.inBlock, Exit.then])
    refine bodyPost_ret (v := .tuple #[.agg rz5, .int .i64 2, .int .i64 k, .int .i64 er]) (by simp [results, Tryz.results13, go_sem, g0, g1, g2, g3, g4]) rfl ?_
    exact ⟨Or.inr ⟨1, k, er, HBD.out, rfl⟩, HB5.out⟩
  subst her
  have HOKM : Hid (okM s) := hide (by
    rcases hck.2 with h1 | ⟨_, h1⟩
    · obtain rfl := h1.1
      exact hck
    · exact absurd rfl (Mk.err_ne h1))
  have HI0 : Hid (∀ k, k < s.specials.length → 0 ≤ (Mk.gS s.specials k).1) := hide (HIP.out HOKM.out)
  clear hck
  go_wp2
  go_loopw [9] (fun i wr => ∃ k : Nat, i = .int .i64 k ∧ k ≤ n3 ∧ Hid (okI s k) ∧ Hid (RnM w w.heap.size (w.heap.size + 1) ⟨r, a1, n1, c1, a2, n2, c2, a3, n3, c3, a4, n4, c4, a5, n5, c5⟩ s wr) ∧ Hid (RT (.slice e1 N1 d1) (.slice e2 N2 d2) (txT s) (mgT s) wr) ∧ Hid (wr.heap[bt]? = some (.cells #[.slice e1 N1 d1, .slice e2 N2 d2] 36 (0, 0)))) (fun i _ => n3 - (intOf i).toNat)
  case atStart => exact ⟨0, rfl, Nat.zero_le _, hide (fun j hj => by omega), HM2, HRT, HTB⟩
  case round =>
    obtain ⟨k, rfl, hk, HI, HM3, HRT3, HTB3⟩ := hrel
    clear HM2 HRT HTB
    obtain ⟨y0, y1, y2, y3, y4, y5⟩ := HM3.out.box
    simp only at y0 y1 y2 y3 y4 y5
    have t0 : wr.cell? ⟨bt, 0, none⟩ = some (.slice e1 N1 d1) := Lib.cell_of_heap HTB3.out 0
    have t1 : wr.cell? ⟨bt, 1, none⟩ = some (.slice e2 N2 d2) := Lib.cell_of_heap HTB3.out 1
    by_cases hlt : k < n3
    · have hk0 : (0 : Int) ≤ (k : Int) := by omega
      have hk1 : (k : Int) < (n3 : Int) := by omega
      rcases HM3.out.sp.ss.2 with h0 | ⟨b, off, ha, hbl, hc⟩
      · simp only at h0; omega
      simp only at ha hc
      subst ha
      have k0 := (hc k hlt).1
      have hgS : Wf.gS s.specials k = Mk.gS s.specials k := rfl
      rw [hgS] at k0
      clear hc hgS hbl
      generalize hid : (Mk.gS s.specials k).1 = id at *
      have HID := hide hid
      have HLT := hide hlt
      clear hid
      by_cases hlow : id < (N1 : Int)
      · have HBD : Hid (VBad s 2 k 4) := hide (Or.inr (Or.inr ⟨rfl, HOKT.out, HOKM.out, by rw [HLN.out]; exact HLT.out, HI.out, by rw [HID.out, HT1.out]; exact hlow, rfl⟩))
        have hd : decide (id < (N1 : Int)) = true := by simp [hlow]
        replace HM3 := hide (HM3.out.next below_drw)
        obtain ⟨hB5, hZ5⟩ := HM3.out.empt
        have HB5 := hide hB5
        have HZ5 := hide hZ5
        have x0 := Lib.frozen_of_heap HM3.out.res 0
        have x1 := Lib.frozen_of_heap HM3.out.res 1
        have x2 := Lib.frozen_of_heap HM3.out.res 2
        have x3 := Lib.frozen_of_heap HM3.out.res 3
        have x4 := Lib.frozen_of_heap HM3.out.res 4
        have z0 := Lib.cell_of_heap HM3.out.res 0
        have z1 := Lib.cell_of_heap HM3.out.res 1
        have z2 := Lib.cell_of_heap HM3.out.res 2
        have z3 := Lib.cell_of_heap HM3.out.res 3
        have z4 := Lib.cell_of_heap HM3.out.res 4
        clear hB5 hZ5 HM3 HRT3 HTB3
        go_wp2
        go_region
        all_goals
          generalize wr.drew = wd at *
          go_wp2
          have g0 := Lib.cell_of_heap HZ5.out 0
          have g1 := Lib.cell_of_heap HZ5.out 1
          have g2 := Lib.cell_of_heap HZ5.out 2
          have g3 := Lib.cell_of_heap HZ5.out 3
          have g4 := Lib.cell_of_heap HZ5.out 4
          generalize (((((wd.setCell ⟨w.heap.size + 1, 0, none⟩ (.slice none 0 0)).setCell ⟨w.heap.size + 1, 1, none⟩ (.slice none 0 0)).setCell ⟨w.heap.size + 1, 2, none⟩ (.slice none 0 0)).setCell ⟨w.heap.size + 1, 3, none⟩ (.slice none 0 0)).setCell ⟨w.heap.size + 1, 4, none⟩ (.slice none 0 0)) = w5 at *
          (try simp only [Exit.inBlock, Exit.then])
          refine bodyPost_ret (v := .tuple #[.agg rz5, .int .i64 2, .int .i64 k, .int .i64 4]) (by simp [results, Tryz.results13, go_sem, g0, g1, g2, g3, g4]) rfl ?_
          exact ⟨Or.inr ⟨2, k, 4, HBD.out, rfl⟩, HB5.out⟩
      · have hd : decide (id < (N1 : Int)) = false := by simp; omega
        have HI2 : Hid (okI s (k + 1)) := hide (fun j hj => by
          rcases (show j < k ∨ j = k by omega) with h | rfl
          · exact HI.out j h
          · rw [HID.out, HT1.out]; omega)
        replace HM3 := hide (HM3.out.next below_drw)
        replace HRT3 := hide (HRT3.out.kept below_drw)
        replace HTB3 : Hid (wr.drew.heap[bt]? = some (.cells #[.slice e1 N1 d1, .slice e2 N2 d2] 36 (0, 0))) := HTB3
        clear hlow
        go_wp2
        go_region
        all_goals
          go_wp2
          first
            | exact ⟨⟨k + 1, by go_num, by omega, HI2, HM3, HRT3, HTB3⟩, by simp [intOf]; omega⟩
            | (go_roundw
               case rel => exact ⟨k + 1, by go_num, by omega, HI2, HM3, HRT3, HTB3⟩
               case measure => simp [intOf]; omega)
    · obtain rfl : k = n3 := by omega
      have HV : Hid (VOk s) := hide ⟨HOKT.out, HOKM.out, by rw [HLN.out]; exact HI.out⟩
      have f0 := Lib.frozen_of_heap HM3.out.res 0
      have f1 := Lib.frozen_of_heap HM3.out.res 1
      have f2 := Lib.frozen_of_heap HM3.out.res 2
      have f3 := Lib.frozen_of_heap HM3.out.res 3
      have f4 := Lib.frozen_of_heap HM3.out.res 4
      have z0 : wr.cell? ⟨w.heap.size + 1, 0, none⟩ = some (.slice none 0 0) := Lib.cell_of_heap HM3.out.res 0
      have z1 : wr.cell? ⟨w.heap.size + 1, 1, none⟩ = some (.slice none 0 0) := Lib.cell_of_heap HM3.out.res 1
      have z2 : wr.cell? ⟨w.heap.size + 1, 2, none⟩ = some (.slice none 0 0) := Lib.cell_of_heap HM3.out.res 2
      have z3 : wr.cell? ⟨w.heap.size + 1, 3, none⟩ = some (.slice none 0 0) := Lib.cell_of_heap HM3.out.res 3
      have z4 : wr.cell? ⟨w.heap.size + 1, 4, none⟩ = some (.slice none 0 0) := Lib.cell_of_heap HM3.out.res 4
      have hz5 := Wf.set_block (Wf.set_block (Wf.set_block (Wf.set_block (Wf.set_block HM3.out.res 0 (.slice e1 N1 d1)) 1 (.slice e2 N2 d2)) 2 (.slice a4 n4 c4)) 3 (.slice a5 n5 c5)) 4 (.slice a3 k c3)
      have HZ5 := hide hz5
      have hF : FrL [w.heap.size + 1] wr (((((wr.setCell ⟨w.heap.size + 1, 0, none⟩ (.slice e1 N1 d1)).setCell ⟨w.heap.size + 1, 1, none⟩ (.slice e2 N2 d2)).setCell ⟨w.heap.size + 1, 2, none⟩ (.slice a4 n4 c4)).setCell ⟨w.heap.size + 1, 3, none⟩ (.slice a5 n5 c5)).setCell ⟨w.heap.size + 1, 4, none⟩ (.slice a3 k c3)) :=
        ((((frq_set _ _ _ _).trans' (frq_set _ _ _ _)).trans' (frq_set _ _ _ _)).trans' (frq_set _ _ _ _)).trans' (frq_set _ _ _ _)
      have HRF := hide (HRT3.out.q HM3.out.res (by decide) (by decide) hF)
      have HBF := hide (HM3.out.bel.trans (frq_below hF HM3.out.bel.size (Nat.le_succ _)))
      clear hz5 hF HM3 HRT3 HTB3
      go_wp2
      have g0 := Lib.cell_of_heap HZ5.out 0
      have g1 := Lib.cell_of_heap HZ5.out 1
      have g2 := Lib.cell_of_heap HZ5.out 2
      have g3 := Lib.cell_of_heap HZ5.out 3
      have g4 := Lib.cell_of_heap HZ5.out 4
      generalize (((((wr.setCell ⟨w.heap.size + 1, 0, none⟩ (.slice e1 N1 d1)).setCell ⟨w.heap.size + 1, 1, none⟩ (.slice e2 N2 d2)).setCell ⟨w.heap.size + 1, 2, none⟩ (.slice a4 n4 c4)).setCell ⟨w.heap.size + 1, 3, none⟩ (.slice a5 n5 c5)).setCell ⟨w.heap.size + 1, 4, none⟩ (.slice a3 k c3)) = w5 at *
      (try simp only [Exit.inBlock, Exit.then])
      refine bodyPost_ret (v := .tuple #[.agg #[.slice e1 N1 d1, .slice e2 N2 d2, .slice a4 n4 c4, .slice a5 n5 c5, .slice a3 k c3], .int .i64 0, .int .i64 0, .int .i64 0]) (by simp [results, Tryz.results13, go_sem, g0, g1, g2, g3, g4]) rfl ?_
      exact ⟨Or.inl ⟨_, _, HV.out, rfl, HRF.out⟩, HBF.out⟩
end Go.Proofs.YtoihocbnhoniaaaGreatDoor
