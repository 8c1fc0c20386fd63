/- Contracts: vocab.New; a right spec's text, told and loaded. VocabLoads: the walk. VocabNews: the walk. -/
import Derived.Test.YtoihocbnhoniaaaGreatDoorQn41
import Derived.Test.YtoihocbnhoniaaaGreatDoorQn43
import Derived.Test.YtoihocbnhoniaaaGreatDoorQn9
namespace Go.Proofs.YtoihocbnhoniaaaGreatDoor
open Go.RowKit Go.Maps
set_option linter.unusedVariables false
set_option linter.unusedSimpArgs false

theorem below_drwV {W : World} : Below W.heap.size W W.drew := ⟨rfl, rfl, rfl, Nat.le_refl _, fun _ _ => rfl⟩
/-- What comes of New. -/
def NwV (s : Wf.Sp) (w : World) (e : Ending) (w' : World) : Prop :=
  ((Wf.rightB s = false ∧ e = .returned (.tuple #[.pointer none, .int .i64 0, .int .i64 1])) ∨
   (s.Right ∧ ((∃ q z, VOk s ∧ e = .returned (.tuple #[.pointer (some ⟨q, 0, none⟩), .int .i64 0, .int .i64 0]) ∧ StB w q 4 z s w') ∨ ∃ (p k : Nat) (er : Int), VBad s p k er ∧ e = .returned (.tuple #[.pointer none, .int .i64 k, .int .i64 er])))) ∧ Below w.heap.size w w'

set_option maxRecDepth 20000 in
set_option maxHeartbeats 8000000 in
theorem vnew_any (x : Wf.Sv) (s : Wf.Sp) (w : World) (h : Wf.SpAt w x s) :
    Calls Tryz.prog 11 #[.agg x.cs] w (NwV s w) := by
  have hlo := Wf.low_alloc w (.cells x.cs 28)
  have HI := hide (Wf.SpI.new h 28)
  have HC := hide (Wf.right_any x s _ HI.out.sp)
  have HB := hide hlo
  clear h hlo
  obtain ⟨y0, y1, y2, y3, y4, y5⟩ := HI.out.box
  obtain ⟨r, a1, n1, c1, a2, n2, c2, a3, n3, c3, a4, n4, c4, a5, n5, c5⟩ := x
  simp only at y0 y1 y2 y3 y4 y5
  cases hr : Wf.rightB s with
  | false =>
    have HR := hide hr
    rw [hr] at HC
    clear hr
    go_enter Tryz.func11, Tryz.ntmps11
    go_wp2_with fail
    refine (unhide HC).mono ?_
    rintro e w2 ⟨rfl, hb2⟩
    have HB2 := hide (HI.out.next hb2).bel
    clear hb2 HI HC HB y0 y1 y2 y3 y4 y5
    go_wp2
    (try simp only [Exit.inBlock, Exit.then])
    refine bodyPost_ret (v := .tuple #[.pointer none, .int .i64 0, .int .i64 1]) (by simp [results, Tryz.results11, go_sem]) rfl ?_
    exact ⟨Or.inl ⟨HR.out, rfl⟩, HB2.out⟩
  | true =>
    have HRT := hide ((Wf.rightB_iff s).1 hr)
    rw [hr] at HC
    clear hr
    go_enter Tryz.func11, Tryz.ntmps11
    go_wp2_with fail
    refine (unhide HC).mono ?_
    rintro e w2 ⟨rfl, hb2⟩
    replace HI := hide (HI.out.next hb2)
    clear hb2 HC HB y0 y1 y2 y3 y4 y5
    obtain ⟨y0, y1, y2, y3, y4, y5⟩ := HI.out.box
    simp only at y0 y1 y2 y3 y4 y5
    have HBU := hide (build_any _ s _ HI.out.sp HRT.out (at_le HI.out.sp HRT.out))
    go_wp2_with fail
    refine (unhide HBU).mono ?_
    rintro e w3 ⟨hP, hb3⟩
    rcases hP with ⟨q, z, hv, rfl, hz⟩ | ⟨p, k, er, hbad, rfl⟩
    · have hla := Wf.low_alloc w3 (.cells #[.int .i64 0, .int .i64 0, .int .i64 0] 80)
      have HZ := hide (((hz.base HI.out.bel).low hla).low below_drwV)
      have hfl := heap_alloc_new w3 (.cells #[.int .i64 0, .int .i64 0, .int .i64 0] 80)
      have x1 : (w3.alloc (.cells #[.int .i64 0, .int .i64 0, .int .i64 0] 80)).cell? ⟨w3.heap.size, 1, none⟩ = some (.int .i64 0) := Lib.cell_of_heap hfl 1
      have x2 : (w3.alloc (.cells #[.int .i64 0, .int .i64 0, .int .i64 0] 80)).cell? ⟨w3.heap.size, 2, none⟩ = some (.int .i64 0) := Lib.cell_of_heap hfl 2
      have HV := hide hv
      clear hv hz hla hfl hb3 HBU HI y0 y1 y2 y3 y4 y5
      go_wp2
      generalize w3.heap.size = bf at *
      generalize w3.alloc (.cells #[.int .i64 0, .int .i64 0, .int .i64 0] 80) = w4 at *
      go_region
      all_goals
        go_wp2
        (try simp only [Exit.inBlock, Exit.then])
        refine bodyPost_ret (v := .tuple #[.pointer (some ⟨q, 0, none⟩), .int .i64 0, .int .i64 0]) (by simp [results, Tryz.results11, go_sem]) rfl ?_
        exact ⟨Or.inr ⟨HRT.out, Or.inl ⟨q, z, HV.out, rfl, HZ.out⟩⟩, HZ.out.bel⟩
    · have hla := Wf.low_alloc w3 (.cells #[.int .i64 p, .int .i64 k, .int .i64 er] 80)
      have HB5 := hide ((HI.out.next hb3).next hla).bel
      have HB6 : Hid (Below w.heap.size w (w3.alloc (.cells #[.int .i64 p, .int .i64 k, .int .i64 er] 80)).drew) := hide (HB5.out.trans ⟨rfl, rfl, rfl, Nat.le_refl _, fun _ _ => rfl⟩)
      have hfl := heap_alloc_new w3 (.cells #[.int .i64 p, .int .i64 k, .int .i64 er] 80)
      have x1 : (w3.alloc (.cells #[.int .i64 p, .int .i64 k, .int .i64 er] 80)).cell? ⟨w3.heap.size, 1, none⟩ = some (.int .i64 k) := Lib.cell_of_heap hfl 1
      have x2 : (w3.alloc (.cells #[.int .i64 p, .int .i64 k, .int .i64 er] 80)).cell? ⟨w3.heap.size, 2, none⟩ = some (.int .i64 er) := Lib.cell_of_heap hfl 2
      have HBD := hide hbad
      clear hbad hla hfl hb3 HBU HI HB5 y0 y1 y2 y3 y4 y5
      go_wp2
      generalize w3.heap.size = bf at *
      generalize w3.alloc (.cells #[.int .i64 p, .int .i64 k, .int .i64 er] 80) = w4 at *
      go_region
      all_goals
        go_wp2
        (try simp only [Exit.inBlock, Exit.then])
        refine bodyPost_ret (v := .tuple #[.pointer none, .int .i64 k, .int .i64 er]) (by simp [results, Tryz.results11, go_sem]) rfl ?_
        exact ⟨Or.inr ⟨HRT.out, Or.inr ⟨p, k, er, HBD.out, rfl⟩⟩, HB6.out⟩

/-- The document's text of a right spec that is small. -/
theorem print_small {s : Wf.Sp} (h : s.Right) (h1 : s.merges.length ≤ 60) (h2 : s.tokens.length ≤ 60) : s.lines.length ≤ 282 ∧ s.text.length ≤ 60000 := by
  have h3 := h.ns
  have h4 := h.nc
  have h5 := h.nj
  have hl : s.lines.length ≤ 282 := by
    simp only [Wf.Sp.lines, Wf.Sp.body, List.length_cons, List.length_append, List.length_map]
    omega
  have := Wf.txt_lenB 200 s.lines (Wf.line_short h)
  refine ⟨hl, ?_⟩
  unfold Wf.Sp.text
  omega
theorem vprint_any (x : Wf.Sv) (s : Wf.Sp) (w : World) (h : Wf.SpAt w x s) (hR : s.Right) (h1 : s.merges.length ≤ 60) (h2 : s.tokens.length ≤ 60) :
    Calls Tryz.prog 15 #[.agg x.cs] w fun e w' => e = .returned (.string ⟨s.text.toArray⟩) ∧ Below w.heap.size w w' :=
  Wf.rprint_any x s w (Wf.rlines_both x s _ (h.kept (Wf.low_alloc _ _)) (Wf.lnb_right hR h)) (by have := (print_small hR h1 h2).1; omega) (fun y hy => Nat.le_trans (Wf.line_short hR y hy) (by omega))
theorem parse_print {s : Wf.Sp} (hR : s.Right) (h1 : s.merges.length ≤ 60) (h2 : s.tokens.length ≤ 60) : Wf.parseP s.text = (s, 0, 0) := Wf.parseP_text hR (print_small hR h1 h2).2
end Go.Proofs.YtoihocbnhoniaaaGreatDoor

namespace Go.Proofs.YtoihocbnhoniaaaGreatDoor
open Go.RowKit Go.Maps
set_option linter.unusedVariables false
set_option linter.unusedSimpArgs false
attribute [local go_sem ↓] Go.wp_at_zero Go.wp_at_succ

/-- The same without a vocabulary. -/
structure VlN (w : World) (qs : Nat) (X : Wf.Sv) (s : Wf.Sp) (W : World) : Prop where
  bel : Below w.heap.size w W
  env : Wf.Env W
  sp : Wf.SpAt W X s
  box : Wf.BxS qs X W
  lt : qs < W.heap.size
theorem VlN.next {w : World} {qs : Nat} {X : Wf.Sv} {s : Wf.Sp} {W W' : World} (h : VlN w qs X s W) (hb : Below W.heap.size W W') : VlN w qs X s W' :=
  ⟨h.bel.trans (hb.mono h.bel.size), h.env.kept hb, h.sp.kept hb, h.box.kept h.lt hb, Nat.lt_of_lt_of_le h.lt hb.size⟩

end Go.Proofs.YtoihocbnhoniaaaGreatDoor

namespace Go.Proofs.YtoihocbnhoniaaaGreatDoor
open Go.RowKit Go.Maps
set_option linter.unusedVariables false
set_option linter.unusedSimpArgs false
attribute [local go_sem ↓] Go.wp_at_zero Go.wp_at_succ

theorem rright10_any (x : Wf.Sv) (s : Wf.Sp) (w : World) (h : Wf.SpAt w x s) :
    Calls Tryz.prog 12 #[.agg x.cs] w fun e w' => e = .returned (.bool (Wf.rightB s)) ∧ Below w.heap.size w w' := by
  have HI := hide (Wf.SpI.new h 28)
  have HC := hide (Wf.rright_any x s _ HI.out.sp)
  clear h
  obtain ⟨y0, y1, y2, y3, y4, y5⟩ := HI.out.box
  obtain ⟨r, a1, n1, c1, a2, n2, c2, a3, n3, c3, a4, n4, c4, a5, n5, c5⟩ := x
  simp only at y0 y1 y2 y3 y4 y5
  generalize Wf.rightB s = b at *
  go_enter Tryz.func12, Tryz.ntmps12
  go_wp2_with fail
  refine (unhide HC).mono ?_
  rintro e w2 ⟨rfl, hb2⟩
  have HB := hide (HI.out.next hb2).bel
  clear hb2 HI HC y0 y1 y2 y3 y4 y5
  go_wp2
  go_ret
  exact ⟨rfl, HB.out⟩

/-- A right spec's text is loaded as the spec is. -/
theorem vload_print (s : Wf.Sp) (w : World) (hE : Wf.Env w) (hR : s.Right) (h1 : s.merges.length ≤ 60) (h2 : s.tokens.length ≤ 60) :
    Calls Tryz.prog 14 #[.string ⟨s.text.toArray⟩] w fun e w' => ((∃ q z, VOk s ∧ e = .returned (.tuple #[.pointer (some ⟨q, 0, none⟩), .int .i64 0, .int .i64 0]) ∧ StB w q 4 z s w') ∨ ∃ (p k : Nat) (er : Int), VBad s p k er ∧ e = .returned (.tuple #[.pointer none, .int .i64 (lineV p k (s.merges.length + s.tokens.length) : Nat), .int .i64 er])) ∧ Below w.heap.size w w' := by
  have hsz : (⟨s.text.toArray⟩ : ByteArray).size = s.text.length := rfl
  refine (vload_any ⟨s.text.toArray⟩ w hE (by rw [hsz]; have := (print_small hR h1 h2).2; omega)).mono ?_
  rintro e w' ⟨hP, hb⟩
  refine ⟨?_, hb⟩
  have hp : Wf.parseP (⟨s.text.toArray⟩ : ByteArray).data.toList = (s, 0, 0) := parse_print hR h1 h2
  rcases hP with ⟨n, er, he, hne, _⟩ | ⟨s', he, hP⟩
  · rw [hp] at he
    simp only [Prod.mk.injEq] at he
    exact absurd he.2.symm hne
  · rw [hp] at he
    obtain rfl : s = s' := by simpa using he
    exact hP

/-- Where the law stands: two vocabularies, the spec in its box. -/
structure VwM (w : World) (q1 q2 qs : Nat) (z1 z2 : VV) (X : Wf.Sv) (s : Wf.Sp) (W : World) : Prop where
  n : VlN w qs X s W
  s1 : StB w q1 4 z1 s W
  s2 : StB w q2 4 z2 s W
theorem VwM.next {w : World} {q1 q2 qs : Nat} {z1 z2 : VV} {X : Wf.Sv} {s : Wf.Sp} {W W' : World} (h : VwM w q1 q2 qs z1 z2 X s W) (hb : Below W.heap.size W W') : VwM w q1 q2 qs z1 z2 X s W' :=
  ⟨h.n.next hb, h.s1.low hb, h.s2.low hb⟩

set_option maxRecDepth 20000 in
set_option maxHeartbeats 16000000 in
theorem vnews_walk (X : Wf.Sv) (s : Wf.Sp) (w : World) (hE : Wf.Env w) (hS : Wf.SpAt w X s) :
    Calls Tryz.prog 3 #[.agg X.cs] w fun e w' => e = .returned (.bool true) ∧ Below w.heap.size w w' := by
  have hlo := Wf.low_alloc w (.cells X.cs 28)
  have HM : Hid (VlN w w.heap.size X s (w.alloc (.cells X.cs 28))) := hide ⟨hlo, hE.kept hlo, hS.kept hlo, Wf.BxS.new w X _, by simp⟩
  have KG := hide (Wf.great3_any X s _ HM.out.sp)
  have HL1 := hide hS.ms.1
  have HL2 := hide hS.ts.1
  have KA := hide (fun (W : World) (h : VlN w w.heap.size X s W) => awake10_any W h.env)
  have KN := hide (fun (W : World) (h : VlN w w.heap.size X s W) => vnew_any X s W h.sp)
  have KR := hide (fun (W : World) (h : VlN w w.heap.size X s W) => rright10_any X s W h.sp)
  clear hlo hE hS
  obtain ⟨y0, y1, y2, y3, y4, y5⟩ := HM.out.box
  obtain ⟨r, a1, n1, c1, a2, n2, c2, a3, n3, c3, a4, n4, c4, a5, n5, c5⟩ := X
  simp only at y0 y1 y2 y3 y4 y5 HL1 HL2
  go_enter Tryz.func3, Tryz.ntmps3
  go_wp2_with fail
  refine (unhide KG).mono ?_
  rintro e w1 ⟨hG, hb⟩
  generalize w.heap.size = qs at *
  replace HM := hide (HM.out.next hb)
  clear hb KG y0 y1 y2 y3 y4 y5
  obtain ⟨y0, y1, y2, y3, y4, y5⟩ := HM.out.box
  simp only at y0 y1 y2 y3 y4 y5
  rcases hG with rfl | ⟨rfl, g1, g2, g3, g4, g5⟩
  · go_wp2_with fail
    refine (KA.out _ HM.out).mono ?_
    rintro e w2 ⟨rfl, hb⟩
    have HB := hide (HM.out.next hb).bel
    clear hb
    go_wp2
    go_ret
    exact ⟨rfl, HB.out⟩
  by_cases h60 : 60 < n1
  · have h60i : (60 : Int) < (n1 : Int) := by omega
    clear g1
    go_wp2_with fail
    refine (KA.out _ HM.out).mono ?_
    rintro e w2 ⟨rfl, hb⟩
    have HB := hide (HM.out.next hb).bel
    clear hb
    go_wp2
    go_ret
    exact ⟨rfl, HB.out⟩
  have h60i : ¬ (60 : Int) < (n1 : Int) := by omega
  have HS1 : Hid (s.merges.length ≤ 60) := hide (by rw [HL1.out]; omega)
  have HS2 : Hid (s.tokens.length ≤ 60) := hide (by rw [HL2.out]; exact g2)
  clear g1 g2 g3 g4 g5 h60
  go_wp2_with fail
  refine (KN.out _ HM.out).mono ?_
  rintro e w2 ⟨hP, hb⟩
  have hbase := hide HM.out.bel
  replace HM := hide (HM.out.next hb)
  clear hb h60i y0 y1 y2 y3 y4 y5
  obtain ⟨y0, y1, y2, y3, y4, y5⟩ := HM.out.box
  simp only at y0 y1 y2 y3 y4 y5
  have X : Nat := 0
  rcases hP with ⟨hr, rfl⟩ | ⟨hR, hP⟩
  · have HK := hide (KR.out _ HM.out)
    rw [hr] at HK
    clear hr
    go_wp2_with fail
    refine (unhide HK).mono ?_
    rintro e w3 ⟨rfl, hb⟩
    replace HM := hide (HM.out.next hb)
    clear hb HK y0 y1 y2 y3 y4 y5
    go_wp2_with fail
    refine (KA.out _ HM.out).mono ?_
    rintro e w4 ⟨rfl, hb⟩
    have HB := hide (HM.out.next hb).bel
    clear hb
    go_wp2
    go_ret
    exact ⟨rfl, HB.out⟩
  have HRT := hide hR
  have HRB := hide ((Wf.rightB_iff s).2 hR)
  have HK := hide (KR.out _ HM.out)
  rw [HRB.out] at HK
  have KC := hide (fun (W : World) (h : VlN w qs ⟨r, a1, n1, c1, a2, n2, c2, a3, n3, c3, a4, n4, c4, a5, n5, c5⟩ s W) => rnew10_any _ s W h.sp HRT.out)
  have KP := hide (fun (W : World) (h : VlN w qs ⟨r, a1, n1, c1, a2, n2, c2, a3, n3, c3, a4, n4, c4, a5, n5, c5⟩ s W) => vprint_any _ s W h.sp HRT.out HS1.out HS2.out)
  have KL := hide (fun (W : World) (h : VlN w qs ⟨r, a1, n1, c1, a2, n2, c2, a3, n3, c3, a4, n4, c4, a5, n5, c5⟩ s W) => vload_print s W h.env HRT.out HS1.out HS2.out)
  clear hR KN KR HRB
  rcases hP with ⟨q1, z1, hv, rfl, hz⟩ | ⟨p, k, er, hbad, rfl⟩
  · have HV := hide hv
    have HZ := hide (hz.base hbase.out)
    clear hv hz hbase
    go_wp2_with fail
    refine (unhide HK).mono ?_
    rintro e w3 ⟨rfl, hb⟩
    replace HM := hide (HM.out.next hb)
    replace HZ := hide (HZ.out.low hb)
    clear hb HK y0 y1 y2 y3 y4 y5
    obtain ⟨y0, y1, y2, y3, y4, y5⟩ := HM.out.box
    simp only at y0 y1 y2 y3 y4 y5
    go_wp2_with fail
    refine (KC.out _ HM.out).mono ?_
    rintro e w4 ⟨hP, hb⟩
    rcases hP with ⟨vb, vm, -, rfl, hRT⟩ | ⟨p, k, er, hbad, _⟩
    rotate_left
    · exact (hbad.not HV.out).elim
    obtain ⟨e1, d1, hv1⟩ := row_form hRT.rb
    obtain ⟨e2, d2, hv2⟩ := row_form hRT.rm
    subst hv1 hv2
    simp only
    generalize (txT s).length = N1 at *
    generalize (mgT s).length = N2 at *
    have hlo := Wf.low_alloc w4 (.cells #[.slice e1 N1 d1, .slice e2 N2 d2, .slice a4 n4 c4, .slice a5 n5 c5, .slice a3 n3 c3] 40)
    replace HM := hide ((HM.out.next hb).next hlo)
    replace HZ := hide ((HZ.out.low hb).low hlo)
    clear hb hlo hRT KC y0 y1 y2 y3 y4 y5
    obtain ⟨y0, y1, y2, y3, y4, y5⟩ := HM.out.box
    simp only at y0 y1 y2 y3 y4 y5
    go_wp2_with fail
    generalize (w4.alloc (.cells #[.slice e1 N1 d1, .slice e2 N2 d2, .slice a4 n4 c4, .slice a5 n5 c5, .slice a3 n3 c3] 40)) = w5 at *
    refine (KP.out _ HM.out).mono ?_
    rintro e w6 ⟨rfl, hb⟩
    replace HM := hide (HM.out.next hb)
    replace HZ := hide (HZ.out.low hb)
    clear hb KP y0 y1 y2 y3 y4 y5
    go_wp2_with fail
    refine (KL.out _ HM.out).mono ?_
    rintro e w7 ⟨hP, hb⟩
    rcases hP with ⟨q2, z2, -, rfl, hz⟩ | ⟨p, k, er, hbad, _⟩
    rotate_left
    · exact (hbad.not HV.out).elim
    have HW : Hid (VwM w q1 q2 qs z1 z2 ⟨r, a1, n1, c1, a2, n2, c2, a3, n3, c3, a4, n4, c4, a5, n5, c5⟩ s w7.drew) := hide (VwM.next ⟨HM.out.next hb, HZ.out.low hb, hz.base HM.out.bel⟩ below_drw)
    clear hb hz KL HM HZ
    generalize s.text = tx at *
    obtain ⟨y0, y1, y2, y3, y4, y5⟩ := HW.out.n.box
    simp only at y0 y1 y2 y3 y4 y5
    go_wp2
    have KM := hide (fun (W : World) (y : Wf.Sv) (h1 : Wf.SpAt W y s) (hn : Wf.NLe y 1000) (h : VwM w q1 q2 qs z1 z2 ⟨r, a1, n1, c1, a2, n2, c2, a3, n3, c3, a4, n4, c4, a5, n5, c5⟩ s W) => Wf.same_any y ⟨r, a1, n1, c1, a2, n2, c2, a3, n3, c3, a4, n4, c4, a5, n5, c5⟩ s W h1 h.n.sp hn.n1 hn.n2 hn.n3 hn.n4 hn.n5)
    go_region_held3 (fun W => W.cell? ⟨qs, 0, none⟩ = some (.bool r) ∧ W.cell? ⟨qs, 1, none⟩ = some (.slice a1 n1 c1) ∧ W.cell? ⟨qs, 2, none⟩ = some (.slice a2 n2 c2) ∧ W.cell? ⟨qs, 3, none⟩ = some (.slice a3 n3 c3) ∧ W.cell? ⟨qs, 4, none⟩ = some (.slice a4 n4 c4) ∧ W.cell? ⟨qs, 5, none⟩ = some (.slice a5 n5 c5)) (first | exact x0 | exact ⟨y0, y1, y2, y3, y4, y5⟩ | go_keep) (first
      | (go_at_call 10; refine (KA.out _ HW.out.n).mono ?_; rintro e W3 ⟨rfl, hb⟩; replace HW := hide (HW.out.next hb); have x0 := HW.out.n.box; clear hb)
      | (go_at_call 16; refine (KM.out _ _ HY.out HYN.out HW.out).mono ?_; rintro e W2 ⟨rfl, hb⟩; replace HW := hide (HW.out.next hb); have x0 := HW.out.n.box; clear hb)
      | (go_at_call 17; refine (vspec_any (by first | exact HW.out.s1 | exact HW.out.s2)).mono ?_; rintro e W1 ⟨⟨y, rfl, hrw, hnl⟩, hb⟩; replace HW := hide (HW.out.next hb); have x0 := HW.out.n.box; have HY := hide hrw.spec; have HYN := hide hnl; clear hb hrw hnl))
    all_goals
      go_wp2
      go_ret
      exact ⟨rfl, HW.out.n.bel⟩
  · have HBD := hide hbad
    have hne := hbad.ne
    have hneb : (er != 0) = true := by simpa using hne
    have hneb2 : (er == 0) = false := by simpa using hne
    obtain ⟨hk1, hp1⟩ := bad_le hbad HRT.out
    have w1' : IntKind.i64.wrap (2 + (k : Int)) = 2 + k := by rw [IntKind.wrap_i64]; omega
    have hn2' : n2 ≤ 60 := by rw [← HL2.out]; exact HS2.out
    have hn1' : n1 ≤ 60 := by rw [← HL1.out]; exact HS1.out
    have w2' : IntKind.i64.wrap (2 + (n1 : Int)) = 2 + n1 := by rw [IntKind.wrap_i64]; omega
    have w3' : IntKind.i64.wrap (2 + (n1 : Int) + n2) = 2 + n1 + n2 := by rw [IntKind.wrap_i64]; omega
    have w4' : IntKind.i64.wrap (2 + (n1 : Int) + n2 + k) = 2 + n1 + n2 + k := by rw [IntKind.wrap_i64]; omega
    clear hbad hne hbase hk1 hp1 hn1' hn2'
    go_wp2_with fail
    refine (unhide HK).mono ?_
    rintro e w3 ⟨rfl, hb⟩
    replace HM := hide (HM.out.next hb)
    clear hb HK y0 y1 y2 y3 y4 y5
    obtain ⟨y0, y1, y2, y3, y4, y5⟩ := HM.out.box
    simp only at y0 y1 y2 y3 y4 y5
    go_wp2_with fail
    refine (KC.out _ HM.out).mono ?_
    rintro e w4 ⟨hP, hb⟩
    rcases hP with ⟨vb, vm, hv, rfl, hRT⟩ | ⟨p', k', er', hbad', rfl⟩
    · exact (HBD.out.not hv).elim
    obtain ⟨rfl, rfl, rfl⟩ := HBD.out.uniq hbad'
    generalize hwt : (if p = 0 then (1 : Int) else 2) = wt
    have HWT := hide hwt
    clear hwt
    have hlo := Wf.low_alloc w4 (.cells rz5 40)
    replace HM := hide ((HM.out.next hb).next hlo)
    clear hb hlo hbad' KC y0 y1 y2 y3 y4 y5
    obtain ⟨y0, y1, y2, y3, y4, y5⟩ := HM.out.box
    simp only at y0 y1 y2 y3 y4 y5
    go_wp2_with fail
    generalize (w4.alloc (.cells rz5 40)) = w5 at *
    refine (KP.out _ HM.out).mono ?_
    rintro e w6 ⟨rfl, hb⟩
    replace HM := hide (HM.out.next hb)
    clear hb KP y0 y1 y2 y3 y4 y5
    go_wp2_with fail
    refine (KL.out _ HM.out).mono ?_
    rintro e w7 ⟨hP, hb⟩
    rcases hP with ⟨q2, z2, hv, rfl, hz⟩ | ⟨p', k', er', hbad', rfl⟩
    · exact (HBD.out.not hv).elim
    obtain ⟨rfl, rfl, rfl⟩ := HBD.out.uniq hbad'
    replace HM := hide (HM.out.next hb)
    rw [HL1.out, HL2.out]
    clear hb hbad' KL
    generalize s.text = tx at *
    obtain ⟨y0, y1, y2, y3, y4, y5⟩ := HM.out.box
    simp only at y0 y1 y2 y3 y4 y5
    replace HM := hide (HM.out.next below_drw)
    by_cases hp0 : p = 0
    · subst hp0
      have hl : ((lineV 0 k (n1 + n2) : Nat) : Int) = 2 + k := by simp [lineV]
      obtain rfl : (1 : Int) = wt := by simpa using HWT.out
      rw [hl]
      clear hl HWT
      clear y0 y1 y2 y3 y4 y5
      go_wp2
      have HK2 := hide (fun d : Wc (VlN w qs ⟨r, a1, n1, c1, a2, n2, c2, a3, n3, c3, a4, n4, c4, a5, n5, c5⟩ s) => Calls.toV (fun _ _ h hb => h.next hb) d (KA.out d.W d.h))
      have ne : Nonempty (Wc (VlN w qs ⟨r, a1, n1, c1, a2, n2, c2, a3, n3, c3, a4, n4, c4, a5, n5, c5⟩ s)) := ⟨⟨_, HM.out⟩⟩
      refine region_v (α := Wc (VlN w qs ⟨r, a1, n1, c1, a2, n2, c2, a3, n3, c3, a4, n4, c4, a5, n5, c5⟩ s)) Wc.W (by kernel_rfl) (by kernel_rfl) ⟨_, HM.out⟩ rfl ?_
      repeat (go_big_quiet_step ((go_at_call 10; exact HK2.out _)))
      refine wpQuiet_nil ?_
      intro W8 hw'
      have hM : VlN w qs ⟨r, a1, n1, c1, a2, n2, c2, a3, n3, c3, a4, n4, c4, a5, n5, c5⟩ s W8 := by
        obtain ⟨d, hd⟩ := hw'
        rw [hd]
        exact d.h
      have HB := hide hM.bel
      clear HK2 ne hw' hM HM
      go_wp2
      go_ret
      exact ⟨rfl, HB.out⟩
    · have hl : ((lineV p k (n1 + n2) : Nat) : Int) = 2 + n1 + n2 + k := by simp [lineV, hp0]; omega
      obtain rfl : (2 : Int) = wt := by have := HWT.out; rw [if_neg hp0] at this; exact this
      rw [hl]
      clear hl hp0 HWT
      go_wp2
      clear y0 y1 y2 y3 y4 y5
      have HK2 := hide (fun d : Wc (VlN w qs ⟨r, a1, n1, c1, a2, n2, c2, a3, n3, c3, a4, n4, c4, a5, n5, c5⟩ s) => Calls.toV (fun _ _ h hb => h.next hb) d (KA.out d.W d.h))
      have ne : Nonempty (Wc (VlN w qs ⟨r, a1, n1, c1, a2, n2, c2, a3, n3, c3, a4, n4, c4, a5, n5, c5⟩ s)) := ⟨⟨_, HM.out⟩⟩
      refine region_v (α := Wc (VlN w qs ⟨r, a1, n1, c1, a2, n2, c2, a3, n3, c3, a4, n4, c4, a5, n5, c5⟩ s)) Wc.W (by kernel_rfl) (by kernel_rfl) ⟨_, HM.out⟩ rfl ?_
      repeat (go_big_quiet_step ((go_at_call 10; exact HK2.out _)))
      refine wpQuiet_nil ?_
      intro W8 hw'
      have hM : VlN w qs ⟨r, a1, n1, c1, a2, n2, c2, a3, n3, c3, a4, n4, c4, a5, n5, c5⟩ s W8 := by
        obtain ⟨d, hd⟩ := hw'
        rw [hd]
        exact d.h
      have HB := hide hM.bel
      clear HK2 ne hw' hM HM
      go_wp2
      go_ret
      exact ⟨rfl, HB.out⟩
end Go.Proofs.YtoihocbnhoniaaaGreatDoor
