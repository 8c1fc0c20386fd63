/- The vocabulary of the laws' case, its rows being none of its box; how it stands while it is used. -/
import Derived.Test.YtdpmjaelbjjanaaGreatQa39
import Derived.Test.YtdpmjaelbjjanaaGreatQv0
namespace Go.Proofs.YtdpmjaelbjjanaaGreat
open Go.RowKit Go.Maps
set_option linter.unusedVariables false
set_option linter.unusedSimpArgs false

theorem row_off {α : Type} {B E k : Nat} {e : α → List Value} {ao : Option Addr} {n cap : Nat} {l : List α} {W : World} (h : Wf.Row B E k e ao n cap l W) (h0 : 0 < n) {b off : Nat} (ea : ao = some ⟨b, off, none⟩) {q : Nat} {cs : Array Value} {T : TypeId} (hb : W.heap[q]? = some (.cells cs T (0, 0))) (hT : T ≠ E) : b ≠ q := by
  rintro rfl
  subst ea
  rcases h.own.2 with ⟨e1, _⟩ | ⟨g, c, cur, e1, _, hg, _⟩
  · simp at e1
  · simp only [Value.slice.injEq, Option.some.injEq, Addr.mk.injEq] at e1
    obtain ⟨⟨rfl, _⟩, _⟩ := e1
    rw [hb] at hg
    simp only [Option.some.injEq, Obj.cells.injEq] at hg
    exact hT hg.2.1

/-- What comes of Of. -/
def OcX (w : World) (e : Ending) (w' : World) : Prop :=
  (∃ (s : Wf.Sp) (q : Nat) (z : VV) (B : Nat) (vb vm : Value) (a4 : Option Addr) (n4 c4 : Nat) (a5 : Option Addr) (n5 c5 : Nat) (a3 : Option Addr) (n3 c3 : Nat), e = .returned (.tuple #[.pointer (some ⟨q, 0, none⟩), .agg #[vb, vm, .slice a4 n4 c4, .slice a5 n5 c5, .slice a3 n3 c3]]) ∧
    VOk s ∧ okB s ∧ s.specials.length ≤ 1000 ∧ w.heap.size ≤ q ∧ Ve B q z s 0 w' ∧ DvP s vb vm a4 n4 a5 n5 a3 n3 w' ∧ (0 < n4 → ∀ b off, a4 = some ⟨b, off, none⟩ → b ≠ q) ∧ (0 < n5 → ∀ b off, a5 = some ⟨b, off, none⟩ → b ≠ q)) ∧ Below w.heap.size w w'

set_option maxRecDepth 20000 in
set_option maxHeartbeats 8000000 in
theorem cofx_any (c : CsR) (w : World) (h : CsAt c w) (hf : CsF c) : Calls Tryz.prog 11 #[.agg c.cells] w (OcX w) := by
  have hlo := Wf.low_alloc w (.cells c.cells 27)
  have hlo2 := Wf.low_alloc (w.alloc (.cells c.cells 27)) (.cells rz5 38)
  have hB0 := below_step hlo hlo2
  have HB0 := hide hB0
  have hbx := heap_alloc_new w (.cells c.cells 27)
  have hres := heap_alloc_new (w.alloc (.cells c.cells 27)) (.cells rz5 38)
  rw [World.size_alloc] at hres
  have HRS := hide hres
  have h1 := h.kept hB0
  have HSM := hide (rsome_any c.au c.nu c.cu c.U c.ac c.nc c.cc c.C c.aj c.nj c.cj c.J c.ax c.nx c.cx c.X _ h1.hU h1.hC h1.hJ h1.hX (by have := hf.fu; omega) (by have := hf.fc; omega) (by have := hf.fj; omega) (by have := hf.fx; omega) h1.q2 h1.q3)
  clear h hlo hlo2 hf h1 hB0 hres
  obtain ⟨au, nu, cu, U, ac, nc, cc, C, aj, nj, cj, J, ax, nx, cx, X⟩ := c
  simp only [CsR.cells] at *
  have y0 := Lib.cell_of_heap hbx 0
  have y1 := Lib.cell_of_heap hbx 1
  have y2 := Lib.cell_of_heap hbx 2
  have y3 := Lib.cell_of_heap hbx 3
  clear hbx
  go_enter Tryz.func11, Tryz.ntmps11
  go_wp2_with fail
  refine (unhide HSM).mono ?_
  clear HSM y0 y1 y2 y3
  generalize (w.alloc (.cells #[.slice au nu cu, .slice ac nc cc, .slice aj nj cj, .slice ax nx cx] 27)).alloc (.cells rz5 38) = W0 at *
  rintro e w3 ⟨⟨ys, s, tx, mg, rfl, hR, hG, hrw⟩, hb3⟩
  have hB3 := below_step HB0.out hb3
  have HRS3 := hide ((hb3.block _ (Array.getElem?_eq_some_iff.1 HRS.out).1).trans HRS.out)
  have hlo := Wf.low_alloc w3 (.cells ys.cs 81)
  have HB4 := hide (below_step hB3 hlo)
  have HRS4 := hide ((hlo.block _ (Array.getElem?_eq_some_iff.1 HRS3.out).1).trans HRS3.out)
  have HRT := hide (smg_right hG hR)
  have HOK := hide (smg_ok hG hR)
  have HOB := hide (smg_okb hG)
  have HRW : Hid (Wf.SpRw w.heap.size ys s (w3.alloc (.cells ys.cs 81))) := hide ((hrw.low hlo).mono HB0.out.size)
  have HNW := hide (vnew_any ys s _ HRW.out.spec)
  have HNS := hide (at_le HRW.out.spec HRT.out)
  have hbx0 := Wf.BxS.new w3 ys 81
  have HBX := hide hbx0
  obtain ⟨y0, y1, y2, y3, y4, y5⟩ := hbx0
  have hqs : w3.heap.size < (w3.alloc (.cells ys.cs 81)).heap.size := by simp
  have HQS := hide hqs
  have HLS := hide HRW.out.spec.ss.1
  clear hb3 hB3 hlo hR hG hrw hqs HRS HRS3 HB0
  obtain ⟨r, a1, n1, c1, a2, n2, c2, a3, n3, c3, a4, n4, c4, a5, n5, c5⟩ := ys
  simp only at y0 y1 y2 y3 y4 y5 HLS
  go_wp2_with fail
  generalize w3.heap.size = qs at *
  generalize (w3.alloc (.cells (Wf.Sv.mk r a1 n1 c1 a2 n2 c2 a3 n3 c3 a4 n4 c4 a5 n5 c5).cs 81)) = W1 at *
  refine (unhide HNW).mono ?_
  rintro e W2 ⟨hP, hb⟩
  rcases hP with ⟨hr, _⟩ | ⟨_, ⟨q, z, _, rfl, hz⟩ | ⟨p, k, er, hbad, _⟩⟩
  · exact absurd ((Wf.rightB_iff s).2 HRT.out) (by rw [hr]; simp)
  rotate_left
  · exact (hbad.not HOK.out).elim
  have HZ := hide hz
  have HQ : Hid (w.heap.size ≤ q ∧ W1.heap.size ≤ q) := hide ⟨Nat.le_trans HB4.out.size hz.hq, hz.hq⟩
  have HRQ : Hid (w.heap.size + 1 < W1.heap.size) := hide (Array.getElem?_eq_some_iff.1 HRS4.out).1
  have HB5 := hide (below_step HB4.out hb)
  have HRS5 := hide ((hb.block _ (Array.getElem?_eq_some_iff.1 HRS4.out).1).trans HRS4.out)
  have HRW2 := hide (HRW.out.low hb)
  have HBX2 := hide (HBX.out.kept HQS.out hb)
  have HOF := hide (rof_any _ s W2 HRW2.out.spec HRT.out HOK.out)
  clear hz hb HNW y0 y1 y2 y3 y4 y5 HBX HRW HRS4 HQS
  obtain ⟨y0, y1, y2, y3, y4, y5⟩ := HBX2.out
  simp only at y0 y1 y2 y3 y4 y5
  go_wp2_with fail
  refine (unhide HOF).mono ?_
  rintro e W3 ⟨⟨vb, vm, rfl, hT⟩, hb⟩
  obtain ⟨e1, d1, rfl⟩ := row_form hT.rb
  obtain ⟨e2, d2, rfl⟩ := row_form hT.rm
  have HZ3 := hide (HZ.out.low hb)
  have HB6 := hide (below_step HB5.out hb)
  have HRS6 := hide ((hb.block _ (Array.getElem?_eq_some_iff.1 HRS5.out).1).trans HRS5.out)
  have HRW3 := hide (HRW2.out.low hb)
  have HT := hide hT
  clear hT hb HOF HBX2 HZ HB5 HRS5 HRW2 y0 y1 y2 y3 y4 y5
  generalize hN1 : (txT s).length = N1 at *
  generalize hN2 : (mgT s).length = N2 at *
  have HN := hide (And.intro hN1 hN2)
  clear hN1 hN2
  have x0 := Lib.frozen_of_heap HRS6.out 0
  have x1 := Lib.frozen_of_heap HRS6.out 1
  have x2 := Lib.frozen_of_heap HRS6.out 2
  have x3 := Lib.frozen_of_heap HRS6.out 3
  have x4 := Lib.frozen_of_heap HRS6.out 4
  have z0 := Lib.cell_of_heap HRS6.out 0
  have z1 := Lib.cell_of_heap HRS6.out 1
  have z2 := Lib.cell_of_heap HRS6.out 2
  have z3 := Lib.cell_of_heap HRS6.out 3
  have z4 := Lib.cell_of_heap HRS6.out 4
  go_wp2
  have HF : Hid (FrL [w.heap.size + 1] W3 (((((W3.setCell ⟨w.heap.size + 1, 0, none⟩ (.slice e1 N1 d1)).setCell ⟨w.heap.size + 1, 1, none⟩ (.slice e2 N2 d2)).setCell ⟨w.heap.size + 1, 2, none⟩ (.slice a4 n4 c4)).setCell ⟨w.heap.size + 1, 3, none⟩ (.slice a5 n5 c5)).setCell ⟨w.heap.size + 1, 4, none⟩ (.slice a3 n3 c3))) := hide ((((((FrL.refl [w.heap.size + 1] W3).set (b := w.heap.size + 1) (o := 0) (by simp) (.slice e1 N1 d1)).set (b := w.heap.size + 1) (o := 1) (by simp) (.slice e2 N2 d2)).set (b := w.heap.size + 1) (o := 2) (by simp) (.slice a4 n4 c4)).set (b := w.heap.size + 1) (o := 3) (by simp) (.slice a5 n5 c5)).set (b := w.heap.size + 1) (o := 4) (by simp) (.slice a3 n3 c3))
  have HZZ : Hid ((((((W3.setCell ⟨w.heap.size + 1, 0, none⟩ (.slice e1 N1 d1)).setCell ⟨w.heap.size + 1, 1, none⟩ (.slice e2 N2 d2)).setCell ⟨w.heap.size + 1, 2, none⟩ (.slice a4 n4 c4)).setCell ⟨w.heap.size + 1, 3, none⟩ (.slice a5 n5 c5)).setCell ⟨w.heap.size + 1, 4, none⟩ (.slice a3 n3 c3)).heap[w.heap.size + 1]? = some (.cells #[.slice e1 N1 d1, .slice e2 N2 d2, .slice a4 n4 c4, .slice a5 n5 c5, .slice a3 n3 c3] 38 (0, 0))) := hide (by simpa using (Wf.set_block (Wf.set_block (Wf.set_block (Wf.set_block (Wf.set_block HRS6.out 0 (.slice e1 N1 d1)) 1 (.slice e2 N2 d2)) 2 (.slice a4 n4 c4)) 3 (.slice a5 n5 c5)) 4 (.slice a3 n3 c3)))
  generalize (((((W3.setCell ⟨w.heap.size + 1, 0, none⟩ (.slice e1 N1 d1)).setCell ⟨w.heap.size + 1, 1, none⟩ (.slice e2 N2 d2)).setCell ⟨w.heap.size + 1, 2, none⟩ (.slice a4 n4 c4)).setCell ⟨w.heap.size + 1, 3, none⟩ (.slice a5 n5 c5)).setCell ⟨w.heap.size + 1, 4, none⟩ (.slice a3 n3 c3)) = W4 at *
  have g0 := Lib.cell_of_heap HZZ.out 0
  have g1 := Lib.cell_of_heap HZZ.out 1
  have g2 := Lib.cell_of_heap HZZ.out 2
  have g3 := Lib.cell_of_heap HZZ.out 3
  have g4 := Lib.cell_of_heap HZZ.out 4
  have hV : IsV (w.heap.size + 1) W3 := isV_rz HRS6.out
  have hq1 := HQ.out
  have hq2 := HRQ.out
  obtain ⟨z', hz'⟩ := (HZ3.out.base HB4.out).other hV (by omega) (by omega) HF.out
  have hrw := rows_q HRW3.out hV HF.out
  have hns := HNS.out
  (try simp only [Exit.inBlock, Exit.then])
  refine bodyPost_ret (v := .tuple #[.pointer (some ⟨q, 0, none⟩), .agg #[.slice e1 N1 d1, .slice e2 N2 d2, .slice a4 n4 c4, .slice a5 n5 c5, .slice a3 n3 c3]]) (by simp [results, Tryz.results11, go_sem, g0, g1, g2, g3, g4]) rfl ?_
  refine ⟨⟨s, q, z', _, _, _, a4, n4, c4, a5, n5, c5, a3, n3, c3, rfl, HOK.out, HOB.out, by rw [HLS.out]; exact hns.n3, hq1.1, hz'.ve, ⟨HT.out.q HRS6.out (by decide) (by decide) HF.out, bd_at hrw.spec.cs, bj_at hrw.spec.js, mk_at hrw.spec.ss, hns.n4, hns.n5, hns.n3⟩, fun h0 b off e => row_off hrw.m4 h0 e hz'.ve.vu.box (by decide), fun h0 b off e => row_off hrw.m5 h0 e hz'.ve.vu.box (by decide)⟩, ?_⟩
  exact HB6.out.trans (HF.out.below HB6.out.size (fun k hk => by simp at hk; omega))

/-- Where the law stands: the vocabulary, and the document's. -/
structure SvS (w : World) (B q qd : Nat) (z : VV) (s : Wf.Sp) (vb vm : Value) (a4 : Option Addr) (n4 c4 : Nat) (a5 : Option Addr) (n5 c5 : Nat) (a3 : Option Addr) (n3 c3 : Nat) (W : World) : Prop where
  va : ∃ u d ax an, Va B q z s u d ax an 0 W
  bel : Below w.heap.size w W
  rt : RT vb vm (txT s) (mgT s) W
  rd : Mk.RdS W a3 n3 s.specials
  rc : Wf.Bq.RdC W a4 n4 s.classes
  rj : Wf.Bq.RdJ W a5 n5 s.joins
  ncq : 0 < n4 → ∀ b off, a4 = some ⟨b, off, none⟩ → b ≠ q
  njq : 0 < n5 → ∀ b off, a5 = some ⟨b, off, none⟩ → b ≠ q
  box : W.heap[qd]? = some (.cells #[vb, vm, .slice a4 n4 c4, .slice a5 n5 c5, .slice a3 n3 c3] 38 (0, 0))
  hq : w.heap.size ≤ q
section
variable {w : World} {B q qd : Nat} {z : VV} {s : Wf.Sp} {vb vm : Value} {a4 : Option Addr} {n4 c4 : Nat} {a5 : Option Addr} {n5 c5 : Nat} {a3 : Option Addr} {n3 c3 : Nat} {W W' : World}
theorem SvS.next (h : SvS w B q qd z s vb vm a4 n4 c4 a5 n5 c5 a3 n3 c3 W) (hb : Below W.heap.size W W') : SvS w B q qd z s vb vm a4 n4 c4 a5 n5 c5 a3 n3 c3 W' := by
  obtain ⟨u, d, ax, an, hv⟩ := h.va
  exact ⟨⟨u, d, ax, an, hv.low hb⟩, h.bel.trans (hb.mono h.bel.size), h.rt.kept hb, h.rd.kept hb, h.rc.kept hb, h.rj.kept hb, h.ncq, h.njq, by rw [hb.block _ (Array.getElem?_eq_some_iff.1 h.box).1]; exact h.box, h.hq⟩
theorem SvS.turned (h : SvS w B q qd z s vb vm a4 n4 c4 a5 n5 c5 a3 n3 c3 W) (hv : ∃ u d ax an, Va B q z s u d ax an 0 W') (hF : FrL [q] W W') : SvS w B q qd z s vb vm a4 n4 c4 a5 n5 c5 a3 n3 c3 W' := by
  obtain ⟨u, d, ax, an, hv0⟩ := h.va
  have hV : IsV q W := IsV.of hv0.box
  have hw := h.hq
  refine ⟨hv, h.bel.trans (hF.below h.bel.size (fun k hk => by simp at hk; omega)), h.rt.q hv0.box (by decide) (by decide) hF, ?_, ?_, ?_, h.ncq, h.njq, ?_, h.hq⟩
  · refine ⟨h.rd.1, ?_⟩
    rcases h.rd.2 with h0 | ⟨b, off, ha, hlt, hc⟩
    · exact Or.inl h0
    · rcases Nat.eq_zero_or_pos n3 with h0 | h0
      · exact Or.inl h0
      · have hne := hV.ne_str (hc 0 h0).2
        exact Or.inr ⟨b, off, ha, Nat.lt_of_lt_of_le hlt hF.size, fun i hi => ⟨frq hF (hc i hi).1 hne, frq hF (hc i hi).2 hne⟩⟩
  · refine ⟨h.rc.1, ?_⟩
    rcases h.rc.2 with h0 | ⟨b, off, ha, hlt, hc⟩
    · exact Or.inl h0
    · rcases Nat.eq_zero_or_pos n4 with h0 | h0
      · exact Or.inl h0
      · have hne := h.ncq h0 b off ha
        exact Or.inr ⟨b, off, ha, Nat.lt_of_lt_of_le hlt hF.size, fun i hi => ⟨frq hF (hc i hi).1 hne, frq hF (hc i hi).2.1 hne, frq hF (hc i hi).2.2 hne⟩⟩
  · refine ⟨h.rj.1, ?_⟩
    rcases h.rj.2 with h0 | ⟨b, off, ha, hlt, hc⟩
    · exact Or.inl h0
    · rcases Nat.eq_zero_or_pos n5 with h0 | h0
      · exact Or.inl h0
      · have hne := h.njq h0 b off ha
        exact Or.inr ⟨b, off, ha, Nat.lt_of_lt_of_le hlt hF.size, fun i hi => ⟨frq hF (hc i hi).1 hne, frq hF (hc i hi).2 hne⟩⟩
  · have hne : qd ≠ q := by
      rintro rfl
      have h1 := h.box
      rw [hv0.box] at h1
      simp only [Option.some.injEq, Obj.cells.injEq] at h1
      exact absurd h1.2.1 (by decide)
    rw [hF.block qd (Array.getElem?_eq_some_iff.1 h.box).1 (by simpa using hne)]
    exact h.box
theorem SvS.alone (h : SvS w B q qd z s vb vm a4 n4 c4 a5 n5 c5 a3 n3 c3 W) (hR : okB s) (hl : s.specials.length ≤ 1000) (id : Int) (hw : Mk.wfI id) :
    Calls Tryz.prog 59 #[.pointer (some ⟨q, 0, none⟩), .int .i64 id] W fun e w' => e = .returned (.bool (aloneV s id)) ∧ SvS w B q qd z s vb vm a4 n4 c4 a5 n5 c5 a3 n3 c3 w' := by
  obtain ⟨u, d, ax, an, hv⟩ := h.va
  exact (valone_any hv hR hl id hw).mono (fun e w' ⟨h1, h2, h3⟩ => ⟨h1, h.turned h2 h3⟩)
theorem SvS.cells (h : SvS w B q qd z s vb vm a4 n4 c4 a5 n5 c5 a3 n3 c3 W) : W.cell? ⟨qd, 0, none⟩ = some vb ∧ W.cell? ⟨qd, 1, none⟩ = some vm ∧ W.cell? ⟨qd, 2, none⟩ = some (.slice a4 n4 c4) ∧ W.cell? ⟨qd, 3, none⟩ = some (.slice a5 n5 c5) ∧ W.cell? ⟨qd, 4, none⟩ = some (.slice a3 n3 c3) :=
  ⟨Lib.cell_of_heap h.box 0, Lib.cell_of_heap h.box 1, Lib.cell_of_heap h.box 2, Lib.cell_of_heap h.box 3, Lib.cell_of_heap h.box 4⟩
end
end Go.Proofs.YtdpmjaelbjjanaaGreat
