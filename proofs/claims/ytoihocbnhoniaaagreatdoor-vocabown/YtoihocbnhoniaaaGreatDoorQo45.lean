/- Contracts: vocab.New; a right spec's text, told and loaded. VocabOwn: rows that are written, a vocabulary that stays as it is. VocabOwn: the walk. -/
import Derived.Test.YtoihocbnhoniaaaGreatDoorQo40
import Derived.Test.YtoihocbnhoniaaaGreatDoorQo44
import Derived.Test.YtoihocbnhoniaaaGreatDoorQo42
import Derived.Test.YtoihocbnhoniaaaGreatDoorQo36
namespace Go.Proofs.YtoihocbnhoniaaaGreatDoor
open Go.RowKit Go.Maps
set_option linter.unusedVariables false
set_option linter.unusedSimpArgs false

theorem below_drwV {W : World} : Below W.heap.size W W.drew := ⟨rfl, rfl, rfl, Nat.le_refl _, fun _ _ => rfl⟩
/-- What comes of New. -/
def NwV (s : Wf.Sp) (w : World) (e : Ending) (w' : World) : Prop :=
  ((Wf.rightB s = false ∧ e = .returned (.tuple #[.pointer none, .int .i64 0, .int .i64 1])) ∨
   (s.Right ∧ ((∃ q z, VOk s ∧ e = .returned (.tuple #[.pointer (some ⟨q, 0, none⟩), .int .i64 0, .int .i64 0]) ∧ StB w q 4 z s w') ∨ ∃ (p k : Nat) (er : Int), VBad s p k er ∧ e = .returned (.tuple #[.pointer none, .int .i64 k, .int .i64 er])))) ∧ Below w.heap.size w w'

set_option maxRecDepth 20000 in
set_option maxHeartbeats 8000000 in
theorem vnew_any (x : Wf.Sv) (s : Wf.Sp) (w : World) (h : Wf.SpAt w x s) :
    Calls Tryz.prog 11 #[.agg x.cs] w (NwV s w) := by
  have hlo := Wf.low_alloc w (.cells x.cs 28)
  have HI := hide (Wf.SpI.new h 28)
  have HC := hide (Wf.right_any x s _ HI.out.sp)
  have HB := hide hlo
  clear h hlo
  obtain ⟨y0, y1, y2, y3, y4, y5⟩ := HI.out.box
  obtain ⟨r, a1, n1, c1, a2, n2, c2, a3, n3, c3, a4, n4, c4, a5, n5, c5⟩ := x
  simp only at y0 y1 y2 y3 y4 y5
  cases hr : Wf.rightB s with
  | false =>
    have HR := hide hr
    rw [hr] at HC
    clear hr
    go_enter Tryz.func11, Tryz.ntmps11
    go_wp2_with fail
    refine (unhide HC).mono ?_
    rintro e w2 ⟨rfl, hb2⟩
    have HB2 := hide (HI.out.next hb2).bel
    clear hb2 HI HC HB y0 y1 y2 y3 y4 y5
    go_wp2
    (try simp only [Exit.inBlock, Exit.then])
    refine bodyPost_ret (v := .tuple #[.pointer none, .int .i64 0, .int .i64 1]) (by simp [results, Tryz.results11, go_sem]) rfl ?_
    exact ⟨Or.inl ⟨HR.out, rfl⟩, HB2.out⟩
  | true =>
    have HRT := hide ((Wf.rightB_iff s).1 hr)
    rw [hr] at HC
    clear hr
    go_enter Tryz.func11, Tryz.ntmps11
    go_wp2_with fail
    refine (unhide HC).mono ?_
    rintro e w2 ⟨rfl, hb2⟩
    replace HI := hide (HI.out.next hb2)
    clear hb2 HC HB y0 y1 y2 y3 y4 y5
    obtain ⟨y0, y1, y2, y3, y4, y5⟩ := HI.out.box
    simp only at y0 y1 y2 y3 y4 y5
    have HBU := hide (build_any _ s _ HI.out.sp HRT.out (at_le HI.out.sp HRT.out))
    go_wp2_with fail
    refine (unhide HBU).mono ?_
    rintro e w3 ⟨hP, hb3⟩
    rcases hP with ⟨q, z, hv, rfl, hz⟩ | ⟨p, k, er, hbad, rfl⟩
    · have hla := Wf.low_alloc w3 (.cells #[.int .i64 0, .int .i64 0, .int .i64 0] 80)
      have HZ := hide (((hz.base HI.out.bel).low hla).low below_drwV)
      have hfl := heap_alloc_new w3 (.cells #[.int .i64 0, .int .i64 0, .int .i64 0] 80)
      have x1 : (w3.alloc (.cells #[.int .i64 0, .int .i64 0, .int .i64 0] 80)).cell? ⟨w3.heap.size, 1, none⟩ = some (.int .i64 0) := Lib.cell_of_heap hfl 1
      have x2 : (w3.alloc (.cells #[.int .i64 0, .int .i64 0, .int .i64 0] 80)).cell? ⟨w3.heap.size, 2, none⟩ = some (.int .i64 0) := Lib.cell_of_heap hfl 2
      have HV := hide hv
      clear hv hz hla hfl hb3 HBU HI y0 y1 y2 y3 y4 y5
      go_wp2
      generalize w3.heap.size = bf at *
      generalize w3.alloc (.cells #[.int .i64 0, .int .i64 0, .int .i64 0] 80) = w4 at *
      go_region
      all_goals
        go_wp2
        (try simp only [Exit.inBlock, Exit.then])
        refine bodyPost_ret (v := .tuple #[.pointer (some ⟨q, 0, none⟩), .int .i64 0, .int .i64 0]) (by simp [results, Tryz.results11, go_sem]) rfl ?_
        exact ⟨Or.inr ⟨HRT.out, Or.inl ⟨q, z, HV.out, rfl, HZ.out⟩⟩, HZ.out.bel⟩
    · have hla := Wf.low_alloc w3 (.cells #[.int .i64 p, .int .i64 k, .int .i64 er] 80)
      have HB5 := hide ((HI.out.next hb3).next hla).bel
      have HB6 : Hid (Below w.heap.size w (w3.alloc (.cells #[.int .i64 p, .int .i64 k, .int .i64 er] 80)).drew) := hide (HB5.out.trans ⟨rfl, rfl, rfl, Nat.le_refl _, fun _ _ => rfl⟩)
      have hfl := heap_alloc_new w3 (.cells #[.int .i64 p, .int .i64 k, .int .i64 er] 80)
      have x1 : (w3.alloc (.cells #[.int .i64 p, .int .i64 k, .int .i64 er] 80)).cell? ⟨w3.heap.size, 1, none⟩ = some (.int .i64 k) := Lib.cell_of_heap hfl 1
      have x2 : (w3.alloc (.cells #[.int .i64 p, .int .i64 k, .int .i64 er] 80)).cell? ⟨w3.heap.size, 2, none⟩ = some (.int .i64 er) := Lib.cell_of_heap hfl 2
      have HBD := hide hbad
      clear hbad hla hfl hb3 HBU HI HB5 y0 y1 y2 y3 y4 y5
      go_wp2
      generalize w3.heap.size = bf at *
      generalize w3.alloc (.cells #[.int .i64 p, .int .i64 k, .int .i64 er] 80) = w4 at *
      go_region
      all_goals
        go_wp2
        (try simp only [Exit.inBlock, Exit.then])
        refine bodyPost_ret (v := .tuple #[.pointer none, .int .i64 k, .int .i64 er]) (by simp [results, Tryz.results11, go_sem]) rfl ?_
        exact ⟨Or.inr ⟨HRT.out, Or.inr ⟨p, k, er, HBD.out, rfl⟩⟩, HB6.out⟩

end Go.Proofs.YtoihocbnhoniaaaGreatDoor

namespace Go.Proofs.YtoihocbnhoniaaaGreatDoor
open Go.RowKit Go.Maps
set_option linter.unusedVariables false
set_option linter.unusedSimpArgs false
attribute [local go_sem ↓] Go.wp_at_zero Go.wp_at_succ

/-- The blocks from B1 up to B2 are as they were. -/
def Agr (B1 B2 : Nat) (W W' : World) : Prop := (∀ k, B1 ≤ k → k < B2 → W'.heap[k]? = W.heap[k]?) ∧ W.heap.size ≤ W'.heap.size
theorem Agr.set {B1 B2 : Nat} {W W' : World} (h : Agr B1 B2 W W') {g : Nat} (hg : g < B1 ∨ B2 ≤ g) (o : Nat) (v : Value) : Agr B1 B2 W (W'.setCell ⟨g, o, none⟩ v) :=
  ⟨fun k h1 h2 => (heap_setCell_other W' ⟨g, o, none⟩ k v (by simp; omega)).trans (h.1 k h1 h2), by have := h.2; simp; omega⟩
theorem Agr.low {B1 B2 : Nat} {W W' W2 : World} (h : Agr B1 B2 W W') (hB : B2 ≤ W'.heap.size) (hb : Below W'.heap.size W' W2) : Agr B1 B2 W W2 :=
  ⟨fun k h1 h2 => (hb.block k (by omega)).trans (h.1 k h1 h2), Nat.le_trans h.2 hb.size⟩
theorem row_agr {α : Type} {B1 B2 E k : Nat} {e : α → List Value} {ao : Option Addr} {n cap : Nat} {l : List α} {W W' : World} (h : Wf.Row B1 E k e ao n cap l W) (h2 : W.heap.size ≤ B2) (ha : Agr B1 B2 W W') : Wf.Row B1 E k e ao n cap l W' := by
  refine ⟨h.len, h.own.1, ?_⟩
  rcases h.own.2 with hn | ⟨g, c, cur, h1, h3, h4, rest⟩
  · exact Or.inl hn
  · refine Or.inr ⟨g, c, cur, h1, h3, ?_, rest⟩
    rw [ha.1 g h3 (by have := (Array.getElem?_eq_some_iff.1 h4).1; omega)]
    exact h4
/-- What Spec reads of a vocabulary. -/
structure VRd (q : Nat) (y : Wf.Sv) (s : Wf.Sp) (W : World) : Prop where
  box : ∃ cs : Array Value, W.heap[q]? = some (.cells cs 114 (0, 0)) ∧ cs[0]? = some (.bool y.r) ∧ cs[1]? = some (.slice y.a1 y.n1 y.c1) ∧ cs[2]? = some (.slice y.a2 y.n2 y.c2) ∧ cs[3]? = some (.slice y.a3 y.n3 y.c3) ∧ cs[4]? = some (.slice y.a4 y.n4 y.c4) ∧ cs[5]? = some (.slice y.a5 y.n5 y.c5)
  sp : Wf.SpAt W y s
theorem VRd.of {w W : World} {q : Nat} {z : VV} {s : Wf.Sp} (h : StB w q 4 z s W) {W' : World} (ha : Agr w.heap.size W.heap.size W W') : VRd q z.y s W' := by
  refine ⟨⟨_, (ha.1 q h.hq h.lt).trans h.box, rfl, rfl, rfl, rfl, rfl, rfl⟩, ?_⟩
  have hr : Wf.SpRw w.heap.size z.y s W' := ⟨h.rows.r, row_agr h.rows.m1 (Nat.le_refl _) ha, row_agr h.rows.m2 (Nat.le_refl _) ha, row_agr h.rows.m3 (Nat.le_refl _) ha, row_agr h.rows.m4 (Nat.le_refl _) ha, row_agr h.rows.m5 (Nat.le_refl _) ha⟩
  exact hr.spec
/-- A row that may be written: its cells are there. -/
def WrR (E k B1 B2 : Nat) (a : Option Addr) (n : Nat) (W : World) : Prop := n = 0 ∨ ∃ g cs, a = some ⟨g, 0, none⟩ ∧ (B1 ≤ g ∧ g < B2) ∧ W.heap[g]? = some (.cells cs E (0, 0)) ∧ n * k ≤ cs.size
theorem WrR.of {α : Type} {B E k : Nat} {e : α → List Value} {ao : Option Addr} {n cap : Nat} {l : List α} {W : World} (h : Wf.Row B E k e ao n cap l W) (hk : ∀ a, (e a).length = k) : WrR E k B W.heap.size ao n W := by
  rcases h.own.2 with ⟨hv, h0⟩ | ⟨g, c, cur, h1, h3, h4, h5, h6, h7, h8⟩
  · exact Or.inl h0
  · simp only [Value.slice.injEq] at h1
    obtain ⟨rfl, -, rfl⟩ := h1
    refine Or.inr ⟨g, cur, rfl, ⟨h3, (Array.getElem?_eq_some_iff.1 h4).1⟩, h4, ?_⟩
    rw [h7]
    exact Nat.mul_le_mul_right k h5
theorem WrR.set {E k B1 B2 : Nat} {a : Option Addr} {n : Nat} {W : World} (h : WrR E k B1 B2 a n W) (g o : Nat) (v : Value) : WrR E k B1 B2 a n (W.setCell ⟨g, o, none⟩ v) := by
  rcases h with h | ⟨g2, cs, h1, h2, h3, h4⟩
  · exact Or.inl h
  · by_cases hg : g = g2
    · subst hg
      exact Or.inr ⟨g, _, h1, h2, Wf.set_block h3 o v, by simpa using h4⟩
    · exact Or.inr ⟨g2, cs, h1, h2, (heap_setCell_other W ⟨g, o, none⟩ g2 v (by simpa using fun e => hg e.symm)).trans h3, h4⟩
theorem WrR.low {E k B1 B2 : Nat} {a : Option Addr} {n : Nat} {W W' : World} (h : WrR E k B1 B2 a n W) (hb : Below W.heap.size W W') : WrR E k B1 B2 a n W' := by
  rcases h with h | ⟨g2, cs, h1, h2, h3, h4⟩
  · exact Or.inl h
  · exact Or.inr ⟨g2, cs, h1, h2, by rw [hb.block _ (Array.getElem?_eq_some_iff.1 h3).1]; exact h3, h4⟩
theorem WrR.at {E k B1 B2 : Nat} {a : Option Addr} {n : Nat} {W : World} (h : WrR E k B1 B2 a n W) {i j : Nat} (hi : i < n) (hj : j < k) : ∃ g v, a = some ⟨g, 0, none⟩ ∧ (B1 ≤ g ∧ g < B2) ∧ W.cell? ⟨g, i * k + j, none⟩ = some v ∧ W.frozen? ⟨g, i * k + j, none⟩ = false ∧ ∃ cs, W.heap[g]? = some (.cells cs E (0, 0)) := by
  rcases h with h | ⟨g, cs, h1, h2, h3, h4⟩
  · omega
  · have hlt : i * k + j < cs.size := by
      have : (i + 1) * k ≤ n * k := Nat.mul_le_mul_right k hi
      rw [Nat.succ_mul] at this
      omega
    exact ⟨g, cs[i * k + j], h1, h2, by rw [Lib.cell_of_heap h3, Array.getElem?_eq_getElem hlt], Lib.frozen_of_heap h3 _, cs, h3⟩
/-- Where the law stands: the vocabulary (among the blocks from B1 up to B2), the spec that was handed in (below), the spec that was told (above). -/
structure OwM (w : World) (B1 B2 q qs qt : Nat) (zy ys yt : Wf.Sv) (s : Wf.Sp) (W : World) : Prop where
  bel : Below w.heap.size w W
  b0 : w.heap.size ≤ B1
  b1 : B1 ≤ B2
  b2 : B2 ≤ W.heap.size
  v : ∀ W', Agr B1 B2 W W' → VRd q zy s W'
  bs : W.heap[qs]? = some (.cells ys.cs 28 (0, 0))
  bt : W.heap[qt]? = some (.cells yt.cs 28 (0, 0))
  t1 : ∃ B3, WrR 70 2 B2 B3 yt.a1 yt.n1 W
  t3 : ∃ B3, WrR 67 2 B2 B3 yt.a3 yt.n3 W
  s4 : WrR 72 3 w.heap.size B1 ys.a4 ys.n4 W
  s1 : WrR 70 2 w.heap.size B1 ys.a1 ys.n1 W
theorem OwM.set {w : World} {B1 B2 q qs qt : Nat} {zy ys yt : Wf.Sv} {s : Wf.Sp} {W : World} (h : OwM w B1 B2 q qs qt zy ys yt s W) {g : Nat} (hg : (w.heap.size ≤ g ∧ g < B1) ∨ B2 ≤ g) {E : TypeId} {cs : Array Value} (hE : W.heap[g]? = some (.cells cs E (0, 0))) (hne : E ≠ 28) (o : Nat) (v : Value) : OwM w B1 B2 q qs qt zy ys yt s (W.setCell ⟨g, o, none⟩ v) := by
  have h0 := h.b0
  have h1 := h.b1
  have n1 : qs ≠ g := fun e => by
    have := h.bs
    rw [e, hE] at this
    simp only [Option.some.injEq, Obj.cells.injEq] at this
    exact hne this.2.1
  have n2 : qt ≠ g := fun e => by
    have := h.bt
    rw [e, hE] at this
    simp only [Option.some.injEq, Obj.cells.injEq] at this
    exact hne this.2.1
  refine ⟨h.bel.setCell (p := ⟨g, o, none⟩) (by simp; omega) _, h.b0, h.b1, by have := h.b2; simpa using this, fun W' ha => ?_, (heap_setCell_other W ⟨g, o, none⟩ qs v n1).trans h.bs, (heap_setCell_other W ⟨g, o, none⟩ qt v n2).trans h.bt, h.t1.imp fun _ x => x.set g o v, h.t3.imp fun _ x => x.set g o v, h.s4.set g o v, h.s1.set g o v⟩
  refine h.v W' ⟨fun k hk1 hk2 => (ha.1 k hk1 hk2).trans (heap_setCell_other W ⟨g, o, none⟩ k v (by simp; omega)), by have := ha.2; simpa using this⟩
theorem OwM.vrd {w : World} {B1 B2 q qs qt : Nat} {zy ys yt : Wf.Sv} {s : Wf.Sp} {W : World} (h : OwM w B1 B2 q qs qt zy ys yt s W) : VRd q zy s W := h.v W ⟨fun _ _ _ => rfl, Nat.le_refl _⟩

/-- Too great, or not. -/
def G10 (nu nc nj : Nat) (X : List (Int × ByteArray)) (e : Ending) : Prop := ∃ b, e = .returned (.bool b) ∧ (b = false → nu ≤ 60 ∧ nc ≤ 20 ∧ nj ≤ 20 ∧ Mk.fewS X)

set_option maxRecDepth 20000 in
set_option maxHeartbeats 4000000 in
theorem rgreat10_any (au : Option Addr) (nu cu : Nat) (ac : Option Addr) (nc cc : Nat) (aj : Option Addr) (nj cj : Nat) (ax : Option Addr) (nx cx : Nat) (X : List (Int × ByteArray)) (w : World) (hX : Mk.RdS w ax nx X) (hn : nx ≤ 9223372036854775807) :
    Calls Tryz.prog 19 #[.slice au nu cu, .slice ac nc cc, .slice aj nj cj, .slice ax nx cx] w fun e w' => G10 nu nc nj X e ∧ Below w.heap.size w w' := by
  have HK := hide (Mk.great_any (cap := cx) hX hn)
  clear hX hn
  by_cases h1 : 60 < nu
  · have g1 : (60 : Int) < (nu : Int) := by omega
    go_enter Tryz.func19, Tryz.ntmps19
    go_wp2
    go_ret
    exact ⟨⟨true, rfl, fun h => by cases h⟩, Below.refl _ _⟩
  have g1 : ¬ (60 : Int) < (nu : Int) := by omega
  by_cases h2 : 20 < nc
  · have g2 : (20 : Int) < (nc : Int) := by omega
    go_enter Tryz.func19, Tryz.ntmps19
    go_wp2
    go_ret
    exact ⟨⟨true, rfl, fun h => by cases h⟩, Below.refl _ _⟩
  have g2 : ¬ (20 : Int) < (nc : Int) := by omega
  by_cases h3 : 20 < nj
  · have g3 : (20 : Int) < (nj : Int) := by omega
    go_enter Tryz.func19, Tryz.ntmps19
    go_wp2
    go_ret
    exact ⟨⟨true, rfl, fun h => by cases h⟩, Below.refl _ _⟩
  have g3 : ¬ (20 : Int) < (nj : Int) := by omega
  have HF := hide (And.intro h1 (And.intro h2 h3))
  clear h1 h2 h3
  go_enter Tryz.func19, Tryz.ntmps19
  go_wp2_with fail
  refine (unhide HK).mono ?_
  rintro e w2 ⟨⟨b, rfl, hb⟩, hw⟩
  have HB := hide hb
  have HW := hide hw
  clear hb hw HK
  go_wp2
  go_ret
  exact ⟨⟨b, rfl, fun h => ⟨by have := HF.out.1; omega, by have := HF.out.2.1; omega, by have := HF.out.2.2; omega, HB.out h⟩⟩, HW.out⟩
end Go.Proofs.YtoihocbnhoniaaaGreatDoor

namespace Go.Proofs.YtoihocbnhoniaaaGreatDoor
open Go.RowKit Go.Maps
set_option linter.unusedVariables false
set_option linter.unusedSimpArgs false
attribute [local go_sem ↓] Go.wp_at_zero Go.wp_at_succ

theorem vprint_right (x : Wf.Sv) (s : Wf.Sp) (w : World) (h : Wf.SpAt w x s) (hR : s.Right) :
    Calls Tryz.prog 15 #[.agg x.cs] w fun e w' => e = .returned (.string ⟨s.text.toArray⟩) ∧ Below w.heap.size w w' := by
  have hm : s.merges.length ≤ 744 := Nat.le_trans hR.nm (by unfold Wf.roomM; split <;> omega)
  have ht : s.tokens.length ≤ 744 := Nat.le_trans hR.nt (by unfold Wf.roomT; split <;> omega)
  have h3 := hR.ns
  have h4 := hR.nc
  have h5 := hR.nj
  have hl : s.lines.length ≤ 10000 := by
    simp only [Wf.Sp.lines, Wf.Sp.body, List.length_cons, List.length_append, List.length_map]
    omega
  exact Wf.rprint_any x s w (Wf.rlines_both x s _ (h.kept (Wf.low_alloc _ _)) (Wf.lnb_right hR h)) hl (fun y hy => Nat.le_trans (Wf.line_short hR y hy) (by omega))

set_option maxRecDepth 20000 in
set_option maxHeartbeats 16000000 in
theorem vown_walk (au : Option Addr) (nu cu : Nat) (U : List Int) (ac : Option Addr) (nc cc : Nat) (C : List (Int × Int × Int)) (aj : Option Addr) (nj cj : Nat) (J : List (Int × Int)) (ax : Option Addr) (nx cx : Nat) (X : List (Int × ByteArray)) (w : World) (hE : Wf.Env w)
    (hU : ReadsH w au nu U) (hC : Wf.Bq.RdC w ac nc C) (q2 : nc ≤ cc) (hJ : Wf.Bq.RdJ w aj nj J) (q3 : nj ≤ cj) (hX : Mk.RdS w ax nx X) (hn : nx ≤ 9223372036854775807) :
    Calls Tryz.prog 7 #[.slice au nu cu, .slice ac nc cc, .slice aj nj cj, .slice ax nx cx] w fun e w' => e = .returned (.bool true) ∧ Below w.heap.size w w' := by
  have HG := hide (rgreat10_any au nu cu ac nc cc aj nj cj ax nx cx X w hX hn)
  have HE := hide hE
  have HU := hide hU
  have HC := hide hC
  have HJ := hide hJ
  have HX := hide hX
  clear hE hU hC hJ hX hn
  go_enter Tryz.func7, Tryz.ntmps7
  go_wp2_with fail
  refine (unhide HG).mono ?_
  rintro e w1 ⟨⟨b, rfl, hb⟩, hb1⟩
  have HB1 := hide hb1
  clear hb1 HG
  cases b with
  | true =>
    clear hb
    go_wp2_with fail
    refine (awake10_any _ (HE.out.kept HB1.out)).mono ?_
    rintro e w2 ⟨rfl, hb2⟩
    have HB2 := hide (HB1.out.trans (hb2.mono HB1.out.size))
    clear hb2
    go_wp2
    go_ret
    exact ⟨rfl, HB2.out⟩
  | false =>
    obtain ⟨m1, m2, m3, m4⟩ := hb rfl
    have hnx : nx ≤ 40 := by have := m4.1; have h := HX.out.1; omega
    clear hb m4
    go_wp2_with fail
    refine (awake10_any _ (HE.out.kept HB1.out)).mono ?_
    rintro e w2 ⟨rfl, hb2⟩
    have HB2 := hide (HB1.out.trans (hb2.mono HB1.out.size))
    have HSM := hide (rsome_any au nu cu U ac nc cc C aj nj cj J ax nx cx X w2 (HU.out.kept HB2.out) (HC.out.kept HB2.out) (HJ.out.kept HB2.out) (HX.out.kept HB2.out) (by omega) (by omega) (by omega) (by omega) q2 q3)
    clear hb2 m1 m2 m3 hnx
    go_wp2_with fail
    refine (unhide HSM).mono ?_
    rintro e w3 ⟨⟨ys, s, tx, mg, rfl, hR, hG, hrw⟩, hb3⟩
    have hB3 := HB2.out.trans (hb3.mono HB2.out.size)
    have hlo := Wf.low_alloc w3 (.cells ys.cs 28)
    have hB4 := below_tr hB3 hB3.size hlo
    have HRT := hide (smg_right hG hR)
    have HOK := hide (smg_ok hG hR)
    have HRW : Hid (Wf.SpRw w.heap.size ys s (w3.alloc (.cells ys.cs 28))) := hide ((hrw.low hlo).mono HB2.out.size)
    have HB4 := hide hB4
    have HBX := hide (heap_alloc_new w3 (.cells ys.cs 28))
    have HNW := hide (vnew_any ys s _ HRW.out.spec)
    have HNS := hide (at_le HRW.out.spec HRT.out)
    have hbx0 := Wf.BxS.new w3 ys 28
    obtain ⟨y0, y1, y2, y3, y4, y5⟩ := hbx0
    have hqs : w3.heap.size < (w3.alloc (.cells ys.cs 28)).heap.size := by simp
    clear hb3 hB3 hlo hB4 hR hG hrw HSM HU HC HJ HX HB1 q2 q3
    obtain ⟨r, a1, n1, c1, a2, n2, c2, a3, n3, c3, a4, n4, c4, a5, n5, c5⟩ := ys
    simp only at y0 y1 y2 y3 y4 y5
    go_wp2_with fail
    generalize w3.heap.size = qs at *
    generalize (w3.alloc (.cells (Wf.Sv.mk r a1 n1 c1 a2 n2 c2 a3 n3 c3 a4 n4 c4 a5 n5 c5).cs 28)) = W1 at *
    refine (unhide HNW).mono ?_
    rintro e W2 ⟨hP, hb⟩
    rcases hP with ⟨hr, _⟩ | ⟨_, ⟨q, z, _, rfl, hz⟩ | ⟨p, k, er, hbad, _⟩⟩
    · exact absurd ((Wf.rightB_iff s).2 HRT.out) (by rw [hr]; simp)
    rotate_left
    · exact (hbad.not HOK.out).elim
    have HZ := hide hz
    have HB5 := hide (HB4.out.trans (hb.mono HB4.out.size))
    have HBX2 : Hid (W2.heap[qs]? = some (.cells (Wf.Sv.mk r a1 n1 c1 a2 n2 c2 a3 n3 c3 a4 n4 c4 a5 n5 c5).cs 28 (0, 0))) := hide (by rw [hb.block _ hqs]; exact HBX.out)
    have HS4 := hide ((WrR.of HRW.out.m4 (fun _ => rfl)).low hb)
    have HS1 := hide ((WrR.of HRW.out.m1 (fun _ => rfl)).low hb)
    have HK1 := hide (vspec_any HZ.out)
    have HSZ := hide (And.intro HB4.out.size hb.size)
    clear hz hb HNW y0 y1 y2 y3 y4 y5 hqs HBX HRW HOK HB4
    go_wp2_with fail
    refine (unhide HK1).mono ?_
    rintro e W3 ⟨⟨ya, rfl, hrw, -⟩, hb⟩
    have HPR := hide (vprint_right ya s _ hrw.spec HRT.out)
    have HBB := hide hb
    clear hrw hb HK1
    go_wp2_with fail
    refine (unhide HPR).mono ?_
    rintro e W4 ⟨rfl, hb⟩
    have hb24 := below_tr HBB.out HBB.out.size hb
    have HK2 := hide (vspec_any (HZ.out.low hb24))
    have HB24 := hide hb24
    clear hb hb24 HPR HBB
    go_wp2_with fail
    refine (unhide HK2).mono ?_
    rintro e W5 ⟨⟨yt, rfl, hrw, hnt⟩, hb⟩
    have HNT := hide hnt
    clear hnt
    have hl := Wf.low_alloc W5 (.cells yt.cs 28)
    have hb26 := below_tr HB24.out HB24.out.size (below_tr hb hb.size hl)
    have hb26' : Below W2.heap.size W2 (W5.alloc (.cells yt.cs 28)) := hb26
    have hltq : qs < W2.heap.size := (Array.getElem?_eq_some_iff.1 HBX2.out).1
    have HOW : Hid (OwM w W1.heap.size W4.heap.size q qs W5.heap.size z.y ⟨r, a1, n1, c1, a2, n2, c2, a3, n3, c3, a4, n4, c4, a5, n5, c5⟩ yt s (W5.alloc (.cells yt.cs 28))) := by
      refine hide ⟨HB5.out.trans (hb26'.mono HB5.out.size), HSZ.out.1, Nat.le_trans HSZ.out.2 HB24.out.size, Nat.le_trans hb.size hl.size, fun W' ha => ?_, by rw [hb26'.block _ hltq]; exact HBX2.out, heap_alloc_new W5 _, ⟨_, (WrR.of hrw.m1 (fun _ => rfl)).low hl⟩, ⟨_, (WrR.of hrw.m3 (fun _ => rfl)).low hl⟩, HS4.out.low hb26', HS1.out.low hb26'⟩
      exact VRd.of (HZ.out.low HB24.out) ⟨fun k h1 h2 => (ha.1 k h1 h2).trans ((hl.block k (Nat.lt_of_lt_of_le h2 hb.size)).trans (hb.block k h2)), Nat.le_trans (Nat.le_trans hb.size hl.size) ha.2⟩
    have HZN := hide HZ.out.nle
    clear hrw hb hl hb26 hb26' hltq HK2 HB24 HZ HB5 HBX2 HS4 HS1 HSZ
    obtain ⟨r', b1, n1', e1, b2, n2', e2, b3, n3', e3, b4, n4', e4, b5, n5', e5⟩ := yt
    generalize htx : s.text = txt at *
    have HTX := hide htx
    clear htx
    go_wp2
    generalize W5.heap.size = qt at *
    generalize W1.heap.size = B1 at *
    generalize W4.heap.size = B2 at *
    go_loopw [15] (fun i wr => ∃ k : Nat, i = .int .i64 k ∧ k ≤ n1' ∧ Hid (OwM w B1 B2 q qs qt z.y ⟨r, a1, n1, c1, a2, n2, c2, a3, n3, c3, a4, n4, c4, a5, n5, c5⟩ ⟨r', b1, n1', e1, b2, n2', e2, b3, n3', e3, b4, n4', e4, b5, n5', e5⟩ s wr)) (fun i _ => n1' - (intOf i).toNat)
    case atStart => exact ⟨0, rfl, Nat.zero_le _, HOW⟩
    case round =>
      obtain ⟨k, rfl, hk, HOW2⟩ := hrel
      clear HOW
      have hk0 : (0 : Int) ≤ (k : Int) := by omega
      have c0 : wr.cell? ⟨qt, 1, none⟩ = some (.slice b1 n1' e1) := Lib.cell_of_heap HOW2.out.bt 1
      by_cases hlt : k < n1'
      · have hk1 : (k : Int) < (n1' : Int) := by omega
        have hk9 : k ≤ 1000 := by have h9 : n1' ≤ 1000 := HNT.out.n1; omega
        obtain ⟨B3, hw⟩ := HOW2.out.t1
        obtain ⟨g, vv, ha, hg, hcell, hfz, csg, hheap⟩ := hw.at (i := k) (j := 0) hlt (by omega)
        simp only at ha
        subst ha
        have HN := hide (HOW2.out.set (g := g) (Or.inr hg.1) hheap (by decide) (k * 2) (.int .i64 0))
        have hcell' : wr.cell? ⟨g, k * 2, none⟩ = some vv := hcell
        have hfz' : wr.frozen? ⟨g, k * 2, none⟩ = false := hfz
        have HN' := HN
        clear hw hg hcell hfz hheap hlt HOW2 HN
        go_wp2
        first
          | exact ⟨⟨k + 1, by go_num, by omega, HN'⟩, by simp [intOf]; omega⟩
          | (go_roundw
             case rel => exact ⟨k + 1, by go_num, by omega, HN'⟩
             case measure => simp [intOf]; omega)
          | trace_state
      · obtain rfl : n1' = k := by omega
        have HO1 := HOW2
        clear HOW2 hk hk0 hlt
        go_wp2
        go_loopw [16] (fun i wr => ∃ k : Nat, i = .int .i64 k ∧ k ≤ n3' ∧ Hid (OwM w B1 B2 q qs qt z.y ⟨r, a1, n1, c1, a2, n2, c2, a3, n3, c3, a4, n4, c4, a5, n5, c5⟩ ⟨r', b1, n1', e1, b2, n2', e2, b3, n3', e3, b4, n4', e4, b5, n5', e5⟩ s wr)) (fun i _ => n3' - (intOf i).toNat)
        case atStart => exact ⟨0, rfl, Nat.zero_le _, HO1⟩
        case round =>
          obtain ⟨k, rfl, hk, HOW2⟩ := hrel
          clear HO1
          have hk0 : (0 : Int) ≤ (k : Int) := by omega
          have c0 : wr.cell? ⟨qt, 3, none⟩ = some (.slice b3 n3' e3) := Lib.cell_of_heap HOW2.out.bt 3
          by_cases hlt : k < n3'
          · have hk1 : (k : Int) < (n3' : Int) := by omega
            have hk9 : k ≤ 1000 := by have h9 : n3' ≤ 1000 := HNT.out.n3; omega
            obtain ⟨B3, hw⟩ := HOW2.out.t3
            obtain ⟨g, vv, ha, hg, hcell, hfz, csg, hheap⟩ := hw.at (i := k) (j := 0) hlt (by omega)
            simp only at ha
            subst ha
            have HN := hide (HOW2.out.set (g := g) (Or.inr hg.1) hheap (by decide) (k * 2) (.int .i64 0))
            have hcell' : wr.cell? ⟨g, k * 2, none⟩ = some vv := hcell
            have hfz' : wr.frozen? ⟨g, k * 2, none⟩ = false := hfz
            have HN' := HN
            clear hw hg hcell hfz hheap hlt HOW2 HN
            go_wp2
            first
              | exact ⟨⟨k + 1, by go_num, by omega, HN'⟩, by simp [intOf]; omega⟩
              | (go_roundw
                 case rel => exact ⟨k + 1, by go_num, by omega, HN'⟩
                 case measure => simp [intOf]; omega)
              | trace_state
          · obtain rfl : n3' = k := by omega
            have HO2 := HOW2
            clear HOW2 hk hk0 hlt
            go_wp2
            go_loopw [17] (fun i wr => ∃ k : Nat, i = .int .i64 k ∧ k ≤ n4 ∧ Hid (OwM w B1 B2 q qs qt z.y ⟨r, a1, n1, c1, a2, n2, c2, a3, n3, c3, a4, n4, c4, a5, n5, c5⟩ ⟨r', b1, n1', e1, b2, n2', e2, b3, n3', e3, b4, n4', e4, b5, n5', e5⟩ s wr)) (fun i _ => n4 - (intOf i).toNat)
            case atStart => exact ⟨0, rfl, Nat.zero_le _, HO2⟩
            case round =>
              obtain ⟨k, rfl, hk, HOW2⟩ := hrel
              clear HO2
              have hk0 : (0 : Int) ≤ (k : Int) := by omega
              have c0 : wr.cell? ⟨qs, 4, none⟩ = some (.slice a4 n4 c4) := Lib.cell_of_heap HOW2.out.bs 4
              by_cases hlt : k < n4
              · have hk1 : (k : Int) < (n4 : Int) := by omega
                have hk9 : k ≤ 1000 := by have h9 : n4 ≤ 1000 := HNS.out.n4; omega
                have hw := HOW2.out.s4
                obtain ⟨g, vv, ha, hg, hcell, hfz, csg, hheap⟩ := hw.at (i := k) (j := 2) hlt (by omega)
                simp only at ha
                subst ha
                have HN := hide (HOW2.out.set (g := g) (Or.inl hg) hheap (by decide) (k * 3 + 2) (.int .i64 15))
                have HN' := HN
                clear hw hg hheap hlt HOW2 HN
                go_wp2
                first
                  | exact ⟨⟨k + 1, by go_num, by omega, HN'⟩, by simp [intOf]; omega⟩
                  | (go_roundw
                     case rel => exact ⟨k + 1, by go_num, by omega, HN'⟩
                     case measure => simp [intOf]; omega)
                  | trace_state
              · obtain rfl : n4 = k := by omega
                have HO3 := HOW2
                clear HOW2 hk hk0 hlt
                go_wp2
                go_loopw [18] (fun i wr => ∃ k : Nat, i = .int .i64 k ∧ k ≤ n1 ∧ Hid (OwM w B1 B2 q qs qt z.y ⟨r, a1, n1, c1, a2, n2, c2, a3, n3, c3, a4, n4, c4, a5, n5, c5⟩ ⟨r', b1, n1', e1, b2, n2', e2, b3, n3', e3, b4, n4', e4, b5, n5', e5⟩ s wr)) (fun i _ => n1 - (intOf i).toNat)
                case atStart => exact ⟨0, rfl, Nat.zero_le _, HO3⟩
                case round =>
                  obtain ⟨k, rfl, hk, HOW2⟩ := hrel
                  clear HO3
                  have hk0 : (0 : Int) ≤ (k : Int) := by omega
                  have c0 : wr.cell? ⟨qs, 1, none⟩ = some (.slice a1 n1 c1) := Lib.cell_of_heap HOW2.out.bs 1
                  by_cases hlt : k < n1
                  · have hk1 : (k : Int) < (n1 : Int) := by omega
                    have hk9 : k ≤ 1000 := by have h9 : n1 ≤ 1000 := HNS.out.n1; omega
                    have hw := HOW2.out.s1
                    obtain ⟨g, vv, ha, hg, hcell, hfz, csg, hheap⟩ := hw.at (i := k) (j := 1) hlt (by omega)
                    simp only at ha
                    subst ha
                    have HN := hide (HOW2.out.set (g := g) (Or.inl hg) hheap (by decide) (k * 2 + 1) (.int .i64 0))
                    have HN' := HN
                    clear hw hg hheap hlt HOW2 HN
                    go_wp2
                    first
                      | exact ⟨⟨k + 1, by go_num, by omega, HN'⟩, by simp [intOf]; omega⟩
                      | (go_roundw
                         case rel => exact ⟨k + 1, by go_num, by omega, HN'⟩
                         case measure => simp [intOf]; omega)
                      | trace_state
                  · obtain rfl : n1 = k := by omega
                    have HO4 := HOW2
                    clear HOW2 hk hk0 hlt
                    go_wp2_with fail
                    refine (vspec_c HO4.out.vrd.box HO4.out.vrd.sp HZN.out).mono ?_
                    rintro e w8 ⟨⟨yu, rfl, hrw, -⟩, hb⟩
                    have HPR := hide (vprint_right yu s _ hrw.spec HRT.out)
                    have hbe := HO4.out.bel
                    have HBE := hide (hbe.trans (hb.mono hbe.size))
                    clear hrw hb hbe HO4 HNS HNT HRT
                    go_wp2_with fail
                    refine (unhide HPR).mono ?_
                    rintro e w9 ⟨rfl, hb2⟩
                    have HBF := hide (HBE.out.trans (hb2.mono HBE.out.size))
                    have htx := HTX.out
                    clear hb2 HPR HBE HTX
                    simp only [htx]
                    go_wp2
                    go_ret
                    exact ⟨rfl, HBF.out⟩
end Go.Proofs.YtoihocbnhoniaaaGreatDoor
