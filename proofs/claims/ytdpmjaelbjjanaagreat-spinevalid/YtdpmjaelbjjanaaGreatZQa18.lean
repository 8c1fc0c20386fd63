/- A row of tokens as it lies in memory: a struct, its parts, its heap, and the table. Contracts of package chain: stands, await. Contracts of package chain: join. Rows of tokens: the plain mathematics. Rows of tokens: what holds from step to step. -/
import Derived.Test.YtdpmjaelbjjanaaGreatZQa13
import Derived.Test.YtdpmjaelbjjanaaGreatZQa14
import Derived.Test.YtdpmjaelbjjanaaGreatZQa17
import Derived.BigRegion
import Derived.BigQuiet
namespace Go.Proofs.YtdpmjaelbjjanaaGreat
open Go.RowKit Go.Maps
set_option linter.unusedVariables false
set_option linter.unusedSimpArgs false

/-- A part: its token, and where its neighbours stand. -/
structure Pt where
  id : Int
  ah : Int
  af : Int
def ptZ : Pt := ⟨0, 0, 0⟩
def gp (l : List Pt) (i : Nat) : Pt := l.getD i ptZ
def fl3 : List Pt → List Value
  | [] => []
  | a :: r => [.int .i64 a.id, .int .i64 a.ah, .int .i64 a.af] ++ fl3 r
theorem gp_set (l : List Pt) (i : Nat) (a : Pt) (k : Nat) (hi : i < l.length) : gp (l.set i a) k = if k = i then a else gp l k := by
  simp only [gp, List.getD_eq_getElem?_getD, List.getElem?_set]
  by_cases h : i = k
  · subst h; simp [hi]
  · rw [if_neg h, if_neg (Ne.symm h)]
theorem fl3_len (l : List Pt) : (fl3 l).length = l.length * 3 := by
  induction l with
  | nil => rfl
  | cons a r ih => simp [fl3, ih]; omega
theorem fl3_get (l : List Pt) (i : Nat) (hi : i < l.length) : (fl3 l)[i * 3]? = some (.int .i64 (gp l i).id) ∧ (fl3 l)[i * 3 + 1]? = some (.int .i64 (gp l i).ah) ∧ (fl3 l)[i * 3 + 2]? = some (.int .i64 (gp l i).af) := by
  induction l generalizing i with
  | nil => simp at hi
  | cons a r ih =>
    cases i with
    | zero => simp [fl3, gp]
    | succ i =>
      have h := ih i (by simpa using hi)
      have e : ∀ k, (fl3 (a :: r))[(i + 1) * 3 + k]? = (fl3 r)[i * 3 + k]? := by
        intro k
        rw [show (i + 1) * 3 + k = (i * 3 + k) + 1 + 1 + 1 by omega]
        simp [fl3]
      have g : gp (a :: r) (i + 1) = gp r i := by simp [gp]
      rw [g]
      refine ⟨?_, ?_, ?_⟩
      · have := e 0; simp only [Nat.add_zero] at this; rw [this]; exact h.1
      · rw [e 1]; exact h.2.1
      · rw [e 2]; exact h.2.2
theorem fl3_set0 (l : List Pt) (i : Nat) (hi : i < l.length) (x : Int) : fl3 (l.set i ⟨x, (gp l i).ah, (gp l i).af⟩) = (fl3 l).set (i * 3) (.int .i64 x) := by
  induction l generalizing i with
  | nil => simp at hi
  | cons b r ih =>
    cases i with
    | zero => simp [fl3, gp]
    | succ i =>
      have h := ih i (by simpa using hi)
      have g : gp (b :: r) (i + 1) = gp r i := by simp [gp]
      rw [List.set_cons_succ, g]
      simp only [fl3, h]
      rw [show (i + 1) * 3 = (i * 3) + 1 + 1 + 1 by omega]
      simp
theorem fl3_set1 (l : List Pt) (i : Nat) (hi : i < l.length) (x : Int) : fl3 (l.set i ⟨(gp l i).id, x, (gp l i).af⟩) = (fl3 l).set (i * 3 + 1) (.int .i64 x) := by
  induction l generalizing i with
  | nil => simp at hi
  | cons b r ih =>
    cases i with
    | zero => simp [fl3, gp]
    | succ i =>
      have h := ih i (by simpa using hi)
      have g : gp (b :: r) (i + 1) = gp r i := by simp [gp]
      rw [List.set_cons_succ, g]
      simp only [fl3, h]
      rw [show (i + 1) * 3 + 1 = (i * 3 + 1) + 1 + 1 + 1 by omega]
      simp
theorem fl3_set2 (l : List Pt) (i : Nat) (hi : i < l.length) (x : Int) : fl3 (l.set i ⟨(gp l i).id, (gp l i).ah, x⟩) = (fl3 l).set (i * 3 + 2) (.int .i64 x) := by
  induction l generalizing i with
  | nil => simp at hi
  | cons b r ih =>
    cases i with
    | zero => simp [fl3, gp]
    | succ i =>
      have h := ih i (by simpa using hi)
      have g : gp (b :: r) (i + 1) = gp r i := by simp [gp]
      rw [List.set_cons_succ, g]
      simp only [fl3, h]
      rw [show (i + 1) * 3 + 2 = (i * 3 + 2) + 1 + 1 + 1 by omega]
      simp

abbrev HpA := Hq.HAt 267 279

/-- The row at q: the table at pT (all of it below base), the parts vp, the heap at h. -/
structure RAt (base : Nat) (F : List Nat) (pT : Nat) (v0 v1 : Value) (b2 b3 : Nat) (tx : List ByteArray) (mg : List (Int × Int)) (q : Nat) (bl : Int) (vp : Value) (ps : List Pt) (h : Nat) (hv : Value) (tn : Int) (l : List Hq.It) (st : Int) (w : World) : Prop where
  cells : w.heap[q]? = some (.cells #[.pointer (some ⟨pT, 0, none⟩), .int .i64 bl, vp, .pointer (some ⟨h, 0, none⟩), .int .i64 st] 253 (0, 0))
  prow : w.ownsRow base 255 3 vp ps.length (fl3 ps)
  hp : HpA base h hv tn l w
  tab : TAt F pT v0 v1 b2 b3 tx mg (lgs tx) w
  low : ∀ k ∈ F, k < base
  bq : base ≤ q
  qh : q ≠ h
  pq : vp.ownBlock ≠ some q
  ph : vp.ownBlock ≠ some h
  hq : hv.ownBlock ≠ some q
  hpv : ∀ k, hv.ownBlock = some k → vp.ownBlock ≠ some k

section
variable {base : Nat} {F : List Nat} {pT : Nat} {v0 v1 : Value} {b2 b3 : Nat} {tx : List ByteArray} {mg : List (Int × Int)} {q : Nat} {bl : Int} {vp : Value} {ps : List Pt} {h : Nat} {hv hv' : Value} {tn tn' : Int} {l l' : List Hq.It} {st : Int} {w w' : World}

theorem RAt.lt (r : RAt base F pT v0 v1 b2 b3 tx mg q bl vp ps h hv tn l st w) : q < w.heap.size := (Array.getElem?_eq_some_iff.1 r.cells).1
theorem RAt.base_le (r : RAt base F pT v0 v1 b2 b3 tx mg q bl vp ps h hv tn l st w) : base ≤ w.heap.size := by have := r.lt; have := r.bq; omega
theorem TAt.keptL {lg : Int} {B : Nat} (t : TAt F pT v0 v1 b2 b3 tx mg lg w) (hb : Below B w w') (hF : ∀ k ∈ F, k < B) : TAt F pT v0 v1 b2 b3 tx mg lg w' :=
  t.kept (G := (List.range w.heap.size).filter (fun k => decide (B ≤ k))) ⟨hb.os, hb.tape, hb.output, hb.size, fun k hk hG => hb.block k (by
    simp at hG
    have := hG hk
    omega)⟩ (fun k hk e => by simp at e; have := hF k hk; omega)
theorem RAt.kept (r : RAt base F pT v0 v1 b2 b3 tx mg q bl vp ps h hv tn l st w) (hb : Below w.heap.size w w') : RAt base F pT v0 v1 b2 b3 tx mg q bl vp ps h hv tn l st w' :=
  ⟨(hb.block q r.lt).trans r.cells, r.prow.kept (row := none) ⟨hb.os, hb.tape, hb.output, hb.size, fun k hk _ => hb.block k hk⟩ (by cases vp.ownBlock <;> simp), r.hp.kept hb, r.tab.keptB hb, r.low, r.bq, r.qh, r.pq, r.ph, r.hq, r.hpv⟩
theorem RAt.cs (r : RAt base F pT v0 v1 b2 b3 tx mg q bl vp ps h hv tn l st w) : w.cell? ⟨q, 0, none⟩ = some (.pointer (some ⟨pT, 0, none⟩)) ∧ w.cell? ⟨q, 1, none⟩ = some (.int .i64 bl) ∧ w.cell? ⟨q, 2, none⟩ = some vp ∧ w.cell? ⟨q, 3, none⟩ = some (.pointer (some ⟨h, 0, none⟩)) ∧ w.cell? ⟨q, 4, none⟩ = some (.int .i64 st) ∧ ∀ o, w.frozen? ⟨q, o, none⟩ = false := by
  simp [World.cell?, World.frozen?, r.cells]
/-- The heap has changed: all else is as it was. -/
theorem RAt.heaped (r : RAt base F pT v0 v1 b2 b3 tx mg q bl vp ps h hv tn l st w) (hh : HpA base h hv' tn' l' w') (hF : Hq.Fr h hv w w') (hN : Hq.Nw w hv hv') : RAt base F pT v0 v1 b2 b3 tx mg q bl vp ps h hv' tn' l' st w' ∧ Below base w w' := by
  have hB : Below base w w' := hF.below r.base_le r.hp.bp (fun g e => (r.hp.row.lt g e).1)
  refine ⟨⟨(hF.block q r.lt r.qh (fun e => r.hq e.symm)).trans r.cells, ?_, hh, r.tab.keptL hB r.low, r.low, r.bq, r.qh, r.pq, r.ph, ?_, ?_⟩, hB⟩
  · refine ⟨r.prow.1, ?_⟩
    rcases r.prow.2 with hn | ⟨g, cap, cur, rfl, hb, hgg, rest⟩
    · exact .inl hn
    · refine .inr ⟨g, cap, cur, rfl, hb, ?_, rest⟩
      rw [hF.block g (Array.getElem?_eq_some_iff.1 hgg).1 (fun e => r.ph (by simp [Value.ownBlock, e])) (fun e => r.hpv g e.symm rfl)]
      exact hgg
  · intro e
    rcases hN with h1 | ⟨g, h1, hg⟩
    · exact r.hq (h1.symm.trans e)
    · rw [h1] at e
      have := Option.some.inj e
      have := r.lt
      omega
  · intro k e e2
    rcases hN with h1 | ⟨g, h1, hg⟩
    · exact r.hpv k (h1.symm.trans e) e2
    · rw [h1] at e
      have e3 := Option.some.inj e
      have := (r.prow.lt k e2).2
      omega
end

end Go.Proofs.YtdpmjaelbjjanaaGreat

namespace Go.Proofs.YtdpmjaelbjjanaaGreat
open Go.RowKit Go.Maps
set_option linter.unusedVariables false
set_option linter.unusedSimpArgs false
attribute [local go_sem ↓] Go.wp_at_zero Go.wp_at_succ

section
variable {base : Nat} {F : List Nat} {pT : Nat} {v0 v1 : Value} {b2 b3 : Nat} {tx : List ByteArray} {mg : List (Int × Int)} {q : Nat} {bl : Int} {vp : Value} {ps ps' : List Pt} {h : Nat} {hv hv' : Value} {tn tn' : Int} {l l' : List Hq.It} {st : Int} {w w' : World}

theorem RAt.part (r : RAt base F pT v0 v1 b2 b3 tx mg q bl vp ps h hv tn l st w) {i : Nat} (hi : i < ps.length) : ∃ g cap, vp = .slice (some ⟨g, 0, none⟩) ps.length cap ∧ g < w.heap.size ∧ w.cell? ⟨g, i * 3, none⟩ = some (.int .i64 (gp ps i).id) ∧ w.cell? ⟨g, i * 3 + 1, none⟩ = some (.int .i64 (gp ps i).ah) ∧ w.cell? ⟨g, i * 3 + 2, none⟩ = some (.int .i64 (gp ps i).af) := by
  obtain ⟨g, cap, rfl, _, hg⟩ := r.prow.form (by omega)
  have hf := fl3_get ps i hi
  have hc := r.prow.cellAt
  exact ⟨g, cap, rfl, hg, by rw [hc _ (by omega)]; exact hf.1, by rw [hc _ (by omega)]; exact hf.2.1, by rw [hc _ (by omega)]; exact hf.2.2⟩

set_option maxRecDepth 20000 in
set_option maxHeartbeats 4000000 in
theorem stands_any (r : RAt base F pT v0 v1 b2 b3 tx mg q bl vp ps h hv tn l st w) (i j : Nat) (hi : i < ps.length) (hj : j < ps.length) (a b : Int) :
    Calls Tryz.prog 165 #[.pointer (some ⟨q, 0, none⟩), .agg #[.int .i64 i, .int .i64 j, .int .i64 a, .int .i64 b]] w fun e w' => e = .returned (.bool (decide ((gp ps i).id = a ∧ (gp ps j).id = b))) ∧ Below w.heap.size w w' := by
  have hl := low1 w (.cells #[.int .i64 i, .int .i64 j, .int .i64 a, .int .i64 b] 251)
  have hx : (w.alloc (.cells #[.int .i64 i, .int .i64 j, .int .i64 a, .int .i64 b] 251)).heap[w.heap.size]? = some (.cells #[.int .i64 i, .int .i64 j, .int .i64 a, .int .i64 b] 251 (0, 0)) := heap_alloc_new w _
  have r1 := r.kept hl
  clear r
  generalize hW0 : w.alloc (.cells #[.int .i64 i, .int .i64 j, .int .i64 a, .int .i64 b] 251) = w0 at *
  have bx0 : w0.cell? ⟨w.heap.size, 0, none⟩ = some (.int .i64 i) := by simp [World.cell?, hx]
  have bx1 : w0.cell? ⟨w.heap.size, 1, none⟩ = some (.int .i64 j) := by simp [World.cell?, hx]
  have bx2 : w0.cell? ⟨w.heap.size, 2, none⟩ = some (.int .i64 a) := by simp [World.cell?, hx]
  have bx3 : w0.cell? ⟨w.heap.size, 3, none⟩ = some (.int .i64 b) := by simp [World.cell?, hx]
  obtain ⟨g, cap, rfl, hg, i0, _, _⟩ := r1.part hi
  obtain ⟨g', cap', hv2, _, j0, _, _⟩ := r1.part hj
  simp only [Value.slice.injEq, Option.some.injEq, Addr.mk.injEq, and_true, true_and] at hv2
  obtain ⟨rfl, rfl⟩ := hv2
  have q2 := r1.cs.2.2.1
  have hi0 : (0 : Int) ≤ (i : Int) := by omega
  have hi1 : (i : Int) < (ps.length : Int) := by omega
  have hj0 : (0 : Int) ≤ (j : Int) := by omega
  have hj1 : (j : Int) < (ps.length : Int) := by omega
  generalize (gp ps i).id = x at *
  generalize (gp ps j).id = y at *
  clear r1 hx
  by_cases hxa : x = a
  · have hxb : (x == a) = true := by simpa using hxa
    go_enter Tryz.func165, Tryz.ntmps165
    go_wp2
    clear hW0
    go_quiet (fail)
    go_wp2
    go_ret
    refine ⟨?_, ⟨hl.os, hl.tape, hl.output, hl.size, hl.block⟩⟩
    by_cases hyb : y = b <;> simp [hxa, hyb]
  · have hxb : (x == a) = false := by simpa using hxa
    go_enter Tryz.func165, Tryz.ntmps165
    go_wp2
    clear hW0
    go_quiet (fail)
    go_wp2
    go_ret
    refine ⟨?_, ⟨hl.os, hl.tape, hl.output, hl.size, hl.block⟩⟩
    simp [hxa]
end

/-- The token whose parents two are. -/
def prC (mg : List (Int × Int)) (a b : Int) (x : Int) (ok : Bool) : Prop := (ok = false ∧ x = 0 ∧ (a, b) ∉ mg) ∨ ∃ i : Nat, ok = true ∧ x = 256 + i ∧ i < mg.length ∧ gm mg i = (a, b)
theorem tpair_c {F : List Nat} {p b2 b3 : Nat} {v0 v1 : Value} {tx : List ByteArray} {mg : List (Int × Int)} {lg : Int} (hk : Tok tx mg) (a b : Int) (hw : wfM (a, b)) :
    ∃ x ok, prC mg a b x ok ∧ ∀ w, TAt F p v0 v1 b2 b3 tx mg lg w → Calls Tryz.prog 119 #[.pointer (some ⟨p, 0, none⟩), .int .i64 a, .int .i64 b] w fun e w' => e = .returned (.tuple #[.int .i64 x, .bool ok]) ∧ w' = w := by
  by_cases hm : (a, b) ∈ mg
  · obtain ⟨i, hi, e⟩ := gm_mem hm
    refine ⟨256 + i, true, Or.inr ⟨i, rfl, rfl, hi, e⟩, fun w h => ?_⟩
    have := tpair_any h i hi hk.wf
    rw [e] at this
    exact this
  · exact ⟨0, false, Or.inl ⟨rfl, rfl, hm⟩, fun w h => tpair_none h a b hw hk.wf hm⟩

section
variable {base : Nat} {F : List Nat} {pT : Nat} {v0 v1 : Value} {b2 b3 : Nat} {tx : List ByteArray} {mg : List (Int × Int)} {q : Nat} {bl : Int} {vp : Value} {ps ps' : List Pt} {h : Nat} {hv hv' : Value} {tn tn' : Int} {l l' : List Hq.It} {st : Int} {w w' : World}

theorem await_out (r : RAt base F pT v0 v1 b2 b3 tx mg q bl vp ps h hv tn l st w) (i j : Int) (hout : i < 0 ∨ (ps.length : Int) ≤ j) :
    Calls Tryz.prog 163 #[.pointer (some ⟨q, 0, none⟩), .int .i64 i, .int .i64 j] w fun e w' => e = .returned (.tuple #[]) ∧ w' = w := by
  obtain ⟨ao, cap, rfl⟩ := row_form r.prow
  have q2 := r.cs.2.2.1
  clear r
  by_cases h0 : i < 0
  · have hb : decide (i < 0) = true := by simpa using h0
    go_enter Tryz.func163, Tryz.ntmps163
    go_wp2
    (try simp only [Exit.inBlock, Exit.then])
    refine bodyPost_ret (results_none rfl _ _ _) rfl ?_
    exact ⟨rfl, rfl⟩
  · have hb : decide (i < 0) = false := by simpa using h0
    have hj : (ps.length : Int) ≤ j := by omega
    go_enter Tryz.func163, Tryz.ntmps163
    go_wp2
    (try simp only [Exit.inBlock, Exit.then])
    refine bodyPost_ret (results_none rfl _ _ _) rfl ?_
    exact ⟨rfl, rfl⟩

set_option maxRecDepth 20000 in
set_option maxHeartbeats 4000000 in
theorem await_in (r : RAt base F pT v0 v1 b2 b3 tx mg q bl vp ps h hv tn l st w) (hHp : Hq.Hp l) (hk : Tok tx mg) (hn : l.length ≤ 900000) (ht : 0 ≤ tn ∧ tn ≤ 1000000000) (i j : Nat) (hi : i < ps.length) (hj : j < ps.length) (hw : wfM ((gp ps i).id, (gp ps j).id)) :
    Calls Tryz.prog 163 #[.pointer (some ⟨q, 0, none⟩), .int .i64 i, .int .i64 j] w fun e w' => e = .returned (.tuple #[]) ∧ ∃ hv' tn' l', RAt base F pT v0 v1 b2 b3 tx mg q bl vp ps h hv' tn' l' st w' ∧ Hq.Hp l' ∧ (Below base w w' ∧ Hq.Fr h hv w w') ∧
      ((tn' = tn ∧ l' = l ∧ ∀ k, k < mg.length → 256 + (k : Int) < bl → gm mg k ≠ ((gp ps i).id, (gp ps j).id)) ∨ (∃ k : Nat, k < mg.length ∧ 256 + (k : Int) < bl ∧ gm mg k = ((gp ps i).id, (gp ps j).id) ∧ tn' = tn + 1 ∧ l'.Perm (⟨256 + k, i, tn, i, j, (gp ps i).id, (gp ps j).id⟩ :: l))) := by
  obtain ⟨g, cap, rfl, hg, i0, _, _⟩ := r.part hi
  obtain ⟨g', cap', hv2, _, j0, _, _⟩ := r.part hj
  simp only [Value.slice.injEq, Option.some.injEq, Addr.mk.injEq, and_true, true_and] at hv2
  obtain ⟨rfl, rfl⟩ := hv2
  obtain ⟨q0, q1, q2, q3, q4, qf⟩ := r.cs
  have hi0 : ¬ ((i : Int) < 0) := by omega
  have hi1 : (i : Int) < (ps.length : Int) := by omega
  have hj0 : (0 : Int) ≤ (j : Int) := by omega
  have hj1 : (j : Int) < (ps.length : Int) := by omega
  obtain ⟨x, ok, hx, hP⟩ := tpair_c (F := F) (p := pT) (b2 := b2) (b3 := b3) (v0 := v0) (v1 := v1) (lg := lgs tx) hk _ _ hw
  have HP := hide hP
  have HX := hide hx
  have R := hide r
  have hql := r.lt
  generalize (gp ps i).id = a at *
  generalize (gp ps j).id = b at *
  clear hP hx r hw
  go_enter Tryz.func163, Tryz.ntmps163
  go_wp2
  go_region
  have hl : Below w.heap.size w (w.alloc (.cells #[.int .i64 i, .int .i64 j, .int .i64 a, .int .i64 b] 251)).drew := (low1 w _).drew
  have hx : (w.alloc (.cells #[.int .i64 i, .int .i64 j, .int .i64 a, .int .i64 b] 251)).drew.heap[w.heap.size]? = some (.cells #[.int .i64 i, .int .i64 j, .int .i64 a, .int .i64 b] 251 (0, 0)) := heap_alloc_new w _
  have R1 := hide (R.out.kept hl)
  clear q0 q1 q2 q3 q4 qf i0 j0
  generalize (w.alloc (.cells #[.int .i64 i, .int .i64 j, .int .i64 a, .int .i64 b] 251)).drew = w1 at *
  obtain ⟨q0, q1, q2, q3, q4, qf⟩ := R1.out.cs
  have bx0 : w1.cell? ⟨w.heap.size, 0, none⟩ = some (.int .i64 i) := by simp [World.cell?, hx]
  have bx1 : w1.cell? ⟨w.heap.size, 1, none⟩ = some (.int .i64 j) := by simp [World.cell?, hx]
  have bx2 : w1.cell? ⟨w.heap.size, 2, none⟩ = some (.int .i64 a) := by simp [World.cell?, hx]
  have bx3 : w1.cell? ⟨w.heap.size, 3, none⟩ = some (.int .i64 b) := by simp [World.cell?, hx]
  have HPn := hide (fun n => HP.out (w1.drewN n) (R1.out.tab.keptB ⟨rfl, rfl, rfl, Nat.le_refl _, fun _ _ => rfl⟩))
  go_wp2
  go_quiet ((first | (go_at_call 119; exact Calls.quiet_of_same (HPn.out _))))
  have hd : Below w1.heap.size w1 (w1.drewN nq) := ⟨rfl, rfl, rfl, Nat.le_refl _, fun _ _ => rfl⟩
  have R2 := hide (R1.out.kept hd)
  have hl2 := hl.trans (hd.mono hl.size)
  clear q0 q1 q2 q3 q4 qf HPn R1 hd hl
  rcases HX.out with ⟨rfl, rfl, hm⟩ | ⟨k, rfl, rfl, hkl, hgm⟩
  · generalize w1.drewN nq = w2 at *
    clear bx0 bx1 bx2 bx3
    go_wp2
    go_end0
    refine ⟨rfl, hv, tn, l, R2.out, hHp, ⟨hl2.mono R.out.base_le, Hq.Fr.ofBelow hl2⟩, Or.inl ⟨rfl, rfl, fun k hk _ e => hm ?_⟩⟩
    rw [← e, gm, List.getD_eq_getElem?_getD, List.getElem?_eq_getElem hk]
    exact List.getElem_mem hk
  · have HPU := hide (fun (W : World) (hW : HpA base h hv tn l W) (hz : base ≤ W.heap.size) => Hq.push_any base h hv tn l W hW hHp hn ht (256 + (k : Int)) (i : Int) (i : Int) (j : Int) a b hz)
    have bd0 := bx0
    have hd2 : Below w1.heap.size w1 (w1.drewN nq) := ⟨rfl, rfl, rfl, Nat.le_refl _, fun _ _ => rfl⟩
    have hx2 := (hd2.block _ (Array.getElem?_eq_some_iff.1 hx).1).trans hx
    clear bx0 bx1 bx2 bx3 bd0 hd2 hx
    generalize w1.drewN nq = w2 at *
    obtain ⟨q0, q1, q2, q3, q4, qf⟩ := R2.out.cs
    have bx0 : w2.cell? ⟨w.heap.size, 0, none⟩ = some (.int .i64 i) := by simp [World.cell?, hx2]
    have bx1 : w2.cell? ⟨w.heap.size, 1, none⟩ = some (.int .i64 j) := by simp [World.cell?, hx2]
    have bx2 : w2.cell? ⟨w.heap.size, 2, none⟩ = some (.int .i64 a) := by simp [World.cell?, hx2]
    have bx3 : w2.cell? ⟨w.heap.size, 3, none⟩ = some (.int .i64 b) := by simp [World.cell?, hx2]
    clear hx2
    by_cases hbl : 256 + (k : Int) < bl
    · go_wp2
      go_region_with (go_at_call 172; refine (HPU.out _ (by first | exact R2.out.hp.drew | exact R2.out.hp) (by first | exact R2.out.base_le)).mono ?_; rintro e w3 ⟨rfl, hv', l', hH3, hHp3, hP3, hF3, hN3⟩)
      all_goals
        go_wp2
        go_end0
        have hF3' : Hq.Fr h hv w2 w3 := ⟨hF3.os, hF3.tape, hF3.output, hF3.size, hF3.block⟩
        have hN3' : Hq.Nw w2 hv hv' := hN3
        obtain ⟨rr, rb⟩ := R2.out.heaped hH3 hF3' hN3'
        have hlb := hl2.mono R.out.base_le
        exact ⟨rfl, hv', tn + 1, l', rr, hHp3, ⟨hlb.trans rb, (Hq.Fr.ofBelow hl2).trans' hF3'⟩, Or.inr ⟨k, hkl, hbl, hgm, rfl, hP3⟩⟩
    · have hbd : decide (256 + (k : Int) < bl) = false := by simpa using hbl
      go_wp2
      go_end0
      refine ⟨rfl, hv, tn, l, R2.out, hHp, ⟨hl2.mono R.out.base_le, Hq.Fr.ofBelow hl2⟩, Or.inl ⟨rfl, rfl, fun k2 hk2 hb2 e => ?_⟩⟩
      have := hk.uniq hkl hk2 (hgm.trans e.symm)
      subst this
      omega
end

/-- What await does to the heap. -/
def AwR (mg : List (Int × Int)) (bl : Int) (ps : List Pt) (L R : Int) (tn : Int) (l : List Hq.It) (tn' : Int) (l' : List Hq.It) : Prop :=
  ((L < 0 ∨ (ps.length : Int) ≤ R) ∧ tn' = tn ∧ l' = l) ∨ ∃ i j : Nat, L = i ∧ R = j ∧ i < ps.length ∧ j < ps.length ∧
    ((tn' = tn ∧ l' = l ∧ ∀ k, k < mg.length → 256 + (k : Int) < bl → gm mg k ≠ ((gp ps i).id, (gp ps j).id)) ∨ (∃ k : Nat, k < mg.length ∧ 256 + (k : Int) < bl ∧ gm mg k = ((gp ps i).id, (gp ps j).id) ∧ tn' = tn + 1 ∧ l'.Perm (⟨256 + k, i, tn, i, j, (gp ps i).id, (gp ps j).id⟩ :: l)))
theorem AwR.bound {mg : List (Int × Int)} {bl : Int} {ps : List Pt} {L R tn tn' : Int} {l l' : List Hq.It} (h : AwR mg bl ps L R tn l tn' l') : l'.length ≤ l.length + 1 ∧ tn ≤ tn' ∧ tn' ≤ tn + 1 := by
  rcases h with ⟨_, rfl, rfl⟩ | ⟨i, j, _, _, _, _, ⟨rfl, rfl, _⟩ | ⟨k, _, _, _, rfl, hp⟩⟩
  · omega
  · omega
  · have := hp.length_eq
    simp at this
    omega
/-- Numbers of tokens, or of none. -/
def okP (ps : List Pt) : Prop := ∀ k, -1 ≤ (gp ps k).id ∧ (gp ps k).id ≤ 2000

section
variable {base : Nat} {F : List Nat} {pT : Nat} {v0 v1 : Value} {b2 b3 : Nat} {tx : List ByteArray} {mg : List (Int × Int)} {q : Nat} {bl : Int} {vp : Value} {ps ps' : List Pt} {h : Nat} {hv hv' : Value} {tn tn' : Int} {l l' : List Hq.It} {st : Int} {w w' : World}

theorem await_any (r : RAt base F pT v0 v1 b2 b3 tx mg q bl vp ps h hv tn l st w) (hHp : Hq.Hp l) (hk : Tok tx mg) (hn : l.length ≤ 900000) (ht : 0 ≤ tn ∧ tn ≤ 1000000000) (hok : okP ps) (L R : Int) (hLR : (L < 0 ∨ (ps.length : Int) ≤ R) ∨ ∃ i j : Nat, L = i ∧ R = j ∧ i < ps.length ∧ j < ps.length) :
    Calls Tryz.prog 163 #[.pointer (some ⟨q, 0, none⟩), .int .i64 L, .int .i64 R] w fun e w' => e = .returned (.tuple #[]) ∧ ∃ hv' tn' l', RAt base F pT v0 v1 b2 b3 tx mg q bl vp ps h hv' tn' l' st w' ∧ Hq.Hp l' ∧ (Below base w w' ∧ Hq.Fr h hv w w') ∧ AwR mg bl ps L R tn l tn' l' := by
  rcases hLR with hout | ⟨i, j, rfl, rfl, hi, hj⟩
  · refine (await_out r L R hout).mono ?_
    rintro e w' ⟨rfl, rfl⟩
    exact ⟨rfl, hv, tn, l, r, hHp, ⟨Below.refl _ _, Hq.Fr.refl _ _ _⟩, Or.inl ⟨hout, rfl, rfl⟩⟩
  · have h1 := hok i
    have h2 := hok j
    refine (await_in r hHp hk hn ht i j hi hj ⟨WalkArith.wf_i64 (by omega), WalkArith.wf_i64 (by omega)⟩).mono ?_
    rintro e w' ⟨rfl, hv', tn', l', rr, hp', hb, hd⟩
    exact ⟨rfl, hv', tn', l', rr, hp', hb, Or.inr ⟨i, j, rfl, rfl, hi, hj, hd⟩⟩

/-- A cell of the parts is changed. -/
theorem RAt.setG {g n cap : Nat} (r : RAt base F pT v0 v1 b2 b3 tx mg q bl (.slice (some ⟨g, 0, none⟩) n cap) ps h hv tn l st w) (o : Nat) (u : Value) (hp' : fl3 ps' = (fl3 ps).set o u) (hl : ps'.length = ps.length) :
    RAt base F pT v0 v1 b2 b3 tx mg q bl (.slice (some ⟨g, 0, none⟩) n cap) ps' h hv tn l st (w.setCell ⟨g, o, none⟩ u) ∧ Below base w (w.setCell ⟨g, o, none⟩ u) := by
  have hgq : g ≠ q := fun e => r.pq (by simp [Value.ownBlock, e])
  have hgh : g ≠ h := fun e => r.ph (by simp [Value.ownBlock, e])
  have hbg : base ≤ g := (r.prow.lt g rfl).1
  have hB : Below base w (w.setCell ⟨g, o, none⟩ u) := (Below.refl base w).setCell hbg u
  have hgr : w.grownBy (w.setCell ⟨g, o, none⟩ u) (some g) := ⟨rfl, rfl, rfl, by simp, fun k hk hne => heap_setCell_other w ⟨g, o, none⟩ k u (fun e => hne (by simp [e]))⟩
  have hn : n = ps.length := by
    obtain ⟨ao, c, e⟩ := row_form r.prow
    simp only [Value.slice.injEq] at e
    exact e.2.1
  subst hn
  obtain ⟨r1, _⟩ := r.prow.stored o u
  refine ⟨⟨(hgr.block q r.lt (by simp; omega)).trans r.cells, ?_, ⟨(hgr.block h r.hp.lt (by simp; omega)).trans r.hp.st, r.hp.row.kept hgr (Or.inr (fun e => r.hpv g e rfl)), r.hp.ne, r.hp.bp⟩, r.tab.keptL hB r.low, r.low, r.bq, r.qh, r.pq, r.ph, r.hq, r.hpv⟩, hB⟩
  rw [hl, hp']
  exact r1
/-- The steps are counted. -/
theorem RAt.setS (r : RAt base F pT v0 v1 b2 b3 tx mg q bl vp ps h hv tn l st w) (x : Int) :
    RAt base F pT v0 v1 b2 b3 tx mg q bl vp ps h hv tn l x (w.setCell ⟨q, 4, none⟩ (.int .i64 x)) ∧ Below base w (w.setCell ⟨q, 4, none⟩ (.int .i64 x)) := by
  have hB : Below base w (w.setCell ⟨q, 4, none⟩ (.int .i64 x)) := (Below.refl base w).setCell r.bq _
  have hgr : w.grownBy (w.setCell ⟨q, 4, none⟩ (.int .i64 x)) (some q) := ⟨rfl, rfl, rfl, by simp, fun k hk hne => heap_setCell_other w ⟨q, 4, none⟩ k _ (fun e => hne (by simp [e]))⟩
  refine ⟨⟨?_, r.prow.kept hgr (Or.inr r.pq), ⟨(hgr.block h r.hp.lt (by simp; exact fun e => r.qh e.symm)).trans r.hp.st, r.hp.row.kept hgr (Or.inr r.hq), r.hp.ne, r.hp.bp⟩, r.tab.keptL hB r.low, r.low, r.bq, r.qh, r.pq, r.ph, r.hq, r.hpv⟩, hB⟩
  rw [heap_setCell_same w q 4 _ _ _ r.cells]
  rfl
end

end Go.Proofs.YtdpmjaelbjjanaaGreat

namespace Go.Proofs.YtdpmjaelbjjanaaGreat
open Go.RowKit Go.Maps
set_option linter.unusedVariables false
set_option linter.unusedSimpArgs false
attribute [local go_sem ↓] Go.wp_at_zero Go.wp_at_succ

/-- The parts behind a join. -/
def jn1 (ps : List Pt) (i j : Nat) (c : Int) : List Pt := ((ps.set i ⟨c, (gp ps i).ah, (gp ps i).af⟩).set j ⟨-1, (gp ps j).ah, (gp ps j).af⟩).set i ⟨c, (gp ps i).ah, (gp ps j).af⟩
def jn (ps : List Pt) (i j A : Nat) (c : Int) : List Pt := if A < ps.length then (jn1 ps i j c).set A ⟨(gp (jn1 ps i j c) A).id, i, (gp (jn1 ps i j c) A).af⟩ else jn1 ps i j c
theorem jn1_len (ps : List Pt) (i j : Nat) (c : Int) : (jn1 ps i j c).length = ps.length := by simp [jn1]
theorem jn_len (ps : List Pt) (i j A : Nat) (c : Int) : (jn ps i j A c).length = ps.length := by unfold jn; split <;> simp [jn1_len]
theorem jn1_get (ps : List Pt) {i j : Nat} (c : Int) (hi : i < ps.length) (hj : j < ps.length) (hne : i ≠ j) (k : Nat) : gp (jn1 ps i j c) k = if k = i then ⟨c, (gp ps i).ah, (gp ps j).af⟩ else if k = j then ⟨-1, (gp ps j).ah, (gp ps j).af⟩ else gp ps k := by
  unfold jn1
  rw [gp_set _ _ _ _ (by simpa using hi), gp_set _ _ _ _ (by simpa using hj), gp_set _ _ _ _ hi]
  by_cases h1 : k = i
  · simp [h1]
  · simp [h1]
theorem jn_get (ps : List Pt) {i j A : Nat} (c : Int) (hi : i < ps.length) (hj : j < ps.length) (hij : i < j) (hA : j < A) (k : Nat) : gp (jn ps i j A c) k = if k = i then ⟨c, (gp ps i).ah, (gp ps j).af⟩ else if k = j then ⟨-1, (gp ps j).ah, (gp ps j).af⟩ else if k = A ∧ A < ps.length then ⟨(gp ps A).id, i, (gp ps A).af⟩ else gp ps k := by
  have g := jn1_get ps c hi hj (show i ≠ j by omega)
  unfold jn
  by_cases hl : A < ps.length
  · rw [if_pos hl, gp_set _ _ _ _ (by rw [jn1_len]; exact hl), g A, g k]
    by_cases h1 : k = A
    · subst h1
      simp [hl, show k ≠ i by omega, show k ≠ j by omega]
    · simp [h1]
  · rw [if_neg hl, g k]
    simp [hl]

theorem below_drewR (w : World) : Below w.heap.size w w.drew := (Below.refl _ _).drew
theorem jn_ok {ps : List Pt} (hok : okP ps) {i j A : Nat} {c : Int} (hi : i < ps.length) (hj : j < ps.length) (hij : i < j) (hA : j < A) (hc : 0 ≤ c ∧ c ≤ 2000) : okP (jn ps i j A c) := by
  intro k
  rw [jn_get ps c hi hj hij hA k]
  split
  · exact ⟨by simp; omega, by simp; omega⟩
  · split
    · simp
    · split
      · exact hok A
      · exact hok k

section
variable {base : Nat} {F : List Nat} {pT : Nat} {v0 v1 : Value} {b2 b3 : Nat} {tx : List ByteArray} {mg : List (Int × Int)} {q : Nat} {bl : Int} {ps : List Pt} {h : Nat} {hv : Value} {tn : Int} {l : List Hq.It} {st : Int} {w : World}
theorem RAt.fz {g n cap : Nat} (r : RAt base F pT v0 v1 b2 b3 tx mg q bl (.slice (some ⟨g, 0, none⟩) n cap) ps h hv tn l st w) (o : Nat) : w.frozen? ⟨g, o, none⟩ = false := by
  rcases r.prow.2 with ⟨h0, _⟩ | ⟨g', cap', cur, hvv, hb, hg, hc, hmx, hsz, ht⟩
  · cases h0
  simp only [Value.slice.injEq, Option.some.injEq, Addr.mk.injEq, and_true, true_and] at hvv
  obtain ⟨rfl, rfl, rfl⟩ := hvv
  simp [World.frozen?, hg]
theorem join_three {g n cap : Nat} (r : RAt base F pT v0 v1 b2 b3 tx mg q bl (.slice (some ⟨g, 0, none⟩) n cap) ps h hv tn l st w) {i j : Nat} (hi : i < ps.length) (hj : j < ps.length) (hne : i ≠ j) (c A : Int) (hA : (gp ps j).af = A) :
    ∃ W, W = ((w.setCell ⟨g, i * 3, none⟩ (.int .i64 c)).setCell ⟨g, j * 3, none⟩ (.int .i64 (-1))).setCell ⟨g, i * 3 + 2, none⟩ (.int .i64 A) ∧ RAt base F pT v0 v1 b2 b3 tx mg q bl (.slice (some ⟨g, 0, none⟩) n cap) (jn1 ps i j c) h hv tn l st W ∧ Below base w W ∧ W.grownBy W none ∧ w.grownBy W (some g) := by
  obtain ⟨s1, t1⟩ := r.setG (ps' := ps.set i ⟨c, (gp ps i).ah, (gp ps i).af⟩) (i * 3) (.int .i64 c) (fl3_set0 ps i hi c) (by simp)
  have e1 : gp (ps.set i ⟨c, (gp ps i).ah, (gp ps i).af⟩) j = gp ps j := by rw [gp_set _ _ _ _ hi, if_neg (Ne.symm hne)]
  have f2 := fl3_set0 (ps.set i ⟨c, (gp ps i).ah, (gp ps i).af⟩) j (by simpa using hj) (-1)
  rw [e1] at f2
  obtain ⟨s2, t2⟩ := s1.setG (ps' := (ps.set i ⟨c, (gp ps i).ah, (gp ps i).af⟩).set j ⟨-1, (gp ps j).ah, (gp ps j).af⟩) (j * 3) (.int .i64 (-1)) f2 (by simp)
  have e2 : gp ((ps.set i ⟨c, (gp ps i).ah, (gp ps i).af⟩).set j ⟨-1, (gp ps j).ah, (gp ps j).af⟩) i = ⟨c, (gp ps i).ah, (gp ps i).af⟩ := by
    rw [gp_set _ _ _ _ (by simpa using hj), if_neg hne, gp_set _ _ _ _ hi, if_pos rfl]
  have f3 := fl3_set2 ((ps.set i ⟨c, (gp ps i).ah, (gp ps i).af⟩).set j ⟨-1, (gp ps j).ah, (gp ps j).af⟩) i (by simpa using hi) A
  rw [e2] at f3
  obtain ⟨s3, t3⟩ := s2.setG (ps' := jn1 ps i j c) (i * 3 + 2) (.int .i64 A) (by unfold jn1; subst hA; exact f3) (by simp [jn1])
  refine ⟨_, rfl, s3, (t1.trans t2).trans t3, ⟨rfl, rfl, rfl, Nat.le_refl _, fun _ _ _ => rfl⟩, ⟨rfl, rfl, rfl, by simp, fun k hk hkg => ?_⟩⟩
  have : k ≠ g := fun e => hkg (by simp [e])
  rw [heap_setCell_other _ _ _ _ (by simpa using this), heap_setCell_other _ _ _ _ (by simpa using this), heap_setCell_other _ _ _ _ (by simpa using this)]
end

section
variable {base : Nat} {F : List Nat} {pT : Nat} {v0 v1 : Value} {b2 b3 : Nat} {tx : List ByteArray} {mg : List (Int × Int)} {q : Nat} {bl : Int} {vp : Value} {ps ps' : List Pt} {h : Nat} {hv hv' : Value} {tn tn' : Int} {l l' : List Hq.It} {st : Int} {w w' : World}

set_option maxRecDepth 20000 in
set_option maxHeartbeats 8000000 in
theorem join_any (r : RAt base F pT v0 v1 b2 b3 tx mg q bl vp ps h hv tn l st w) (hHp : Hq.Hp l) (hk : Tok tx mg) (hn : l.length ≤ 800000) (ht : 0 ≤ tn ∧ tn ≤ 900000000) (hok : okP ps) (i j A : Nat) (c a b : Int) (hi : i < ps.length) (hj : j < ps.length) (hij : i < j) (hA : j < A) (hAf : (gp ps j).af = A) (hAl : A ≤ 1000000) (hah : (gp ps i).ah < 0 ∨ ∃ P : Nat, (gp ps i).ah = P ∧ P < ps.length) (hc : 0 ≤ c ∧ c ≤ 2000) (hst : 0 ≤ st ∧ st ≤ 1000000) :
    Calls Tryz.prog 166 #[.pointer (some ⟨q, 0, none⟩), .agg #[.int .i64 i, .int .i64 j, .int .i64 a, .int .i64 b], .int .i64 c] w fun e w' => e = .returned (.tuple #[]) ∧ ∃ hv' tn1 l1 tn' l', RAt base F pT v0 v1 b2 b3 tx mg q bl vp (jn ps i j A c) h hv' tn' l' (st + 1) w' ∧ Hq.Hp l' ∧ Below base w w' ∧ AwR mg bl (jn ps i j A c) (gp ps i).ah i tn l tn1 l1 ∧ AwR mg bl (jn ps i j A c) i A tn1 l1 tn' l' := by
  have hl := low1 w (.cells #[.int .i64 i, .int .i64 j, .int .i64 a, .int .i64 b] 251)
  have hx : (w.alloc (.cells #[.int .i64 i, .int .i64 j, .int .i64 a, .int .i64 b] 251)).heap[w.heap.size]? = some (.cells #[.int .i64 i, .int .i64 j, .int .i64 a, .int .i64 b] 251 (0, 0)) := heap_alloc_new w _
  have hbw := r.base_le
  have hh0 : h < w.heap.size := r.hp.lt
  have hhv0 : ∀ k, hv.ownBlock = some k → k < w.heap.size := fun k e => (r.hp.row.lt k e).2
  have r1 := r.kept hl
  have hql := r.lt
  obtain ⟨g, cap, rfl, hg, _⟩ := r.part hi
  have hgq : g ≠ q := fun e => r.pq (by simp [Value.ownBlock, e])
  have hB0 := hl.mono hbw
  clear r
  generalize hW0 : w.alloc (.cells #[.int .i64 i, .int .i64 j, .int .i64 a, .int .i64 b] 251) = w0 at *
  have bx0 : w0.cell? ⟨w.heap.size, 0, none⟩ = some (.int .i64 i) := by simp [World.cell?, hx]
  have bx1 : w0.cell? ⟨w.heap.size, 1, none⟩ = some (.int .i64 j) := by simp [World.cell?, hx]
  have q2 := r1.cs.2.2.1
  have hi0 : (0 : Int) ≤ (i : Int) := by omega
  have hi1 : (i : Int) < (ps.length : Int) := by omega
  have hj0 : (0 : Int) ≤ (j : Int) := by omega
  have hj1 : (j : Int) < (ps.length : Int) := by omega
  go_enter Tryz.func166, Tryz.ntmps166
  go_wp2
  clear hW0
  go_quiet (fail)
  have hd : Below w0.heap.size w0 (w0.drewN nq) := ⟨rfl, rfl, rfl, Nat.le_refl _, fun _ _ => rfl⟩
  have r2 := r1.kept hd
  have hx2 := (hd.block _ (Array.getElem?_eq_some_iff.1 hx).1).trans hx
  have hB2 := hB0.trans (hd.mono (by have := hB0.size; omega))
  clear r1 hx hd hB0 q2 bx0 bx1 hl
  generalize w0.drewN nq = w1 at *
  obtain ⟨q0, q1, q2, q3, q4, qf⟩ := r2.cs
  obtain ⟨g', cap', hv2, hg1, i0, i1, i2⟩ := r2.part hi
  simp only [Value.slice.injEq, Option.some.injEq, Addr.mk.injEq, and_true, true_and] at hv2
  obtain ⟨rfl, rfl⟩ := hv2
  obtain ⟨g', cap', hv2, _, j0, j1, j2⟩ := r2.part hj
  simp only [Value.slice.injEq, Option.some.injEq, Addr.mk.injEq, and_true, true_and] at hv2
  obtain ⟨rfl, rfl⟩ := hv2
  have gf : ∀ o, w1.frozen? ⟨g, o, none⟩ = false := fun o => r2.prow.frozenAt o
  have n1 : i * 3 ≠ j * 3 := by omega
  have n2 : i * 3 + 2 ≠ j * 3 + 2 := by omega
  rw [hAf] at j2
  have hgx : w.heap.size ≠ g := by omega
  obtain ⟨W, hW, rW, hBW, _, hGW⟩ := join_three r2 hi hj (by omega) c A hAf
  go_wp2
  rw [← hW]
  have hxW : W.heap[w.heap.size]? = some (.cells #[.int .i64 i, .int .i64 j, .int .i64 a, .int .i64 b] 251 (0, 0)) := (hGW.block _ (Array.getElem?_eq_some_iff.1 hx2).1 (by simp; omega)).trans hx2
  have hBW2 := hB2.trans hBW
  clear hW hGW hBW hB2 hx2 r2 q0 q1 q2 q3 q4 qf i0 i1 i2 j0 j1 j2 gf hg1
  have hgW : g < W.heap.size := (rW.prow.lt g rfl).2
  have hlj := jn1_len ps i j c
  have hi' : i < (jn1 ps i j c).length := by omega
  obtain ⟨g', cap', hv2, _, i0, i1, i2⟩ := rW.part hi'
  simp only [Value.slice.injEq, Option.some.injEq, Addr.mk.injEq, and_true, true_and] at hv2
  obtain ⟨rfl, hlen, rfl⟩ := hv2
  have hgi := jn1_get ps c hi hj (show i ≠ j by omega) i
  rw [if_pos rfl] at hgi
  rw [hgi] at i0 i1 i2
  simp only [hAf] at i0 i1 i2
  obtain ⟨q0, q1, q2, q3, q4, qf⟩ := rW.cs
  have bx0 : W.cell? ⟨w.heap.size, 0, none⟩ = some (.int .i64 i) := by simp [World.cell?, hxW]
  have HLJ := hide hlj
  have HGI := hide hgi
  clear hlj hgi hlen
  by_cases hAlt : A < ps.length
  · have hA' : A < (jn1 ps i j c).length := by have := HLJ.out; omega
    obtain ⟨g', cap', hv2, _, k0, k1, k2⟩ := rW.part hA'
    simp only [Value.slice.injEq, Option.some.injEq, Addr.mk.injEq, and_true, true_and] at hv2
    obtain ⟨rfl, _, rfl⟩ := hv2
    have hA1 : (A : Int) < (ps.length : Int) := by omega
    have hA0 : (0 : Int) ≤ (A : Int) := by omega
    go_wp2
    go_quiet (fail)
    have hd : Below W.heap.size W (W.drewN nq) := ⟨rfl, rfl, rfl, Nat.le_refl _, fun _ _ => rfl⟩
    have r3 := rW.kept hd
    have hx3 := (hd.block _ (Array.getElem?_eq_some_iff.1 hxW).1).trans hxW
    have hB3 := hBW2.trans (hd.mono (by have := rW.base_le; omega))
    obtain ⟨g', cap', hv2, _, m0, m1, m2⟩ := r3.part hi'
    simp only [Value.slice.injEq, Option.some.injEq, Addr.mk.injEq, and_true, true_and] at hv2
    obtain ⟨rfl, _, rfl⟩ := hv2
    rw [HGI.out] at m0 m1 m2
    simp only [hAf] at m0 m1 m2
    obtain ⟨g', cap', hv2, _, p0, p1, p2⟩ := r3.part hA'
    simp only [Value.slice.injEq, Option.some.injEq, Addr.mk.injEq, and_true, true_and] at hv2
    obtain ⟨rfl, _, rfl⟩ := hv2
    clear rW hxW hd hBW2 q0 q1 q2 q3 q4 qf i0 i1 i2 k0 k1 k2 bx0 hgW
    generalize W.drewN nq = W1 at *
    obtain ⟨q0, q1, q2, q3, q4, qf⟩ := r3.cs
    have bx0 : W1.cell? ⟨w.heap.size, 0, none⟩ = some (.int .i64 i) := by simp [World.cell?, hx3]
    have gf : ∀ o, W1.frozen? ⟨g, o, none⟩ = false := fun o => r3.fz o
    go_wp2
    go_region
    obtain ⟨s4, t4⟩ := r3.setG (ps' := jn ps i j A c) (A * 3 + 1) (.int .i64 i) (by unfold jn; rw [if_pos hAlt]; exact fl3_set1 (jn1 ps i j c) A hA' i) (by rw [jn_len, jn1_len])
    have r4 := s4.kept (below_drewR _)
    have hx4 : (W1.setCell ⟨g, A * 3 + 1, none⟩ (.int .i64 i)).drew.heap[w.heap.size]? = some (.cells #[.int .i64 i, .int .i64 j, .int .i64 a, .int .i64 b] 251 (0, 0)) := (heap_setCell_other W1 ⟨g, A * 3 + 1, none⟩ w.heap.size _ hgx).trans hx3
    have hB4 : Below base w (W1.setCell ⟨g, A * 3 + 1, none⟩ (.int .i64 i)).drew := (hB3.trans t4).drew
    clear s4 t4 r3 hx3 hB3 m0 m1 m2 p0 p1 p2 gf
    generalize (W1.setCell ⟨g, A * 3 + 1, none⟩ (.int .i64 i)).drew = W2 at *
    obtain ⟨s5, t5⟩ := r4.setS (st + 1)
    have hqx : w.heap.size ≠ q := by omega
    have hx5 : (W2.setCell ⟨q, 4, none⟩ (.int .i64 (st + 1))).heap[w.heap.size]? = some (.cells #[.int .i64 i, .int .i64 j, .int .i64 a, .int .i64 b] 251 (0, 0)) := (heap_setCell_other W2 ⟨q, 4, none⟩ w.heap.size _ hqx).trans hx4
    have hB5 := hB4.trans t5
    clear q0 q1 q2 q3 q4 qf bx0
    obtain ⟨q0, q1, q2, q3, q4, qf⟩ := r4.cs
    have hst1 : st + 1 ≤ 9000000 := by omega
    go_wp2
    clear q0 q1 q2 q3 q4 qf r4 hx4 hB4 t5
    generalize W2.setCell ⟨q, 4, none⟩ (.int .i64 (st + 1)) = W3 at *
    have hgJ := jn_get ps c hi hj hij hA i
    rw [if_pos rfl, hAf] at hgJ
    have hlJ := jn_len ps i j A c
    have hiJ : i < (jn ps i j A c).length := by omega
    have HOK := hide (jn_ok hok hi hj hij hA hc)
    have HLJ2 := hide hlJ
    have HGJ := hide hgJ
    obtain ⟨g', cap', hv2, _, m0, m1, m2⟩ := s5.part hiJ
    simp only [Value.slice.injEq, Option.some.injEq, Addr.mk.injEq, and_true, true_and] at hv2
    obtain ⟨rfl, _, rfl⟩ := hv2
    rw [HGJ.out] at m0 m1 m2
    have bx0 : W3.cell? ⟨w.heap.size, 0, none⟩ = some (.int .i64 i) := by simp [World.cell?, hx5]
    clear hgJ hlJ
    have HAW := hide (fun (W' : World) (r : RAt base F pT v0 v1 b2 b3 tx mg q bl (.slice (some ⟨g, 0, none⟩) ps.length cap) (jn ps i j A c) h hv tn l (st + 1) W') => await_any r hHp hk (by omega) (by omega) HOK.out (gp ps i).ah i (by rcases hah with h1 | ⟨P, h1, h2⟩; · { exact Or.inl (Or.inl h1) }; · { exact Or.inr ⟨P, i, h1, rfl, by rw [HLJ2.out]; exact h2, by rw [HLJ2.out]; exact hi⟩ }))
    have S5 := hide s5
    have X5 := hide hx5
    clear s5 hx5
    go_region_with (go_at_call 163; refine (HAW.out _ (by first | exact S5.out | exact S5.out.kept (below_drewR _))).mono ?_; rintro e w5 ⟨rfl, hv5, tn5, l5, r6, hp6, ⟨hB6, hF6⟩, aw6⟩)
    all_goals
      have hx6 : w5.heap[w.heap.size]? = some (.cells #[.int .i64 i, .int .i64 j, .int .i64 a, .int .i64 b] 251 (0, 0)) := (hF6.block _ (Array.getElem?_eq_some_iff.1 X5.out).1 (by omega) (fun e => by have := hhv0 _ e.symm; omega)).trans X5.out
      have hB7 : Below base w w5 := hB5.trans ⟨hB6.os, hB6.tape, hB6.output, hB6.size, hB6.block⟩
      have hbd := aw6.bound
      obtain ⟨g', cap', hv2, _, e0, e1, e2⟩ := r6.part hiJ
      simp only [Value.slice.injEq, Option.some.injEq, Addr.mk.injEq, and_true, true_and] at hv2
      obtain ⟨rfl, _, rfl⟩ := hv2
      rw [HGJ.out] at e0 e1 e2
      have bx6 : w5.cell? ⟨w.heap.size, 0, none⟩ = some (.int .i64 i) := by simp [World.cell?, hx6]
      have HAW2 := hide (fun (W' : World) (r : RAt base F pT v0 v1 b2 b3 tx mg q bl (.slice (some ⟨g, 0, none⟩) ps.length cap) (jn ps i j A c) h hv5 tn5 l5 (st + 1) W') => await_any r hp6 hk (by omega) (by omega) HOK.out i A (by by_cases h1 : A < ps.length; · { exact Or.inr ⟨i, A, rfl, rfl, by rw [HLJ2.out]; exact hi, by rw [HLJ2.out]; exact h1⟩ }; · { exact Or.inl (Or.inr (by rw [HLJ2.out]; omega)) }))
      have R6 := hide r6
      have HAA := hide aw6
      clear r6 aw6 hB6 hF6 hx6 m0 m1 m2 bx0 HAW S5 X5 hbd
      go_wp2
      go_region_with (go_at_call 163; refine (HAW2.out _ (by first | exact R6.out | exact R6.out.kept (below_drewR _))).mono ?_; rintro e w7 ⟨rfl, hv7, tn7, l7, r8, hp8, ⟨hB8, hF8⟩, aw8⟩)
      all_goals
        go_wp2
        go_end0
        exact ⟨rfl, hv7, tn5, l5, tn7, l7, r8, hp8, hB7.trans ⟨hB8.os, hB8.tape, hB8.output, hB8.size, hB8.block⟩, HAA.out, aw8⟩
  · have hA1 : ¬ ((A : Int) < (ps.length : Int)) := by omega
    have hJ : jn ps i j A c = jn1 ps i j c := by unfold jn; rw [if_neg hAlt]
    go_wp2
    go_quiet (fail)
    have hd : Below W.heap.size W (W.drewN nq) := ⟨rfl, rfl, rfl, Nat.le_refl _, fun _ _ => rfl⟩
    have r4 := rW.kept hd
    have hx4 := (hd.block _ (Array.getElem?_eq_some_iff.1 hxW).1).trans hxW
    have hB4 := hBW2.trans (hd.mono (by have := rW.base_le; omega))
    rw [← hJ] at r4
    clear rW hxW hd hBW2 q0 q1 q2 q3 q4 qf i0 i1 i2 bx0 hgW hi' HLJ HGI hJ
    generalize W.drewN nq = W2 at *
    have bx0 : True := trivial
    obtain ⟨q0, q1, q2, q3, q4, qf⟩ := r4.cs
    obtain ⟨s5, t5⟩ := r4.setS (st + 1)
    have hqx : w.heap.size ≠ q := by omega
    have hx5 : (W2.setCell ⟨q, 4, none⟩ (.int .i64 (st + 1))).heap[w.heap.size]? = some (.cells #[.int .i64 i, .int .i64 j, .int .i64 a, .int .i64 b] 251 (0, 0)) := (heap_setCell_other W2 ⟨q, 4, none⟩ w.heap.size _ hqx).trans hx4
    have hB5 := hB4.trans t5
    clear q0 q1 q2 q3 q4 qf bx0
    obtain ⟨q0, q1, q2, q3, q4, qf⟩ := r4.cs
    have hst1 : st + 1 ≤ 9000000 := by omega
    go_wp2
    clear q0 q1 q2 q3 q4 qf r4 hx4 hB4 t5
    generalize W2.setCell ⟨q, 4, none⟩ (.int .i64 (st + 1)) = W3 at *
    have hgJ := jn_get ps c hi hj hij hA i
    rw [if_pos rfl, hAf] at hgJ
    have hlJ := jn_len ps i j A c
    have hiJ : i < (jn ps i j A c).length := by omega
    have HOK := hide (jn_ok hok hi hj hij hA hc)
    have HLJ2 := hide hlJ
    have HGJ := hide hgJ
    obtain ⟨g', cap', hv2, _, m0, m1, m2⟩ := s5.part hiJ
    simp only [Value.slice.injEq, Option.some.injEq, Addr.mk.injEq, and_true, true_and] at hv2
    obtain ⟨rfl, _, rfl⟩ := hv2
    rw [HGJ.out] at m0 m1 m2
    have bx0 : W3.cell? ⟨w.heap.size, 0, none⟩ = some (.int .i64 i) := by simp [World.cell?, hx5]
    clear hgJ hlJ
    have HAW := hide (fun (W' : World) (r : RAt base F pT v0 v1 b2 b3 tx mg q bl (.slice (some ⟨g, 0, none⟩) ps.length cap) (jn ps i j A c) h hv tn l (st + 1) W') => await_any r hHp hk (by omega) (by omega) HOK.out (gp ps i).ah i (by rcases hah with h1 | ⟨P, h1, h2⟩; · { exact Or.inl (Or.inl h1) }; · { exact Or.inr ⟨P, i, h1, rfl, by rw [HLJ2.out]; exact h2, by rw [HLJ2.out]; exact hi⟩ }))
    have S5 := hide s5
    have X5 := hide hx5
    clear s5 hx5
    go_region_with (go_at_call 163; refine (HAW.out _ (by first | exact S5.out | exact S5.out.kept (below_drewR _))).mono ?_; rintro e w5 ⟨rfl, hv5, tn5, l5, r6, hp6, ⟨hB6, hF6⟩, aw6⟩)
    all_goals
      have hx6 : w5.heap[w.heap.size]? = some (.cells #[.int .i64 i, .int .i64 j, .int .i64 a, .int .i64 b] 251 (0, 0)) := (hF6.block _ (Array.getElem?_eq_some_iff.1 X5.out).1 (by omega) (fun e => by have := hhv0 _ e.symm; omega)).trans X5.out
      have hB7 : Below base w w5 := hB5.trans ⟨hB6.os, hB6.tape, hB6.output, hB6.size, hB6.block⟩
      have hbd := aw6.bound
      obtain ⟨g', cap', hv2, _, e0, e1, e2⟩ := r6.part hiJ
      simp only [Value.slice.injEq, Option.some.injEq, Addr.mk.injEq, and_true, true_and] at hv2
      obtain ⟨rfl, _, rfl⟩ := hv2
      rw [HGJ.out] at e0 e1 e2
      have bx6 : w5.cell? ⟨w.heap.size, 0, none⟩ = some (.int .i64 i) := by simp [World.cell?, hx6]
      have HAW2 := hide (fun (W' : World) (r : RAt base F pT v0 v1 b2 b3 tx mg q bl (.slice (some ⟨g, 0, none⟩) ps.length cap) (jn ps i j A c) h hv5 tn5 l5 (st + 1) W') => await_any r hp6 hk (by omega) (by omega) HOK.out i A (by by_cases h1 : A < ps.length; · { exact Or.inr ⟨i, A, rfl, rfl, by rw [HLJ2.out]; exact hi, by rw [HLJ2.out]; exact h1⟩ }; · { exact Or.inl (Or.inr (by rw [HLJ2.out]; omega)) }))
      have R6 := hide r6
      have HAA := hide aw6
      clear r6 aw6 hB6 hF6 hx6 m0 m1 m2 bx0 HAW S5 X5 hbd
      go_wp2
      go_region_with (go_at_call 163; refine (HAW2.out _ (by first | exact R6.out | exact R6.out.kept (below_drewR _))).mono ?_; rintro e w7 ⟨rfl, hv7, tn7, l7, r8, hp8, ⟨hB8, hF8⟩, aw8⟩)
      all_goals
        go_wp2
        go_end0
        exact ⟨rfl, hv7, tn5, l5, tn7, l7, r8, hp8, hB7.trans ⟨hB8.os, hB8.tape, hB8.output, hB8.size, hB8.block⟩, HAA.out, aw8⟩
end

end Go.Proofs.YtdpmjaelbjjanaaGreat

namespace Go.Proofs.YtdpmjaelbjjanaaGreat
open Go.RowKit Go.Maps
set_option linter.unusedVariables false
set_option linter.unusedSimpArgs false

/-- How many bytes a token has; some tokens. -/
def sz (tx : List ByteArray) (id : Int) : Nat := (gs tx id.toNat).size
def pos (tx : List ByteArray) : List Int → Nat
  | [] => 0
  | id :: r => sz tx id + pos tx r
theorem pos_append (tx : List ByteArray) (u v : List Int) : pos tx (u ++ v) = pos tx u + pos tx v := by
  induction u with
  | nil => simp [pos]
  | cons a r ih => simp [pos, ih]; omega

/-- The tokens T stand in the parts, from a place on, up to E. -/
def Lay (tx : List ByteArray) (ps : List Pt) (E : Nat) : Int → Nat → List Int → Prop
  | ah, at_, [] => at_ = E
  | ah, at_, id :: r => (0 ≤ id ∧ id < tx.length) ∧ 0 < sz tx id ∧ at_ + sz tx id ≤ E ∧ gp ps at_ = ⟨id, ah, ((at_ + sz tx id : Nat) : Int)⟩ ∧ (∀ k, at_ < k → k < at_ + sz tx id → (gp ps k).id = -1) ∧ Lay tx ps E at_ (at_ + sz tx id) r

theorem Lay.len {tx : List ByteArray} {ps : List Pt} {E : Nat} : ∀ (T : List Int) (ah : Int) (at_ : Nat), Lay tx ps E ah at_ T → at_ + pos tx T = E
  | [], ah, at_, h => by
    have h1 : at_ = E := h
    simpa [pos] using h1
  | id :: r, ah, at_, h => by
    have := Lay.len r _ _ h.2.2.2.2.2
    simp [pos]; omega

/-- Parts that are the same from a place on. -/
theorem Lay.ext {tx : List ByteArray} {ps ps' : List Pt} {E : Nat} : ∀ (T : List Int) (ah : Int) (at_ : Nat), Lay tx ps E ah at_ T → (∀ k, at_ ≤ k → k < E → gp ps' k = gp ps k) → Lay tx ps' E ah at_ T
  | [], ah, at_, h, _ => h
  | id :: r, ah, at_, h, he => by
    obtain ⟨h1, h2, h3, h4, h5, h6⟩ := h
    exact ⟨h1, h2, h3, (he _ (Nat.le_refl _) (by omega)).trans h4, fun k hk1 hk2 => by rw [he k (by omega) (by omega)]; exact h5 k hk1 hk2, Lay.ext r _ _ h6 (fun k hk1 hk2 => he k (by omega) hk2)⟩

/-- Where a token stands, and its neighbour. -/
theorem Lay.find {tx : List ByteArray} {ps : List Pt} {E : Nat} : ∀ (T : List Int) (ah : Int) (at_ : Nat), Lay tx ps E ah at_ T → ∀ (i j : Nat) (a b : Int), at_ ≤ i → 0 ≤ a → (gp ps i).id = a → (gp ps j).id = b → j = i + sz tx a → j < E → ∃ u v, T = u ++ a :: b :: v ∧ at_ + pos tx u = i
  | [], ah, at_, h, i, j, a, b, hi, ha, h1, h2, h3, h4 => by
    have : at_ = E := h
    omega
  | id :: r, ah, at_, h, i, j, a, b, hi, ha, h1, h2, h3, h4 => by
    obtain ⟨g1, g2, g3, g4, g5, g6⟩ := h
    by_cases e : i = at_
    · subst e
      rw [g4] at h1
      simp at h1
      subst h1
      cases r with
      | nil =>
        have : i + sz tx id = E := g6
        omega
      | cons id2 r2 =>
        obtain ⟨k1, k2, k3, k4, k5, k6⟩ := g6
        rw [h3, k4] at h2
        simp at h2
        subst h2
        exact ⟨[], r2, rfl, by simp [pos]⟩
    · by_cases e2 : i < at_ + sz tx id
      · have := g5 i (by omega) e2
        omega
      · obtain ⟨u, v, hT, hp⟩ := Lay.find r _ _ g6 i j a b (by omega) ha h1 h2 h3 h4
        exact ⟨id :: u, v, by rw [hT]; rfl, by simp [pos]; omega⟩

/-- The parts of two that stand side by side. -/
theorem Lay.two {tx : List ByteArray} {ps : List Pt} {E : Nat} (a b : Int) (v : List Int) : ∀ (u : List Int) (ah : Int) (at_ : Nat), Lay tx ps E ah at_ (u ++ a :: b :: v) →
    (0 ≤ a ∧ a < tx.length) ∧ (0 ≤ b ∧ b < tx.length) ∧ 0 < sz tx a ∧ 0 < sz tx b ∧ at_ + pos tx u + sz tx a + sz tx b ≤ E ∧ (gp ps (at_ + pos tx u)).id = a ∧ (gp ps (at_ + pos tx u)).af = ((at_ + pos tx u + sz tx a : Nat) : Int) ∧ (gp ps (at_ + pos tx u + sz tx a)).id = b ∧ (gp ps (at_ + pos tx u + sz tx a)).af = ((at_ + pos tx u + sz tx a + sz tx b : Nat) : Int) ∧ ((u = [] ∧ (gp ps (at_ + pos tx u)).ah = ah) ∨ ∃ u' x, u = u' ++ [x] ∧ (gp ps (at_ + pos tx u)).ah = ((at_ + pos tx u' : Nat) : Int))
  | [], ah, at_, h => by
    obtain ⟨g1, g2, g3, g4, g5, k1, k2, k3, k4, k5, k6⟩ := h
    simp only [pos, Nat.add_zero]
    rw [g4, k4]
    exact ⟨g1, k1, g2, k2, k3, rfl, rfl, rfl, rfl, Or.inl ⟨trivial, rfl⟩⟩
  | x :: u, ah, at_, h => by
    obtain ⟨g1, g2, g3, g4, g5, g6⟩ := h
    have := Lay.two a b v u _ _ g6
    simp only [pos]
    rw [show at_ + (sz tx x + pos tx u) = at_ + sz tx x + pos tx u by omega]
    refine ⟨this.1, this.2.1, this.2.2.1, this.2.2.2.1, this.2.2.2.2.1, this.2.2.2.2.2.1, this.2.2.2.2.2.2.1, this.2.2.2.2.2.2.2.1, this.2.2.2.2.2.2.2.2.1, Or.inr ?_⟩
    rcases this.2.2.2.2.2.2.2.2.2 with ⟨rfl, e⟩ | ⟨u', y, rfl, e⟩
    · exact ⟨[], x, rfl, by rw [e]; simp [pos]⟩
    · refine ⟨x :: u', y, rfl, ?_⟩
      rw [e]
      simp only [pos]
      congr 1
      omega

/-- Two have become one. -/
theorem Lay.join {tx : List ByteArray} {ps : List Pt} {E : Nat} (hE : E = ps.length) (a b c : Int) (v : List Int) (hc : 0 ≤ c ∧ c < tx.length) (hs : sz tx c = sz tx a + sz tx b) : ∀ (u : List Int) (ah : Int) (at_ : Nat), Lay tx ps E ah at_ (u ++ a :: b :: v) → ∀ (i j A : Nat), i = at_ + pos tx u → j = i + sz tx a → A = j + sz tx b → Lay tx (jn ps i j A c) E ah at_ (u ++ c :: v)
  | [], ah, at_, h, i, j, A, hi, hj, hA => by
    obtain ⟨g1, g2, g3, g4, g5, k1, k2, k3, k4, k5, k6⟩ := h
    simp only [pos, Nat.add_zero] at hi
    subst hi
    rw [← hj] at k4 k5 k3 k6
    rw [← hA] at k5 k3 k6
    have G := jn_get ps (i := i) (j := j) (A := A) c (by omega) (by omega) (by omega) (by omega)
    have hz : i + sz tx c = A := by omega
    refine ⟨hc, by omega, by omega, ?_, ?_, ?_⟩
    · rw [G i, if_pos rfl, g4, k4, hz, ← hA]
    · intro k hk1 hk2
      rw [G k, if_neg (by omega)]
      by_cases e : k = j
      · rw [if_pos e]
      · rw [if_neg e, if_neg (by omega)]
        by_cases e2 : k < j
        · exact g5 k hk1 (by omega)
        · exact k5 k (by omega) (by omega)
    · rw [hz]
      cases v with
      | nil => exact k6
      | cons y r =>
        obtain ⟨m1, m2, m3, m4, m5, m6⟩ := k6
        refine ⟨m1, m2, m3, ?_, fun k hk1 hk2 => ?_, ?_⟩
        · rw [G A, if_neg (by omega), if_neg (by omega), if_pos ⟨rfl, by omega⟩, m4]
        · rw [G k, if_neg (by omega), if_neg (by omega), if_neg (by omega)]
          exact m5 k hk1 hk2
        · refine Lay.ext r _ _ m6 (fun k hk1 hk2 => ?_)
          rw [G k, if_neg (by omega), if_neg (by omega), if_neg (by omega)]
  | x :: u, ah, at_, h, i, j, A, hi, hj, hA => by
    obtain ⟨g1, g2, g3, g4, g5, g6⟩ := h
    simp only [pos] at hi
    have two := Lay.two a b v u _ _ g6
    have hle := two.2.2.2.2.1
    have ha := two.2.2.1
    have hb := two.2.2.2.1
    have G := jn_get ps (i := i) (j := j) (A := A) c (by omega) (by omega) (by omega) (by omega)
    refine ⟨g1, g2, g3, ?_, fun k hk1 hk2 => ?_, Lay.join hE a b c v hc hs u _ _ g6 i j A (by omega) hj hA⟩
    · rw [G at_, if_neg (by omega), if_neg (by omega), if_neg (by omega)]; exact g4
    · rw [G k, if_neg (by omega), if_neg (by omega), if_neg (by omega)]; exact g5 k hk1 hk2

end Go.Proofs.YtdpmjaelbjjanaaGreat

namespace Go.Proofs.YtdpmjaelbjjanaaGreat
open Go.RowKit Go.Maps
set_option linter.unusedVariables false
set_option linter.unusedSimpArgs false

/-- Two that were to become one when they were put into the heap. -/
def Ent (tx : List ByteArray) (mg : List (Int × Int)) (bl : Int) (n : Nat) (e : Hq.It) : Prop :=
  ∃ i j K : Nat, e.x1 = i ∧ e.x2 = j ∧ e.p = i ∧ e.r = 256 + K ∧ K < mg.length ∧ 256 + (K : Int) < bl ∧ gm mg K = (e.x3, e.x4) ∧ j = i + sz tx e.x3 ∧ i < j ∧ j < n

structure StI (tx : List ByteArray) (mg : List (Int × Int)) (bl : Int) (ps : List Pt) (T : List Int) (l : List Hq.It) : Prop where
  lay : Lay tx ps ps.length (-1) 0 T
  e1 : ∀ e ∈ l, Ent tx mg bl ps.length e
  e2 : ∀ u a b v, T = u ++ a :: b :: v → ∀ K : Nat, K < mg.length → 256 + (K : Int) < bl → gm mg K = (a, b) → ∃ e ∈ l, e.r = 256 + K ∧ e.p = pos tx u

def rnds (mg : List (Int × Int)) (bl : Int) : Nat := min mg.length (bl - 256).toNat
theorem rnds_lt {mg : List (Int × Int)} {bl : Int} {K : Nat} : K < rnds mg bl ↔ K < mg.length ∧ 256 + (K : Int) < bl := by
  unfold rnds
  omega

theorem AwR.sub {mg : List (Int × Int)} {bl : Int} {ps : List Pt} {L R tn tn' : Int} {l l' : List Hq.It} (h : AwR mg bl ps L R tn l tn' l') : ∀ e ∈ l, e ∈ l' := by
  rcases h with ⟨_, _, rfl⟩ | ⟨i, j, _, _, _, _, ⟨_, rfl, _⟩ | ⟨k, _, _, _, _, hp⟩⟩
  · exact fun e he => he
  · exact fun e he => he
  · exact fun e he => hp.mem_iff.2 (List.mem_cons_of_mem _ he)
theorem AwR.mem {mg : List (Int × Int)} {bl : Int} {ps : List Pt} {L R tn tn' : Int} {l l' : List Hq.It} (h : AwR mg bl ps L R tn l tn' l') : ∀ e ∈ l', e ∈ l ∨ ∃ i j k : Nat, L = i ∧ R = j ∧ i < ps.length ∧ j < ps.length ∧ k < mg.length ∧ 256 + (k : Int) < bl ∧ gm mg k = ((gp ps i).id, (gp ps j).id) ∧ e = ⟨256 + k, i, tn, i, j, (gp ps i).id, (gp ps j).id⟩ := by
  rcases h with ⟨_, _, rfl⟩ | ⟨i, j, h1, h2, h3, h4, ⟨_, rfl, _⟩ | ⟨k, h5, h6, h7, _, hp⟩⟩
  · exact fun e he => Or.inl he
  · exact fun e he => Or.inl he
  · intro e he
    rcases List.mem_cons.1 (hp.mem_iff.1 he) with rfl | he
    · exact Or.inr ⟨i, j, k, h1, h2, h3, h4, h5, h6, h7, rfl⟩
    · exact Or.inl he
theorem AwR.has {mg : List (Int × Int)} {bl : Int} {ps : List Pt} {tn tn' : Int} {l l' : List Hq.It} {i j : Nat} (h : AwR mg bl ps i j tn l tn' l') (hj : j < ps.length) {K : Nat} (hK : K < mg.length) (hb : 256 + (K : Int) < bl) (hg : gm mg K = ((gp ps i).id, (gp ps j).id)) {tx : List ByteArray} (hk : Tok tx mg) : ∃ e ∈ l', e.r = 256 + K ∧ e.p = i := by
  rcases h with ⟨h0, _⟩ | ⟨i', j', h1, h2, h3, h4, hd⟩
  · omega
  · obtain rfl : i = i' := by omega
    obtain rfl : j = j' := by omega
    rcases hd with ⟨_, _, hno⟩ | ⟨k, h5, h6, h7, _, hp⟩
    · exact absurd hg (hno K hK hb)
    · obtain rfl := hk.uniq hK h5 (hg.trans h7.symm)
      exact ⟨_, hp.mem_iff.2 (List.mem_cons_self), rfl, rfl⟩

theorem head_gi {l : List Hq.It} (h : 0 < l.length) : l = Hq.gi l 0 :: l.tail := by
  cases l with
  | nil => simp at h
  | cons a r => simp [Hq.gi]

section
variable {tx : List ByteArray} {mg : List (Int × Int)} {bl : Int} {ps : List Pt} {T : List Int} {l l' : List Hq.It}

/-- What is popped and doesn't stand is let go. -/
theorem StI.stale (h : StI tx mg bl ps T l) (hk : Tok tx mg) (h0 : 0 < l.length) (hP : l'.Perm l.tail) {i j : Nat} (hi : (Hq.gi l 0).x1 = i) (hj : (Hq.gi l 0).x2 = j) (hns : ¬ ((gp ps i).id = (Hq.gi l 0).x3 ∧ (gp ps j).id = (Hq.gi l 0).x4)) : StI tx mg bl ps T l' := by
  have hl := head_gi h0
  refine ⟨h.lay, fun e he => h.e1 e (List.mem_of_mem_tail (hP.mem_iff.1 he)), fun u a b v hT K hK hb hg => ?_⟩
  obtain ⟨e, he, hr, hp⟩ := h.e2 u a b v hT K hK hb hg
  rw [hl] at he
  rcases List.mem_cons.1 he with rfl | he
  · exfalso
    obtain ⟨i', j', K', g1, g2, g3, g4, g5, g6, g7, g8, g9, g10⟩ := h.e1 _ (by rw [hl]; exact List.mem_cons_self)
    obtain rfl : K = K' := by omega
    rw [hg] at g7
    have ea := congrArg Prod.fst g7
    have eb := congrArg Prod.snd g7
    simp only at ea eb
    have two := Lay.two a b v u (-1) 0 (hT ▸ h.lay)
    simp only [Nat.zero_add] at two
    have ei : i = pos tx u := by omega
    rw [← ea] at g8
    have ej : j = pos tx u + sz tx a := by omega
    apply hns
    rw [ei, ej, ← ea, ← eb]
    exact ⟨two.2.2.2.2.2.1, two.2.2.2.2.2.2.2.1⟩
  · exact ⟨e, hP.mem_iff.2 he, hr, hp⟩

/-- What is popped and stands: where it stands; what is made at last stays as it is. -/
theorem StI.top (h : StI tx mg bl ps T l) (hk : Tok tx mg) (hHp : Hq.Hp l) (h0 : 0 < l.length) {i j : Nat} (hi : (Hq.gi l 0).x1 = i) (hj : (Hq.gi l 0).x2 = j) (hs : (gp ps i).id = (Hq.gi l 0).x3 ∧ (gp ps j).id = (Hq.gi l 0).x4) :
    ∃ (K : Nat) (u v : List Int) (a b : Int), K < mg.length ∧ 256 + (K : Int) < bl ∧ (Hq.gi l 0).r = 256 + K ∧ (Hq.gi l 0).p = i ∧ gm mg K = (a, b) ∧ T = u ++ a :: b :: v ∧ pos tx u = i ∧ j = i + sz tx a ∧ (Hq.gi l 0).x3 = a ∧ (Hq.gi l 0).x4 = b ∧ enc mg (rnds mg bl) T = enc mg (rnds mg bl) (u ++ (256 + (K : Int)) :: v) := by
  have hl := head_gi h0
  obtain ⟨i', j', K, g1, g2, g3, g4, g5, g6, g7, g8, g9, g10⟩ := h.e1 (Hq.gi l 0) (by rw [hl]; exact List.mem_cons_self)
  obtain rfl : i = i' := by omega
  obtain rfl : j = j' := by omega
  have hpar := hk.par K g5
  rw [g7] at hpar
  obtain ⟨u, v, hT, hp⟩ := Lay.find T (-1) 0 h.lay i j _ _ (Nat.zero_le _) hpar.1 hs.1 hs.2 g8 g10
  rw [Nat.zero_add] at hp
  refine ⟨K, u, v, _, _, g5, g6, g4, g3, g7, hT, hp, g8, rfl, rfl, ?_⟩
  have two := Lay.two _ _ v u (-1) 0 (hT ▸ h.lay)
  generalize (Hq.gi l 0).x3 = a at *
  generalize (Hq.gi l 0).x4 = b at *
  have key := enc_step hk g5 (u := u) (v := v)
  rw [g7] at key
  rw [hT]
  refine key (fun k hkK x y e => ?_) (fun x y e => ?_) _ (rnds_lt.2 ⟨g5, g6⟩)
  · obtain ⟨e', he, hr, hp'⟩ := h.e2 x (gm mg k).1 (gm mg k).2 y (hT.trans e) k (by omega) (by omega) rfl
    have := hHp.least e' he
    rw [Hq.ltB_not] at this
    omega
  · have hT2 : T = x ++ a :: b :: (y ++ b :: v) := by
      rw [hT, show u ++ a :: b :: v = (u ++ [a]) ++ b :: v by simp, e]
      simp
    obtain ⟨e', he, hr, hp'⟩ := h.e2 x a b (y ++ b :: v) hT2 K g5 g6 g7
    have := hHp.least e' he
    rw [Hq.ltB_not] at this
    have hq := congrArg (pos tx) e
    simp only [pos_append, pos] at hq
    have hb0 := two.2.2.2.1
    omega

/-- Behind a join. -/
theorem StI.joined (h : StI tx mg bl ps T l) (hk : Tok tx mg) (h0 : 0 < l.length) {l0 l1 : List Hq.It} (hP : l0.Perm l.tail) {K i j A : Nat} {u v : List Int} {a b : Int} (hK : K < mg.length) (hg : gm mg K = (a, b)) (hT : T = u ++ a :: b :: v) (hp : pos tx u = i) (hj : j = i + sz tx a) (hA : A = j + sz tx b) (hpi : (Hq.gi l 0).p = i)
    {tn tn1 tn' : Int} (aw1 : AwR mg bl (jn ps i j A (256 + (K : Int))) (gp ps i).ah i tn l0 tn1 l1) (aw2 : AwR mg bl (jn ps i j A (256 + (K : Int))) i A tn1 l1 tn' l') : StI tx mg bl (jn ps i j A (256 + (K : Int))) (u ++ (256 + (K : Int)) :: v) l' := by
  have hl := head_gi h0
  have two := Lay.two a b v u (-1) 0 (hT ▸ h.lay)
  simp only [Nat.zero_add, hp] at two
  rw [← hj] at two
  rw [← hA] at two
  obtain ⟨ha, hb, za, zb, hle, ia, fa, ib, fb, hah⟩ := two
  have hl2 := hk.len
  have hsz : sz tx (256 + (K : Int)) = sz tx a + sz tx b := by
    have hm := hk.made K hK
    rw [hg] at hm
    unfold sz
    rw [show (256 + (K : Int)).toNat = 256 + K by omega, hm]
    simp
  have hlay := Lay.join rfl a b (256 + (K : Int)) v (by omega) hsz u (-1) 0 (hT ▸ h.lay) i j A (by omega) hj hA
  have hlen := jn_len ps i j A (256 + (K : Int))
  have G := jn_get ps (i := i) (j := j) (A := A) (256 + (K : Int)) (by omega) (by omega) (by omega) (by omega)
  have gi_ : (gp (jn ps i j A (256 + (K : Int))) i).id = 256 + (K : Int) := by rw [G i, if_pos rfl]
  have keep : ∀ e ∈ l, e.p ≠ i → e ∈ l' := by
    intro e he hne
    rw [hl] at he
    rcases List.mem_cons.1 he with rfl | he
    · exact absurd hpi hne
    · exact aw2.sub e (aw1.sub e (hP.mem_iff.2 he))
  refine ⟨by rw [hlen]; exact hlay, ?_, ?_⟩
  · intro e he
    rw [hlen]
    have new : ∀ i' j' k : Nat, i' < j' → j' < ps.length → k < mg.length → 256 + (k : Int) < bl → gm mg k = ((gp (jn ps i j A (256 + (K : Int))) i').id, (gp (jn ps i j A (256 + (K : Int))) j').id) → ∀ t, j' = i' + sz tx (gp (jn ps i j A (256 + (K : Int))) i').id → Ent tx mg bl ps.length ⟨256 + k, i', t, i', j', (gp (jn ps i j A (256 + (K : Int))) i').id, (gp (jn ps i j A (256 + (K : Int))) j').id⟩ :=
      fun i' j' k q1 q2 q3 q4 q5 t q6 => ⟨i', j', k, rfl, rfl, rfl, rfl, q3, q4, q5, q6, q1, q2⟩
    rcases aw2.mem e he with he | ⟨i', j', k, q1, q2, q3, q4, q5, q6, q7, rfl⟩
    · rcases aw1.mem e he with he | ⟨i', j', k, q1, q2, q3, q4, q5, q6, q7, rfl⟩
      · exact h.e1 e (List.mem_of_mem_tail (hP.mem_iff.1 he))
      · obtain rfl : i = j' := by omega
        rcases hah with ⟨_, e0⟩ | ⟨u', x, rfl, e0⟩
        · omega
        · have hi' : i' = pos tx u' := by omega
          have hpx : pos tx u' + sz tx x = i := by rw [← hp, pos_append]; simp [pos]
          have hT3 : T = u' ++ x :: a :: (b :: v) := by rw [hT]; simp
          have tw := Lay.two x a (b :: v) u' (-1) 0 (hT3 ▸ h.lay)
          simp only [Nat.zero_add] at tw
          have hidx : (gp (jn ps i j A (256 + (K : Int))) i').id = x := by
            rw [G i', if_neg (by have := tw.2.2.1; omega), if_neg (by have := tw.2.2.1; omega), if_neg (by have := tw.2.2.1; omega), hi']
            exact tw.2.2.2.2.2.1
          exact new i' i k (by have := tw.2.2.1; omega) (by omega) q5 q6 q7 tn (by rw [hidx]; omega)
    · obtain rfl : i = i' := by omega
      obtain rfl : A = j' := by omega
      exact new i A k (by omega) (by omega) q5 q6 q7 tn1 (by rw [gi_, hsz]; omega)
  · intro u1 x y v1 hT1 K1 hK1 hb1 hg1
    have hpar := hk.par K hK
    -- where the two stand
    rcases List.append_eq_append_iff.1 hT1 with ⟨z, e1, e2⟩ | ⟨z, e1, e2⟩
    · -- u1 = u ++ z, (256+K) :: v = z ++ x :: y :: v1
      cases z with
      | nil =>
        simp at e1 e2
        obtain ⟨rfl, e3⟩ := e2
        subst e1
        have hT3 : T = u1 ++ a :: b :: y :: v1 := by rw [hT, e3]
        have hT4 : u1 ++ (256 + (K : Int)) :: v = u1 ++ (256 + (K : Int)) :: y :: v1 := by rw [e3]
        have tw := Lay.two (256 + (K : Int)) y v1 u1 (-1) 0 (hT4 ▸ hlay)
        simp only [Nat.zero_add, hp] at tw
        have hiA : i + sz tx (256 + (K : Int)) = A := by omega
        rw [hiA] at tw
        have hAl : A < ps.length := by have := tw.2.2.2.1; have := tw.2.2.2.2.1; omega
        obtain ⟨e, he, hr, hpe⟩ := aw2.has (by rw [hlen]; exact hAl) hK1 hb1 (by rw [hg1, gi_, tw.2.2.2.2.2.2.2.1]) hk
        exact ⟨e, he, hr, by omega⟩
      | cons q z =>
        simp at e1 e2
        obtain ⟨rfl, e3⟩ := e2
        have hT3 : T = (u ++ a :: b :: z) ++ x :: y :: v1 := by rw [hT, e3]; simp
        obtain ⟨e, he, hr, hpe⟩ := h.e2 _ x y v1 hT3 K1 hK1 hb1 hg1
        have e4 : pos tx u1 = pos tx (u ++ a :: b :: z) := by
          rw [e1]; simp only [pos_append, pos]; omega
        refine ⟨e, keep e he ?_, hr, by omega⟩
        rw [hpe]
        simp only [pos_append, pos]
        omega
    · -- u = u1 ++ z, x :: y :: v1 = z ++ (256+K) :: v
      cases z with
      | nil =>
        simp at e1 e2
        obtain ⟨rfl, e3⟩ := e2
        subst e1
        have hT3 : T = u ++ a :: b :: v := hT
        have hT4 : u ++ (256 + (K : Int)) :: v = u ++ (256 + (K : Int)) :: y :: v1 := by rw [e3]
        have tw := Lay.two (256 + (K : Int)) y v1 u (-1) 0 (hT4 ▸ hlay)
        simp only [Nat.zero_add, hp] at tw
        have hiA : i + sz tx (256 + (K : Int)) = A := by omega
        rw [hiA] at tw
        have hAl : A < ps.length := by have := tw.2.2.2.1; have := tw.2.2.2.2.1; omega
        obtain ⟨e, he, hr, hpe⟩ := aw2.has (by rw [hlen]; exact hAl) hK1 hb1 (by rw [hg1, gi_, tw.2.2.2.2.2.2.2.1]) hk
        exact ⟨e, he, hr, by omega⟩
      | cons q z =>
        simp at e2
        obtain ⟨rfl, e3⟩ := e2
        cases z with
        | nil =>
          -- the last of u and the new one
          simp at e3
          obtain ⟨rfl, rfl⟩ := e3
          have hT3 : T = u1 ++ x :: a :: b :: v1 := by rw [hT, e1]; simp
          have tw := Lay.two x a (b :: v1) u1 (-1) 0 (hT3 ▸ h.lay)
          simp only [Nat.zero_add] at tw
          have hpx : pos tx u1 + sz tx x = i := by rw [← hp, e1, pos_append]; simp [pos]
          have zx := tw.2.2.1
          rcases hah with ⟨e0, _⟩ | ⟨u', x', e5, e0⟩
          · rw [e0] at e1; simp at e1
          · have e6 : u1 = u' := by
              have := e1.symm.trans e5
              exact (List.append_inj' this rfl).1
            subst e6
            rw [e0] at aw1
            have hidx : (gp (jn ps i j A (256 + (K : Int))) (pos tx u1)).id = x := by
              rw [G, if_neg (by omega), if_neg (by omega), if_neg (by omega)]
              exact tw.2.2.2.2.2.1
            obtain ⟨e, he, hr, hpe⟩ := aw1.has (by rw [hlen]; omega) hK1 hb1 (by rw [hg1, hidx, gi_]) hk
            exact ⟨e, aw2.sub e he, hr, by omega⟩
        | cons q2 z =>
          simp at e3
          obtain ⟨rfl, e4⟩ := e3
          have hT3 : T = u1 ++ x :: y :: (z ++ a :: b :: v) := by rw [hT, e1]; simp
          obtain ⟨e, he, hr, hpe⟩ := h.e2 _ x y _ hT3 K1 hK1 hb1 hg1
          have tw := Lay.two x y _ u1 (-1) 0 (hT3 ▸ h.lay)
          have zx := tw.2.2.1
          refine ⟨e, keep e he ?_, hr, hpe⟩
          rw [hpe, ← hp, e1]
          simp only [pos_append, pos]
          omega

/-- Nothing waits: what stands is what is made. -/
theorem StI.done (h : StI tx mg bl ps T []) : enc mg (rnds mg bl) T = T := by
  refine enc_id _ (fun k hk u v e => ?_)
  obtain ⟨h1, h2⟩ := rnds_lt.1 hk
  obtain ⟨e', he, _⟩ := h.e2 u _ _ v e k h1 h2 rfl
  cases he
end

end Go.Proofs.YtdpmjaelbjjanaaGreat
