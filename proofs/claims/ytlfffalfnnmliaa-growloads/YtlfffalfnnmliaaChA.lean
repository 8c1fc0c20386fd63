/- A row of tokens as it lies in memory: a struct, its parts, its heap, and the table. -/
import Derived.Test.YtlfffalfnnmliaaChM
import Derived.Test.YtlfffalfnnmliaaTkJ
import Derived.Test.YtlfffalfnnmliaaHqP
namespace Go.Proofs.Ytlfffalfnnmliaa
open Go.RowKit Go.Maps
set_option linter.unusedVariables false
set_option linter.unusedSimpArgs false

/-- A part: its token, and where its neighbours stand. -/
structure Pt where
  id : Int
  ah : Int
  af : Int
def ptZ : Pt := ⟨0, 0, 0⟩
def gp (l : List Pt) (i : Nat) : Pt := l.getD i ptZ
def fl3 : List Pt → List Value
  | [] => []
  | a :: r => [.int .i64 a.id, .int .i64 a.ah, .int .i64 a.af] ++ fl3 r
theorem gp_lt (l : List Pt) {i : Nat} (h : i < l.length) : gp l i = l[i] := by
  rw [gp, List.getD_eq_getElem?_getD, List.getElem?_eq_getElem h, Option.getD_some]
theorem gp_set (l : List Pt) (i : Nat) (a : Pt) (k : Nat) (hi : i < l.length) : gp (l.set i a) k = if k = i then a else gp l k := by
  simp only [gp, List.getD_eq_getElem?_getD, List.getElem?_set]
  by_cases h : i = k
  · subst h; simp [hi]
  · rw [if_neg h, if_neg (Ne.symm h)]
theorem fl3_len (l : List Pt) : (fl3 l).length = l.length * 3 := by
  induction l with
  | nil => rfl
  | cons a r ih => simp [fl3, ih]; omega
theorem fl3_get (l : List Pt) (i : Nat) (hi : i < l.length) : (fl3 l)[i * 3]? = some (.int .i64 (gp l i).id) ∧ (fl3 l)[i * 3 + 1]? = some (.int .i64 (gp l i).ah) ∧ (fl3 l)[i * 3 + 2]? = some (.int .i64 (gp l i).af) := by
  induction l generalizing i with
  | nil => simp at hi
  | cons a r ih =>
    cases i with
    | zero => simp [fl3, gp]
    | succ i =>
      have h := ih i (by simpa using hi)
      have e : ∀ k, (fl3 (a :: r))[(i + 1) * 3 + k]? = (fl3 r)[i * 3 + k]? := by
        intro k
        rw [show (i + 1) * 3 + k = (i * 3 + k) + 1 + 1 + 1 by omega]
        simp [fl3]
      have g : gp (a :: r) (i + 1) = gp r i := by simp [gp]
      rw [g]
      refine ⟨?_, ?_, ?_⟩
      · have := e 0; simp only [Nat.add_zero] at this; rw [this]; exact h.1
      · rw [e 1]; exact h.2.1
      · rw [e 2]; exact h.2.2
theorem fl3_set (l : List Pt) (i : Nat) (hi : i < l.length) (a : Pt) : fl3 (l.set i a) = (((fl3 l).set (i * 3) (.int .i64 a.id)).set (i * 3 + 1) (.int .i64 a.ah)).set (i * 3 + 2) (.int .i64 a.af) := by
  induction l generalizing i with
  | nil => simp at hi
  | cons b r ih =>
    cases i with
    | zero => simp [fl3]
    | succ i =>
      have h := ih i (by simpa using hi)
      rw [List.set_cons_succ]
      simp only [fl3, h]
      have e : ∀ k, (i + 1) * 3 + k = (i * 3 + k) + 1 + 1 + 1 := by omega
      have e0 : (i + 1) * 3 = (i * 3) + 1 + 1 + 1 := by omega
      rw [e 1, e 2, e0]
      simp
theorem fl3_set0 (l : List Pt) (i : Nat) (hi : i < l.length) (x : Int) : fl3 (l.set i ⟨x, (gp l i).ah, (gp l i).af⟩) = (fl3 l).set (i * 3) (.int .i64 x) := by
  induction l generalizing i with
  | nil => simp at hi
  | cons b r ih =>
    cases i with
    | zero => simp [fl3, gp]
    | succ i =>
      have h := ih i (by simpa using hi)
      have g : gp (b :: r) (i + 1) = gp r i := by simp [gp]
      rw [List.set_cons_succ, g]
      simp only [fl3, h]
      rw [show (i + 1) * 3 = (i * 3) + 1 + 1 + 1 by omega]
      simp
theorem fl3_set1 (l : List Pt) (i : Nat) (hi : i < l.length) (x : Int) : fl3 (l.set i ⟨(gp l i).id, x, (gp l i).af⟩) = (fl3 l).set (i * 3 + 1) (.int .i64 x) := by
  induction l generalizing i with
  | nil => simp at hi
  | cons b r ih =>
    cases i with
    | zero => simp [fl3, gp]
    | succ i =>
      have h := ih i (by simpa using hi)
      have g : gp (b :: r) (i + 1) = gp r i := by simp [gp]
      rw [List.set_cons_succ, g]
      simp only [fl3, h]
      rw [show (i + 1) * 3 + 1 = (i * 3 + 1) + 1 + 1 + 1 by omega]
      simp
theorem fl3_set2 (l : List Pt) (i : Nat) (hi : i < l.length) (x : Int) : fl3 (l.set i ⟨(gp l i).id, (gp l i).ah, x⟩) = (fl3 l).set (i * 3 + 2) (.int .i64 x) := by
  induction l generalizing i with
  | nil => simp at hi
  | cons b r ih =>
    cases i with
    | zero => simp [fl3, gp]
    | succ i =>
      have h := ih i (by simpa using hi)
      have g : gp (b :: r) (i + 1) = gp r i := by simp [gp]
      rw [List.set_cons_succ, g]
      simp only [fl3, h]
      rw [show (i + 1) * 3 + 2 = (i * 3 + 2) + 1 + 1 + 1 by omega]
      simp

abbrev HpA := Hq.HAt 126 133

/-- The row at q: the table at pT (all of it below base), the parts vp, the heap at h. -/
structure RAt (base : Nat) (F : List Nat) (pT : Nat) (v0 v1 : Value) (b2 b3 : Nat) (tx : List ByteArray) (mg : List (Int × Int)) (q : Nat) (bl : Int) (vp : Value) (ps : List Pt) (h : Nat) (hv : Value) (tn : Int) (l : List Hq.It) (st : Int) (w : World) : Prop where
  cells : w.heap[q]? = some (.cells #[.pointer (some ⟨pT, 0, none⟩), .int .i64 bl, vp, .pointer (some ⟨h, 0, none⟩), .int .i64 st] 116 (0, 0))
  prow : w.ownsRow base 118 3 vp ps.length (fl3 ps)
  hp : HpA base h hv tn l w
  tab : TAt F pT v0 v1 b2 b3 tx mg (lgs tx) w
  low : ∀ k ∈ F, k < base
  bq : base ≤ q
  qh : q ≠ h
  pq : vp.ownBlock ≠ some q
  ph : vp.ownBlock ≠ some h
  hq : hv.ownBlock ≠ some q
  hpv : ∀ k, hv.ownBlock = some k → vp.ownBlock ≠ some k

section
variable {base : Nat} {F : List Nat} {pT : Nat} {v0 v1 : Value} {b2 b3 : Nat} {tx : List ByteArray} {mg : List (Int × Int)} {q : Nat} {bl : Int} {vp : Value} {ps : List Pt} {h : Nat} {hv hv' : Value} {tn tn' : Int} {l l' : List Hq.It} {st : Int} {w w' : World}

theorem RAt.lt (r : RAt base F pT v0 v1 b2 b3 tx mg q bl vp ps h hv tn l st w) : q < w.heap.size := (Array.getElem?_eq_some_iff.1 r.cells).1
theorem RAt.base_le (r : RAt base F pT v0 v1 b2 b3 tx mg q bl vp ps h hv tn l st w) : base ≤ w.heap.size := by have := r.lt; have := r.bq; omega
theorem TAt.keptL {lg : Int} {B : Nat} (t : TAt F pT v0 v1 b2 b3 tx mg lg w) (hb : Below B w w') (hF : ∀ k ∈ F, k < B) : TAt F pT v0 v1 b2 b3 tx mg lg w' :=
  t.kept (G := (List.range w.heap.size).filter (fun k => decide (B ≤ k))) ⟨hb.os, hb.tape, hb.output, hb.size, fun k hk hG => hb.block k (by
    simp at hG
    have := hG hk
    omega)⟩ (fun k hk e => by simp at e; have := hF k hk; omega)
theorem RAt.kept (r : RAt base F pT v0 v1 b2 b3 tx mg q bl vp ps h hv tn l st w) (hb : Below w.heap.size w w') : RAt base F pT v0 v1 b2 b3 tx mg q bl vp ps h hv tn l st w' :=
  ⟨(hb.block q r.lt).trans r.cells, r.prow.kept (row := none) ⟨hb.os, hb.tape, hb.output, hb.size, fun k hk _ => hb.block k hk⟩ (by cases vp.ownBlock <;> simp), r.hp.kept hb, r.tab.keptB hb, r.low, r.bq, r.qh, r.pq, r.ph, r.hq, r.hpv⟩
theorem RAt.cs (r : RAt base F pT v0 v1 b2 b3 tx mg q bl vp ps h hv tn l st w) : w.cell? ⟨q, 0, none⟩ = some (.pointer (some ⟨pT, 0, none⟩)) ∧ w.cell? ⟨q, 1, none⟩ = some (.int .i64 bl) ∧ w.cell? ⟨q, 2, none⟩ = some vp ∧ w.cell? ⟨q, 3, none⟩ = some (.pointer (some ⟨h, 0, none⟩)) ∧ w.cell? ⟨q, 4, none⟩ = some (.int .i64 st) ∧ ∀ o, w.frozen? ⟨q, o, none⟩ = false := by
  simp [World.cell?, World.frozen?, r.cells]
/-- The heap has changed: all else is as it was. -/
theorem RAt.heaped (r : RAt base F pT v0 v1 b2 b3 tx mg q bl vp ps h hv tn l st w) (hh : HpA base h hv' tn' l' w') (hF : Hq.Fr h hv w w') (hN : Hq.Nw w hv hv') : RAt base F pT v0 v1 b2 b3 tx mg q bl vp ps h hv' tn' l' st w' ∧ Below base w w' := by
  have hB : Below base w w' := hF.below r.base_le r.hp.bp (fun g e => (r.hp.row.lt g e).1)
  refine ⟨⟨(hF.block q r.lt r.qh (fun e => r.hq e.symm)).trans r.cells, ?_, hh, r.tab.keptL hB r.low, r.low, r.bq, r.qh, r.pq, r.ph, ?_, ?_⟩, hB⟩
  · refine ⟨r.prow.1, ?_⟩
    rcases r.prow.2 with hn | ⟨g, cap, cur, rfl, hb, hgg, rest⟩
    · exact .inl hn
    · refine .inr ⟨g, cap, cur, rfl, hb, ?_, rest⟩
      rw [hF.block g (Array.getElem?_eq_some_iff.1 hgg).1 (fun e => r.ph (by simp [Value.ownBlock, e])) (fun e => r.hpv g e.symm rfl)]
      exact hgg
  · intro e
    rcases hN with h1 | ⟨g, h1, hg⟩
    · exact r.hq (h1.symm.trans e)
    · rw [h1] at e
      have := Option.some.inj e
      have := r.lt
      omega
  · intro k e e2
    rcases hN with h1 | ⟨g, h1, hg⟩
    · exact r.hpv k (h1.symm.trans e) e2
    · rw [h1] at e
      have e3 := Option.some.inj e
      have := (r.prow.lt k e2).2
      omega
end

end Go.Proofs.Ytlfffalfnnmliaa
