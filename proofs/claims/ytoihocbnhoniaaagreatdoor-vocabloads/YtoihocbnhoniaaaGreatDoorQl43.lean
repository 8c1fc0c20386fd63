/- The document's Parse in memory: a copy of a row and one element more; what is gathered; its state. -/
import Derived.Test.YtoihocbnhoniaaaGreatDoorQl15
import Derived.Test.YtoihocbnhoniaaaGreatDoorQl13
import Derived.Test.YtoihocbnhoniaaaGreatDoorQl6
import Derived.Test.YtoihocbnhoniaaaGreatDoorQl42
import Derived.Test.YtoihocbnhoniaaaGreatDoorQl10
namespace Go.Proofs.YtoihocbnhoniaaaGreatDoor.Wf
open Go.RowKit
set_option linter.unusedVariables false
set_option linter.unusedSimpArgs false

theorem Rws.low {B : Nat} {x : Sv} {s : Sp} {W W' : World} (h : Rws B x s W) (hb : Below W.heap.size W W') : Rws B x s W' :=
  ⟨h.r, h.m1.low hb, h.m2.low hb, h.m3.low hb, h.m4.low hb, h.m5.low hb⟩
theorem Row.base {α : Type} {B B' E k : Nat} {e : α → List Value} {ao : Option Addr} {n cap : Nat} {l : List α} {W : World} (h : Row B E k e ao n cap l W) (hB : B' ≤ B) : Row B' E k e ao n cap l W := by
  refine ⟨h.len, h.own.1, ?_⟩
  rcases h.own.2 with h0 | ⟨g, c, cur, hv, hg, rest⟩
  · exact Or.inl h0
  · exact Or.inr ⟨g, c, cur, hv, Nat.le_trans hB hg, rest⟩

/-- A copy of a row, made of an empty one. -/
theorem app_c1 {α : Type} {t E k by_ : Nat} {e : α → List Value} {z : Value} {i0 : TypeInfo} (ht : Tryz.prog.underlying t = some (.slice E)) (hi : Tryz.prog.info? E = some i0) (hz0 : i0.zero = some z) (hz1 : i0.size = k) (hz2 : i0.bytes = by_) (hzs : z.cells.size = k) (hk : 0 < k) (hby : by_ ≤ 100)
    (hek : ∀ a, (e a).length = k) (he1 : ∀ a, ∀ u ∈ e a, u.oneCell' = true) {B : Nat} {ao : Option Addr} {n cap : Nat} {l : List α} {W : World} (h : Row B E k e ao n cap l W) (hn : n ≤ 100000) :
    ∃ a2 c2 W2, (Builtin.append_ #[t, t] t #[.slice (some ⟨W.heap.size, 0, none⟩) 0 0, .slice ao n cap]).run Tryz.prog (W.alloc (.cells #[] E)) = .ok (.slice a2 n c2) W2 ∧ Row W.heap.size E k e a2 n c2 l W2 ∧ Below W.heap.size W W2 := by
  have hlo := low_alloc W (.cells #[] E)
  have hlit := World.ownsRow_lit (base := W.heap.size) (e := E) (size := k) W #[] 0 (Nat.le_refl _) (by unfold maxLen; omega) (by simp)
  have hfl : (flat e l).length = n * k := h.own.1
  have hone : ∀ u ∈ flat e l, u.oneCell' = true := by
    intro u hu
    obtain ⟨a, _, ha⟩ := List.mem_flatMap.1 hu
    exact he1 a u ha
  have hh := h.low hlo
  cases ao with
  | none =>
    have h0 : n = 0 := by
      rcases hh.own.2 with ⟨_, h0⟩ | ⟨g, c, cur, hv, _⟩
      · exact h0
      · cases hv
    subst h0
    have hl0 : l = [] := List.eq_nil_of_length_eq_zero h.len
    subst hl0
    refine ⟨some ⟨W.heap.size, 0, none⟩, 0, W.alloc (.cells #[] E), ?_, ⟨rfl, hlit⟩, hlo⟩
    simp [Builtin.append_, run_underlying ht, Builtin.lenOf, Builtin.firstCells, Result.andThen, sizeOf, typeInfo, zeroValue, hi, hz0, storeCells]
  | some a =>
    obtain ⟨v', w', hr, h2, h3, _, _⟩ := run_append_own_at (P := Tryz.prog) (W.alloc (.cells #[] E)) W.heap.size t t E i0 z k by_ ht hi hz0 hz1 hz2 hzs hk (.slice (some ⟨W.heap.size, 0, none⟩) 0 0) 0 [] hlit a n cap (flat e l) hfl (fun j u hu => by
      have hn0 : 0 < n := by
        rcases Nat.eq_zero_or_pos n with h0 | h0
        · rw [h0, Nat.zero_mul] at hfl
          rw [List.eq_nil_of_length_eq_zero hfl] at hu
          simp at hu
        · exact h0
      obtain ⟨g, c, hv, _, _⟩ := hh.own.form hn0
      simp only [Value.slice.injEq, Option.some.injEq] at hv
      obtain ⟨rfl, -, rfl⟩ := hv
      exact hh.own.cells (g := g) rfl j u hu) hone (by unfold maxLen; omega) (by rw [Nat.zero_add]; calc n * by_ ≤ 100000 * 100 := Nat.mul_le_mul hn hby
        _ ≤ 140737488355328 := by omega) (by simp)
    rw [Nat.zero_add, List.nil_append] at h2
    have hf : ∃ a2 c2, v' = .slice a2 n c2 := by
      rcases h2.2 with ⟨rfl, h0⟩ | ⟨g, c, cur, hv, _⟩
      · exact ⟨none, 0, by rw [h0]⟩
      · exact ⟨_, c, hv⟩
    obtain ⟨a2, c2, rfl⟩ := hf
    refine ⟨a2, c2, w', hr, ⟨h.len, h2⟩, hlo.trans ⟨h3.os, h3.tape, h3.output, h3.size, fun q hq => h3.block q (by simp; omega) (fun e => ?_)⟩⟩
    simp only [Value.ownBlock, Option.some.injEq] at e
    omega
/-- One element more. -/
theorem app_c2 {α : Type} {t E k by_ : Nat} {e : α → List Value} {z : Value} {i0 : TypeInfo} (ht : Tryz.prog.underlying t = some (.slice E)) (hi : Tryz.prog.info? E = some i0) (hz0 : i0.zero = some z) (hz1 : i0.size = k) (hz2 : i0.bytes = by_) (hzs : z.cells.size = k) (hk : 0 < k) (hby : by_ ≤ 100)
    (hek : ∀ a, (e a).length = k) (he1 : ∀ a, ∀ u ∈ e a, u.oneCell' = true) {B : Nat} {ao : Option Addr} {n cap : Nat} {l : List α} {W : World} (h : Row B E k e ao n cap l W) (hB : B ≤ W.heap.size) (hn : n ≤ 100000) (m : α) (cs : Array Value) (hcs : cs.toList = e m) :
    ∃ g c2 W2, (Builtin.append_ #[t, t] t #[.slice ao n cap, .slice (some ⟨W.heap.size, 0, none⟩) 1 1]).run Tryz.prog (W.alloc (.cells cs E)) = .ok (.slice (some ⟨g, 0, none⟩) (n + 1) c2) W2 ∧ Row B E k e (some ⟨g, 0, none⟩) (n + 1) c2 (l ++ [m]) W2 ∧ Below B W W2 := by
  have hlo := low_alloc W (.cells cs E)
  have hh := h.low hlo
  have hec : (e m).length = 1 * k := by rw [hek, Nat.one_mul]
  obtain ⟨g, cap1, w1, hrun, hown, hgrow, _, _⟩ := run_append_lies (P := Tryz.prog) (W.alloc (.cells cs E)) t t B E i0 z k by_ ht hi hz0 hz1 hz2 hzs hk (.slice ao n cap) n (flat e l) hh.own ⟨W.heap.size, 0, none⟩ 1 1 (e m) hec (by rw [← hcs]; exact World.news_of_block (by simpa using heap_alloc_new W (.cells cs E))) (he1 m) (by omega) (by unfold maxLen; omega) (calc (n + 1) * by_ ≤ 100001 * 100 := Nat.mul_le_mul (by omega) hby
        _ ≤ 140737488355328 := by omega) (by simp; omega) (W.heap.size + 1) (by simp)
  refine ⟨g, cap1, w1, hrun, ⟨by rw [List.length_append, h.len]; rfl, by rw [flat_snoc]; exact hown⟩, ?_⟩
  exact (hlo.mono hB).trans ⟨hgrow.os, hgrow.tape, hgrow.output, hgrow.size, fun q hq => hgrow.block q (by simp; omega) (fun e => by have := (hh.own.lt q e.symm).1; omega)⟩

/-- What the words tell. -/
theorem atP_eq (ws : List (List UInt8)) (i : Nat) : atP (bt ws) i = atW ws i := by
  unfold atP atW
  have hl : (bt ws).length = ws.length := by simp [bt]
  rw [hl]
  by_cases h : ws.length ≤ i
  · rw [if_pos h, if_pos h]
  · have : (gT (bt ws) i).data.toList = ws.getD i [] := by
      simp [gT, bt, List.getD_eq_getElem?_getD, List.getElem?_eq_getElem (show i < ws.length by omega)]
    rw [if_neg h, if_neg h, this]
    rfl
theorem hexP_eq (ws : List (List UInt8)) (i : Nat) : hexP (bt ws) i = hexW ws i := by
  unfold hexP hexW unhx
  have hl : (bt ws).length = ws.length := by simp [bt]
  rw [hl]
  by_cases h : ws.length ≤ i
  · rw [if_pos h, if_pos h]
  · have : gT (bt ws) i = ⟨(ws.getD i []).toArray⟩ := by
      simp [gT, bt, List.getD_eq_getElem?_getD, List.getElem?_eq_getElem (show i < ws.length by omega)]
    rw [if_neg h, if_neg h, this]
theorem atW_b (ws : List (List UInt8)) (i : Nat) : -1 ≤ atW ws i ∧ atW ws i ≤ 1073741824 := by
  unfold atW
  split
  · omega
  · split
    · rename_i h
      obtain ⟨_, h1, h2⟩ := parse_ok h
      have e : maxId = 1073741824 := rfl
      omega
    · omega

/-- What holds at the head of Parse's loop. -/
structure PaI (w : World) (p2 p5 : Nat) (aA : Option Addr) (nA cA : Nat) (all : List (List UInt8)) (X : Sv) (s : Sp) (W : World) : Prop where
  bel : Below w.heap.size w W
  lo : w.heap.size ≤ p2 ∧ w.heap.size ≤ p5 ∧ p2 ≠ p5
  b2 : W.heap[p2]? = some (.cells Sv.zero.cs 28 (0, 0))
  b5 : W.heap[p5]? = some (.cells X.cs 28 (0, 0))
  rows : Rws w.heap.size X s W
  al : W.ownsRow w.heap.size 9 1 (.slice aA nA cA) nA (tv all)
/-- .. and behind the copy. -/
structure GaI (w : World) (p2 p5 p8 : Nat) (aA : Option Addr) (nA cA : Nat) (all : List (List UInt8)) (X : Sv) (s : Sp) (Y : Sv) (u : Sp) (W : World) : Prop where
  pa : PaI w p2 p5 aA nA cA all X s W
  b8 : W.heap[p8]? = some (.cells Y.cs 28 (0, 0))
  rows : Rws w.heap.size Y u W
  lo : w.heap.size ≤ p8 ∧ p8 ≠ p2 ∧ p8 ≠ p5
section
variable {w : World} {p2 p5 p8 : Nat} {aA : Option Addr} {nA cA : Nat} {all : List (List UInt8)} {X Y : Sv} {s u : Sp} {W W' : World}
theorem al_ne {B q T : Nat} {cs : Array Value} {fr : Nat × Nat} (h : W.ownsRow B 9 1 (.slice aA nA cA) nA (tv all)) (hq : W.heap[q]? = some (.cells cs T fr)) (hT : T ≠ 9) : (Value.slice aA nA cA).ownBlock ≠ some q := by
  intro e
  obtain ⟨c, f, h1⟩ := Lib.ownsRow_kind h q e
  rw [h1] at hq
  simp only [Option.some.injEq, Obj.cells.injEq] at hq
  exact hT hq.2.1.symm
theorem PaI.low (h : PaI w p2 p5 aA nA cA all X s W) (hb : Below W.heap.size W W') : PaI w p2 p5 aA nA cA all X s W' :=
  ⟨h.bel.trans (hb.mono h.bel.size), h.lo, (hb.block _ (Array.getElem?_eq_some_iff.1 h.b2).1).trans h.b2, (hb.block _ (Array.getElem?_eq_some_iff.1 h.b5).1).trans h.b5, h.rows.low hb, h.al.kept (row := none) ⟨hb.os, hb.tape, hb.output, hb.size, fun k hk _ => hb.block k hk⟩ (by cases (Value.slice aA nA cA).ownBlock <;> simp)⟩
/-- A store into another box. -/
theorem PaI.set (h : PaI w p2 p5 aA nA cA all X s W) {q : Nat} {cs : Array Value} (hq : W.heap[q]? = some (.cells cs 28 (0, 0))) (h2 : q ≠ p2) (h5 : q ≠ p5) (hl : w.heap.size ≤ q) (j : Nat) (v : Value) : PaI w p2 p5 aA nA cA all X s (W.setCell ⟨q, j, none⟩ v) :=
  ⟨h.bel.setCell (p := ⟨q, j, none⟩) hl v, h.lo, (Below.heap_setCell W ⟨q, j, none⟩ v p2 (fun e => h2 e.symm)).trans h.b2, (Below.heap_setCell W ⟨q, j, none⟩ v p5 (fun e => h5 e.symm)).trans h.b5, h.rows.set hq j v, h.al.kept (grown_setCell W q j v) (Or.inr (al_ne h.al hq (by decide)))⟩
theorem PaI.put (h : PaI w p2 p5 aA nA cA all X s W) {q : Nat} {y : Sv} (hq : W.heap[q]? = some (.cells y.cs 28 (0, 0))) (h2 : q ≠ p2) (h5 : q ≠ p5) (hl : w.heap.size ≤ q) (x : Sv) : PaI w p2 p5 aA nA cA all X s (put6 W q x) :=
  (((((h.set hq h2 h5 hl _ _).set (set_block hq 0 _) h2 h5 hl _ _).set (set_block (set_block hq 0 _) 1 _) h2 h5 hl _ _).set (set_block (set_block (set_block hq 0 _) 1 _) 2 _) h2 h5 hl _ _).set (set_block (set_block (set_block (set_block hq 0 _) 1 _) 2 _) 3 _) h2 h5 hl _ _).set (set_block (set_block (set_block (set_block (set_block hq 0 _) 1 _) 2 _) 3 _) 4 _) h2 h5 hl _ _
theorem PaI.lt2 (h : PaI w p2 p5 aA nA cA all X s W) : p2 < W.heap.size := (Array.getElem?_eq_some_iff.1 h.b2).1
theorem PaI.lt5 (h : PaI w p2 p5 aA nA cA all X s W) : p5 < W.heap.size := (Array.getElem?_eq_some_iff.1 h.b5).1
theorem GaI.low (h : GaI w p2 p5 p8 aA nA cA all X s Y u W) (hb : Below W.heap.size W W') : GaI w p2 p5 p8 aA nA cA all X s Y u W' :=
  ⟨h.pa.low hb, (hb.block _ (Array.getElem?_eq_some_iff.1 h.b8).1).trans h.b8, h.rows.low hb, h.lo⟩
/-- The copy. -/
theorem PaI.copy (h : PaI w p2 p5 aA nA cA all X s W) : GaI w p2 p5 W.heap.size aA nA cA all X s X s (put6 (W.alloc (.cells Sv.zero.cs 28)) W.heap.size X) := by
  have hlo := low_alloc W (.cells Sv.zero.cs 28)
  have hq : (W.alloc (.cells Sv.zero.cs 28)).heap[W.heap.size]? = some (.cells Sv.zero.cs 28 (0, 0)) := heap_alloc_new W _
  have hp := h.low hlo
  have n2 : W.heap.size ≠ p2 := by have := h.lt2; omega
  have n5 : W.heap.size ≠ p5 := by have := h.lt5; omega
  exact ⟨hp.put hq n2 n5 h.bel.size X, put6_box hq X, put6_rows (y := Sv.zero) (x := X) hq hp.rows, h.bel.size, n2, n5⟩
/-- The way back. -/
theorem GaI.back (h : GaI w p2 p5 p8 aA nA cA all X s Y u W) : PaI w p2 p5 aA nA cA all Y u (put6 W p5 Y) := by
  have n2 : p5 ≠ p2 := fun e => h.pa.lo.2.2 e.symm
  refine ⟨put6_below h.pa.bel h.pa.lo.2.1 Y, h.pa.lo, ?_, put6_box h.pa.b5 Y, put6_rows (x := Y) h.pa.b5 h.rows, ?_⟩
  · simp only [Below.heap_setCell _ _ _ p2 (show p2 ≠ (⟨p5, _, none⟩ : Addr).block from fun e => n2 e.symm)]
    exact h.pa.b2
  · have hk : ∀ (W1 : World) (cs : Array Value) (j : Nat) (v : Value), W1.heap[p5]? = some (.cells cs 28 (0, 0)) → W1.ownsRow w.heap.size 9 1 (.slice aA nA cA) nA (tv all) → (W1.setCell ⟨p5, j, none⟩ v).ownsRow w.heap.size 9 1 (.slice aA nA cA) nA (tv all) := fun W1 cs j v hb ho => ho.kept (grown_setCell W1 p5 j v) (Or.inr (al_ne ho hb (by decide)))
    have hq := h.pa.b5
    exact hk _ _ _ _ (set_block (set_block (set_block (set_block (set_block hq 0 _) 1 _) 2 _) 3 _) 4 _) (hk _ _ _ _ (set_block (set_block (set_block (set_block hq 0 _) 1 _) 2 _) 3 _) (hk _ _ _ _ (set_block (set_block (set_block hq 0 _) 1 _) 2 _) (hk _ _ _ _ (set_block (set_block hq 0 _) 1 _) (hk _ _ _ _ (set_block hq 0 _) (hk _ _ _ _ hq h.pa.al)))))
theorem GaI.set0 (h : GaI w p2 p5 p8 aA nA cA all X s X s W) (r : Bool) : GaI w p2 p5 p8 aA nA cA all X s { X with r := r } { s with ranked := r } (W.setCell ⟨p8, 0, none⟩ (.bool r)) :=
  ⟨h.pa.set h.b8 h.lo.2.1 h.lo.2.2 h.lo.1 _ _, set_block h.b8 0 _, ⟨rfl, h.rows.m1.set h.b8 (by decide) _ _, h.rows.m2.set h.b8 (by decide) _ _, h.rows.m3.set h.b8 (by decide) _ _, h.rows.m4.set h.b8 (by decide) _ _, h.rows.m5.set h.b8 (by decide) _ _⟩, h.lo⟩
theorem GaI.set1 (h : GaI w p2 p5 p8 aA nA cA all X s X s W) (m : (Int × Int)) (hb : Below W.heap.size W W') {g c : Nat} (hr0 : Row W.heap.size 70 2 eM (some ⟨g, 0, none⟩) (X.n1 + 1) c (s.merges ++ [m]) W') : GaI w p2 p5 p8 aA nA cA all X s { X with a1 := some ⟨g, 0, none⟩, n1 := X.n1 + 1, c1 := c } { s with merges := s.merges ++ [m] } (W'.setCell ⟨p8, 1, none⟩ (.slice (some ⟨g, 0, none⟩) (X.n1 + 1) c)) := by
  have hg := h.low hb
  have hr := hr0.base h.pa.bel.size
  exact ⟨hg.pa.set hg.b8 h.lo.2.1 h.lo.2.2 h.lo.1 _ _, set_block hg.b8 1 _, ⟨hg.rows.r, (hr.set hg.b8 (by decide) _ _), hg.rows.m2.set hg.b8 (by decide) _ _, hg.rows.m3.set hg.b8 (by decide) _ _, hg.rows.m4.set hg.b8 (by decide) _ _, hg.rows.m5.set hg.b8 (by decide) _ _⟩, h.lo⟩
theorem GaI.set2 (h : GaI w p2 p5 p8 aA nA cA all X s X s W) (m : ByteArray) (hb : Below W.heap.size W W') {g c : Nat} (hr0 : Row W.heap.size 9 1 eT (some ⟨g, 0, none⟩) (X.n2 + 1) c (s.tokens ++ [m]) W') : GaI w p2 p5 p8 aA nA cA all X s { X with a2 := some ⟨g, 0, none⟩, n2 := X.n2 + 1, c2 := c } { s with tokens := s.tokens ++ [m] } (W'.setCell ⟨p8, 2, none⟩ (.slice (some ⟨g, 0, none⟩) (X.n2 + 1) c)) := by
  have hg := h.low hb
  have hr := hr0.base h.pa.bel.size
  exact ⟨hg.pa.set hg.b8 h.lo.2.1 h.lo.2.2 h.lo.1 _ _, set_block hg.b8 2 _, ⟨hg.rows.r, hg.rows.m1.set hg.b8 (by decide) _ _, (hr.set hg.b8 (by decide) _ _), hg.rows.m3.set hg.b8 (by decide) _ _, hg.rows.m4.set hg.b8 (by decide) _ _, hg.rows.m5.set hg.b8 (by decide) _ _⟩, h.lo⟩
theorem GaI.set3 (h : GaI w p2 p5 p8 aA nA cA all X s X s W) (m : (Int × ByteArray)) (hb : Below W.heap.size W W') {g c : Nat} (hr0 : Row W.heap.size 67 2 eS (some ⟨g, 0, none⟩) (X.n3 + 1) c (s.specials ++ [m]) W') : GaI w p2 p5 p8 aA nA cA all X s { X with a3 := some ⟨g, 0, none⟩, n3 := X.n3 + 1, c3 := c } { s with specials := s.specials ++ [m] } (W'.setCell ⟨p8, 3, none⟩ (.slice (some ⟨g, 0, none⟩) (X.n3 + 1) c)) := by
  have hg := h.low hb
  have hr := hr0.base h.pa.bel.size
  exact ⟨hg.pa.set hg.b8 h.lo.2.1 h.lo.2.2 h.lo.1 _ _, set_block hg.b8 3 _, ⟨hg.rows.r, hg.rows.m1.set hg.b8 (by decide) _ _, hg.rows.m2.set hg.b8 (by decide) _ _, (hr.set hg.b8 (by decide) _ _), hg.rows.m4.set hg.b8 (by decide) _ _, hg.rows.m5.set hg.b8 (by decide) _ _⟩, h.lo⟩
theorem GaI.set4 (h : GaI w p2 p5 p8 aA nA cA all X s X s W) (m : (Int × Int × Int)) (hb : Below W.heap.size W W') {g c : Nat} (hr0 : Row W.heap.size 72 3 eC (some ⟨g, 0, none⟩) (X.n4 + 1) c (s.classes ++ [m]) W') : GaI w p2 p5 p8 aA nA cA all X s { X with a4 := some ⟨g, 0, none⟩, n4 := X.n4 + 1, c4 := c } { s with classes := s.classes ++ [m] } (W'.setCell ⟨p8, 4, none⟩ (.slice (some ⟨g, 0, none⟩) (X.n4 + 1) c)) := by
  have hg := h.low hb
  have hr := hr0.base h.pa.bel.size
  exact ⟨hg.pa.set hg.b8 h.lo.2.1 h.lo.2.2 h.lo.1 _ _, set_block hg.b8 4 _, ⟨hg.rows.r, hg.rows.m1.set hg.b8 (by decide) _ _, hg.rows.m2.set hg.b8 (by decide) _ _, hg.rows.m3.set hg.b8 (by decide) _ _, (hr.set hg.b8 (by decide) _ _), hg.rows.m5.set hg.b8 (by decide) _ _⟩, h.lo⟩
theorem GaI.set5 (h : GaI w p2 p5 p8 aA nA cA all X s X s W) (m : (Int × Int)) (hb : Below W.heap.size W W') {g c : Nat} (hr0 : Row W.heap.size 93 2 eM (some ⟨g, 0, none⟩) (X.n5 + 1) c (s.joins ++ [m]) W') : GaI w p2 p5 p8 aA nA cA all X s { X with a5 := some ⟨g, 0, none⟩, n5 := X.n5 + 1, c5 := c } { s with joins := s.joins ++ [m] } (W'.setCell ⟨p8, 5, none⟩ (.slice (some ⟨g, 0, none⟩) (X.n5 + 1) c)) := by
  have hg := h.low hb
  have hr := hr0.base h.pa.bel.size
  exact ⟨hg.pa.set hg.b8 h.lo.2.1 h.lo.2.2 h.lo.1 _ _, set_block hg.b8 5 _, ⟨hg.rows.r, hg.rows.m1.set hg.b8 (by decide) _ _, hg.rows.m2.set hg.b8 (by decide) _ _, hg.rows.m3.set hg.b8 (by decide) _ _, hg.rows.m4.set hg.b8 (by decide) _ _, (hr.set hg.b8 (by decide) _ _)⟩, h.lo⟩
end

/-- Ints within. -/
theorem cut_mem_len (c : UInt8) : ∀ (s : List UInt8), ∀ x ∈ cutL c s, x.length ≤ s.length := by
  intro s x hx
  have h := cut_size ⟨s.toArray⟩ c x (by simpa using hx)
  simpa [ByteArray.size] using h
theorem hexW_size (ws : List (List UInt8)) (i n : Nat) (h : ∀ x ∈ ws, x.length ≤ n) : (hexW ws i).size ≤ n := by
  unfold hexW
  split
  · simp [ByteArray.size]
  · rename_i hi
    split
    · have h1 := unhexS_size ⟨(ws.getD i []).toArray⟩
      have h2 : (ws.getD i []).length ≤ n := by
        rw [List.getD_eq_getElem?_getD, List.getElem?_eq_getElem (by omega)]
        exact h _ (List.getElem_mem _)
      have h3 : (⟨(ws.getD i []).toArray⟩ : ByteArray).size = (ws.getD i []).length := by simp [ByteArray.size]
      unfold unhx
      omega
    · simp [ByteArray.size]
/-- What is gathered is within the machine's. -/
theorem lnb_gat {B : Nat} {Y : Sv} {s : Sp} {line : List UInt8} {W : World} (hR : s.Right) (hl : line.length ≤ 100000) (h : Rws B Y (gat s line) W) : LnB Y (gat s line) := by
  have hm : ∀ m ∈ (gat s line).merges, I64 m.1 ∧ I64 m.2 := by
    intro m hm
    have : m ∈ s.merges ∨ m = (atW (cutL 32 line) 1, atW (cutL 32 line) 2) := by
      unfold gat at hm
      repeat' split at hm
      all_goals first | exact Or.inl hm | (simp only [List.mem_append, List.mem_singleton] at hm; exact hm)
    rcases this with h1 | rfl
    · have := of_decide_eq_true (hR.am m h1)
      exact ⟨⟨by omega, by omega⟩, ⟨by omega, by omega⟩⟩
    · have h1 := atW_b (cutL 32 line) 1
      have h2 := atW_b (cutL 32 line) 2
      exact ⟨⟨by simp only; omega, by simp only; omega⟩, ⟨by simp only; omega, by simp only; omega⟩⟩
  have hj : ∀ m ∈ (gat s line).joins, I64 m.1 ∧ I64 m.2 := by
    intro m hm
    have : m ∈ s.joins ∨ m = (atW (cutL 32 line) 1, atW (cutL 32 line) 2) := by
      unfold gat at hm
      repeat' split at hm
      all_goals first | exact Or.inl hm | (simp only [List.mem_append, List.mem_singleton] at hm; exact hm)
    rcases this with h1 | rfl
    · have := of_decide_eq_true (hR.aj m h1)
      exact ⟨⟨by omega, by omega⟩, ⟨by omega, by omega⟩⟩
    · have h1 := atW_b (cutL 32 line) 1
      have h2 := atW_b (cutL 32 line) 2
      exact ⟨⟨by simp only; omega, by simp only; omega⟩, ⟨by simp only; omega, by simp only; omega⟩⟩
  have hc : ∀ m ∈ (gat s line).classes, I64 m.1 ∧ I64 m.2.1 ∧ I64 m.2.2 := by
    intro m hm
    have : m ∈ s.classes ∨ m = (atW (cutL 32 line) 1, atW (cutL 32 line) 2, atW (cutL 32 line) 3) := by
      unfold gat at hm
      repeat' split at hm
      all_goals first | exact Or.inl hm | (simp only [List.mem_append, List.mem_singleton] at hm; exact hm)
    rcases this with h1 | rfl
    · have := of_decide_eq_true (hR.ac m h1)
      exact ⟨⟨by omega, by omega⟩, ⟨by omega, by omega⟩, ⟨by omega, by omega⟩⟩
    · have h1 := atW_b (cutL 32 line) 1
      have h2 := atW_b (cutL 32 line) 2
      have h3 := atW_b (cutL 32 line) 3
      exact ⟨⟨by simp only; omega, by simp only; omega⟩, ⟨by simp only; omega, by simp only; omega⟩, ⟨by simp only; omega, by simp only; omega⟩⟩
  have hs : ∀ m ∈ (gat s line).specials, I64 m.1 ∧ m.2.size ≤ 100000 := by
    intro m hm
    have : m ∈ s.specials ∨ m = (atW (cutL 32 line) 1, hexW (cutL 32 line) 2) := by
      unfold gat at hm
      repeat' split at hm
      all_goals first | exact Or.inl hm | (simp only [List.mem_append, List.mem_singleton] at hm; exact hm)
    rcases this with h1 | rfl
    · have := of_decide_eq_true (hR.asp m h1)
      exact ⟨⟨by omega, by omega⟩, by omega⟩
    · have h1 := atW_b (cutL 32 line) 1
      exact ⟨⟨by simp only; omega, by simp only; omega⟩, hexW_size _ _ _ (fun x hx => Nat.le_trans (cut_mem_len 32 line x hx) hl)⟩
  have ht : ∀ m ∈ (gat s line).tokens, m.size ≤ 100000 := by
    intro m hm
    have : m ∈ s.tokens ∨ m = hexW (cutL 32 line) 1 := by
      unfold gat at hm
      repeat' split at hm
      all_goals first | exact Or.inl hm | (simp only [List.mem_append, List.mem_singleton] at hm; exact hm)
    rcases this with h1 | rfl
    · have := of_decide_eq_true (hR.atk m h1)
      omega
    · exact hexW_size _ _ _ (fun x hx => Nat.le_trans (cut_mem_len 32 line x hx) hl)
  have hlen : (gat s line).merges.length ≤ s.merges.length + 1 ∧ (gat s line).tokens.length ≤ s.tokens.length + 1 ∧ (gat s line).specials.length ≤ s.specials.length + 1 ∧ (gat s line).classes.length ≤ s.classes.length + 1 ∧ (gat s line).joins.length ≤ s.joins.length + 1 := by
    unfold gat
    repeat' split
    all_goals simp
  have hrm : roomM s.ranked ≤ 744 := by unfold roomM; split <;> omega
  have hrt : roomT s.ranked ≤ 744 := by unfold roomT; split <;> omega
  have q1 := hR.nm
  have q2 := hR.nt
  have q3 := hR.ns
  have q4 := hR.nc
  have q5 := hR.nj
  have l1 := h.m1.len
  have l2 := h.m2.len
  have l3 := h.m3.len
  have l4 := h.m4.len
  have l5 := h.m5.len
  exact ⟨fun k hk => mem_getD2 hm (0, 0) (by omega), fun k hk => mem_getD2 ht ⟨#[]⟩ (by omega), fun k hk => mem_getD2 hs (0, ⟨#[]⟩) (by omega), fun k hk => mem_getD2 hc (0, 0, 0) (by omega), fun k hk => mem_getD2 hj (0, 0) (by omega), by omega, by omega, by omega, by omega, by omega⟩
end Go.Proofs.YtoihocbnhoniaaaGreatDoor.Wf
