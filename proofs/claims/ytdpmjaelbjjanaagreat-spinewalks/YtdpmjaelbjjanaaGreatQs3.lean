/- Contracts of package spine: the walk's parts. Contracts of package spine: Walk, Steps, Alone. -/
import Derived.Test.YtdpmjaelbjjanaaGreatQs2
import Derived.Test.YtdpmjaelbjjanaaGreatQa33
import Derived.Test.YtdpmjaelbjjanaaGreatQa18
import Derived.Test.YtdpmjaelbjjanaaGreatQa21
import Derived.Deep.LoopGhost
import Derived.BigRegion
import Derived.BigQuiet
namespace Go.Proofs.YtdpmjaelbjjanaaGreat
open Go.RowKit Go.Maps
set_option linter.unusedVariables false
set_option linter.unusedSimpArgs false

set_option maxRecDepth 20000 in
set_option maxHeartbeats 1000000 in
theorem arebytes_any (x y : Int) (w : World) : Calls Tryz.prog 83 #[.agg #[.int .i64 x, .int .i64 y]] w fun e w' => e = .returned (.bool (decide (x < 256 ∧ y < 256))) ∧ Below w.heap.size w w' := by
  have hl := low1 w (.cells #[.int .i64 x, .int .i64 y] 106)
  rcases (show x < y ∨ y ≤ x by omega) with h | h
  · rw [show decide (x < 256 ∧ y < 256) = decide (y < 256) from decide_eq_decide.2 (by omega)]
    go_enter Tryz.func83, Tryz.ntmps83
    go_wp2
    go_ret
    first | exact ⟨rfl, hl⟩ | omega
  · rw [show decide (x < 256 ∧ y < 256) = decide (x < 256) from decide_eq_decide.2 (by omega)]
    go_enter Tryz.func83, Tryz.ntmps83
    go_wp2
    go_ret
    first | exact ⟨rfl, hl⟩ | omega
theorem takesfirst_any (x y : Int) (w : World) : Calls Tryz.prog 120 #[.agg #[.int .i64 x, .int .i64 y]] w fun e w' => e = .returned (.bool (decide (y < x))) ∧ Below w.heap.size w w' := by
  have hl := low1 w (.cells #[.int .i64 x, .int .i64 y] 106)
  go_enter Tryz.func120, Tryz.ntmps120
  go_wp2
  go_ret
  exact ⟨rfl, hl⟩

/-- A walk in memory: two that were come to, a limit, and how many were taken apart. -/
structure WkM (w0 : World) (q : Nat) (vt : Value) (x y L n : Int) (W : World) : Prop where
  bel : Below w0.heap.size w0 W
  le : w0.heap.size ≤ q
  box : W.heap[q]? = some (.cells #[.int .i64 x, .int .i64 y, vt, .int .i64 L, .int .i64 n] 110 (0, 0))
section
variable {w0 W W' : World} {q : Nat} {vt : Value} {x y L n : Int}
theorem WkM.lt (h : WkM w0 q vt x y L n W) : q < W.heap.size := (Array.getElem?_eq_some_iff.1 h.box).1
theorem WkM.next (h : WkM w0 q vt x y L n W) (hb : Below W.heap.size W W') : WkM w0 q vt x y L n W' :=
  ⟨below_step h.bel hb, h.le, by rw [hb.block _ h.lt]; exact h.box⟩
theorem WkM.cells (h : WkM w0 q vt x y L n W) : W.cell? ⟨q, 0, none⟩ = some (.int .i64 x) ∧ W.cell? ⟨q, 1, none⟩ = some (.int .i64 y) ∧ W.cell? ⟨q, 2, none⟩ = some vt ∧ W.cell? ⟨q, 3, none⟩ = some (.int .i64 L) ∧ W.cell? ⟨q, 4, none⟩ = some (.int .i64 n) :=
  ⟨Lib.cell_of_heap h.box 0, Lib.cell_of_heap h.box 1, Lib.cell_of_heap h.box 2, Lib.cell_of_heap h.box 3, Lib.cell_of_heap h.box 4⟩
theorem WkM.new (w0 : World) (vt : Value) (x y L n : Int) {W : World} (hb : Below w0.heap.size w0 W) : WkM w0 W.heap.size vt x y L n (W.alloc (.cells #[.int .i64 x, .int .i64 y, vt, .int .i64 L, .int .i64 n] 110)) :=
  ⟨below_step hb (low1 W _), hb.size, heap_alloc_new W _⟩
theorem WkM.first (h : WkM w0 q vt x y L n W) (x' : Int) : WkM w0 q vt x' y L n (W.setCell ⟨q, 0, none⟩ (.int .i64 x')) :=
  ⟨h.bel.setCell h.le _, h.le, by simpa using Wf.set_block h.box 0 (.int .i64 x')⟩
theorem WkM.second (h : WkM w0 q vt x y L n W) (y' : Int) : WkM w0 q vt x y' L n (W.setCell ⟨q, 1, none⟩ (.int .i64 y')) :=
  ⟨h.bel.setCell h.le _, h.le, by simpa using Wf.set_block h.box 1 (.int .i64 y')⟩
theorem WkM.limit (h : WkM w0 q vt x y L n W) (L' : Int) : WkM w0 q vt x y L' n (W.setCell ⟨q, 3, none⟩ (.int .i64 L')) :=
  ⟨h.bel.setCell h.le _, h.le, by simpa using Wf.set_block h.box 3 (.int .i64 L')⟩
theorem WkM.count (h : WkM w0 q vt x y L n W) (n' : Int) : WkM w0 q vt x y L n' (W.setCell ⟨q, 4, none⟩ (.int .i64 n')) :=
  ⟨h.bel.setCell h.le _, h.le, by simpa using Wf.set_block h.box 4 (.int .i64 n')⟩
theorem WkM.put (h : WkM w0 q vt x y L n W) {b : Nat} (hb : w0.heap.size ≤ b) (hne : q ≠ b) (j : Nat) (v : Value) : WkM w0 q vt x y L n (W.setCell ⟨b, j, none⟩ v) :=
  ⟨h.bel.setCell hb _, h.le, by rw [heap_setCell_other W ⟨b, j, none⟩ q v (fun e => hne e)]; exact h.box⟩
theorem WkM.free (h : WkM w0 q vt x y L n W) (i : Nat) : W.frozen? ⟨q, i, none⟩ = false := Lib.frozen_of_heap h.box i
end

set_option maxRecDepth 20000 in
set_option maxHeartbeats 4000000 in
theorem there_any {w0 W : World} {q : Nat} {vt : Value} {x y L n : Int} (h : WkM w0 q vt x y L n W) {t1 t2 : ByteArray} {b1 b2 : Bool} (HB1 : Hid (∀ (W : World), Below w0.heap.size w0 W → Calls Tryz.prog 54 #[vt, .int .i64 x] W fun e w' => e = .returned (.tuple #[.string t1, .bool b1]) ∧ w' = W))
    (HB2 : Hid (∀ (W : World), Below w0.heap.size w0 W → Calls Tryz.prog 54 #[vt, .int .i64 y] W fun e w' => e = .returned (.tuple #[.string t2, .bool b2]) ∧ w' = W)) :
    Calls Tryz.prog 51 #[.pointer (some ⟨q, 0, none⟩)] W fun e w' => e = .returned (.bool (b1 && b2)) ∧ Below W.heap.size W w' := by
  cases b1 <;> cases b2
  all_goals
    have HM := hide (fun d : Wb W => h.next d.h)
    have KB := hide (fun (d : Wb W) => (HB1.out d.W (HM.out d).bel).mono fun e w' h => (⟨h.1, d, h.2⟩ : _ ∧ ∃ p : Wb W, w' = p.W))
    have q0 : ∀ d : Wb W, d.W.cell? ⟨q, 0, none⟩ = some (.int .i64 x) := fun d => (HM.out d).cells.1
    have q2 : ∀ d : Wb W, d.W.cell? ⟨q, 2, none⟩ = some vt := fun d => (HM.out d).cells.2.2.1
    have ne : Nonempty (Wb W) := ⟨⟨_, Below.refl _ _⟩⟩
    have HH := hide h
    clear h
    go_enter Tryz.func51, Tryz.ntmps51
    go_wp2
    refine region_v (α := Wb W) Wc.W (by kernel_rfl) (by kernel_rfl) ⟨_, below_drw⟩ rfl ?_
    repeat (go_big_quiet_step (first | (go_at_call 54; with_reducible exact KB.out _)))
    refine wpQuiet_nil ?_
    intro W1 hw'
    have hW : Below W.heap.size W W1 := by obtain ⟨p, rfl⟩ := hw'; exact p.h
    have HH1 := hide (HH.out.next hW)
    clear hw' q0 q2 ne KB HM HH
    have HM := hide (fun d : Wb W1 => HH1.out.next d.h)
    have KB := hide (fun (d : Wb W1) => (HB2.out d.W (HM.out d).bel).mono fun e w' h => (⟨h.1, d, h.2⟩ : _ ∧ ∃ p : Wb W1, w' = p.W))
    have q1 : ∀ d : Wb W1, d.W.cell? ⟨q, 1, none⟩ = some (.int .i64 y) := fun d => (HM.out d).cells.2.1
    have q2 : ∀ d : Wb W1, d.W.cell? ⟨q, 2, none⟩ = some vt := fun d => (HM.out d).cells.2.2.1
    have ne : Nonempty (Wb W1) := ⟨⟨_, Below.refl _ _⟩⟩
    have HW := hide hW
    clear hW
    go_wp2
    refine region_v (α := Wb W1) Wc.W (by kernel_rfl) (by kernel_rfl) ⟨_, below_drw⟩ rfl ?_
    repeat (go_big_quiet_step (first | (go_at_call 54; with_reducible exact KB.out _)))
    refine wpQuiet_nil ?_
    intro W2 hw'
    have hW2 : Below W1.heap.size W1 W2 := by obtain ⟨p, rfl⟩ := hw'; exact p.h
    have HW2 := hide (below_step HW.out hW2)
    clear hw' q1 q2 ne KB HM HH1 hW2 HW
    go_wp2
    go_ret
    exact ⟨rfl, HW2.out⟩

theorem prB_prC {tx : List ByteArray} {mg : List (Int × Int)} (hk : Tok tx mg) {a b x : Int} {ok : Bool} (h : prC mg a b x ok) (L : Int) : prB mg a b L = (ok && decide (x < L)) := by
  rcases h with ⟨rfl, _, hn⟩ | ⟨i, rfl, rfl, hi, e⟩
  · rw [prB_no (fun k hk2 e => hn (by rw [← e]; unfold gm; rw [List.getD_eq_getElem?_getD, List.getElem?_eq_getElem hk2]; exact List.getElem_mem hk2))]
    rfl
  · rw [prB_at hk hi e, Bool.true_and]

section
variable {F : List Nat} {p b2 b3 : Nat} {v0 v1 : Value} {tx : List ByteArray} {mg : List (Int × Int)} {lg : Int} {w0 : World}

set_option maxRecDepth 20000 in
set_option maxHeartbeats 4000000 in
theorem becomeone_any (hT : TAt F p v0 v1 b2 b3 tx mg lg w0) (hk : Tok tx mg) {W : World} {q : Nat} {x y L n : Int} (h : WkM w0 q (.pointer (some ⟨p, 0, none⟩)) x y L n W) (hx : inT tx x) (hy : inT tx y) (L' : Int) :
    Calls Tryz.prog 82 #[.pointer (some ⟨q, 0, none⟩), .int .i64 L'] W fun e w' => e = .returned (.bool (prB mg x y L')) ∧ Below W.heap.size W w' := by
  have hcap := hk.cap
  obtain ⟨z, ok, hz, KP⟩ := tpair_c (F := F) (p := p) (b2 := b2) (b3 := b3) (v0 := v0) (v1 := v1) (lg := lg) hk x y ⟨WalkArith.wf_i64 (by have := hx.1; have := hx.2; omega), WalkArith.wf_i64 (by have := hy.1; have := hy.2; omega)⟩
  rw [prB_prC hk hz L']
  have HM := hide (fun d : Wb W => h.next d.h)
  have KB := hide (fun (d : Wb W) => (KP d.W (hT.keptB (HM.out d).bel)).mono fun e w' h => (⟨h.1, d, h.2⟩ : _ ∧ ∃ p : Wb W, w' = p.W))
  have q0 : ∀ d : Wb W, d.W.cell? ⟨q, 0, none⟩ = some (.int .i64 x) := fun d => (HM.out d).cells.1
  have q1 : ∀ d : Wb W, d.W.cell? ⟨q, 1, none⟩ = some (.int .i64 y) := fun d => (HM.out d).cells.2.1
  have q2 : ∀ d : Wb W, d.W.cell? ⟨q, 2, none⟩ = some (.pointer (some ⟨p, 0, none⟩)) := fun d => (HM.out d).cells.2.2.1
  have ne : Nonempty (Wb W) := ⟨⟨_, Below.refl _ _⟩⟩
  clear h KP hT hk hx hy hz hcap
  cases ok
  all_goals
    go_enter Tryz.func82, Tryz.ntmps82
    go_wp2
    refine region_v (α := Wb W) Wc.W (by kernel_rfl) (by kernel_rfl) ⟨_, below_drw⟩ rfl ?_
    repeat (go_big_quiet_step (first | (go_at_call 119; with_reducible exact KB.out _)))
    refine wpQuiet_nil ?_
    intro W1 hw'
    have hW : Below W.heap.size W W1 := by obtain ⟨p, rfl⟩ := hw'; exact p.h
    clear hw' q0 q1 q2 ne KB HM
    go_wp2
    go_ret
    exact ⟨rfl, hW⟩

set_option maxRecDepth 20000 in
set_option maxHeartbeats 8000000 in
theorem step_first (hT : TAt F p v0 v1 b2 b3 tx mg lg w0) (hk : Tok tx mg) {W : World} {q : Nat} {i : Nat} {y L n : Int} (h : WkM w0 q (.pointer (some ⟨p, 0, none⟩)) (256 + (i : Int)) y L n W) (hi : i < mg.length) (hlt : y < 256 + (i : Int)) (hn : 0 ≤ n ∧ n ≤ 1000000) :
    Calls Tryz.prog 84 #[.pointer (some ⟨q, 0, none⟩)] W fun e w' => e = .returned (.tuple #[]) ∧ WkM w0 q (.pointer (some ⟨p, 0, none⟩)) (gm mg i).2 y (256 + (i : Int)) (n + 1) w' := by
  have hl := hk.len
  have hcap := hk.cap
  have KP := hide (fun (W' : World) (hb : Below w0.heap.size w0 W') => parents_any (hT.keptB hb) i hi hl (by omega))
  have hw1 : IntKind.i64.wrap (n + 1) = n + 1 := by rw [IntKind.wrap_i64]; omega
  obtain ⟨x, hx⟩ : ∃ x : Int, 256 + (i : Int) = x := ⟨_, rfl⟩
  have hd : decide (y < x) = true := by rw [← hx]; exact decide_eq_true hlt
  generalize gm mg i = m at *
  simp only [hx] at *; clear hx
  obtain ⟨c0, c1, c2, c3, c4⟩ := h.cells
  have hf := h.free
  have HC := hide (h.count (n + 1))
  clear h hT hk hl hcap hi hlt
  generalize hW1 : W.setCell ⟨q, 4, none⟩ (.int .i64 (n + 1)) = W1 at *
  have KT := hide (takesfirst_any x y W1)
  obtain ⟨d0, d1, d2, d3, d4⟩ := HC.out.cells
  go_enter Tryz.func84, Tryz.ntmps84
  go_wp2_with fail
  refine (unhide KT).mono ?_
  rintro e W2 ⟨rfl, hb⟩
  have HC2 := hide (HC.out.next hb)
  rw [hd]
  clear KT HC hW1 hb c0 c1 c2 c3 c4 d0 d1 d2 d3 d4
  obtain ⟨c0, c1, c2, c3, c4⟩ := HC2.out.cells
  go_wp2
  go_region_held3 (fun V => V.cell? ⟨q, 2, none⟩ = some (.pointer (some ⟨p, 0, none⟩)) ∧ V.cell? ⟨q, 0, none⟩ = some (.int .i64 x)) (first | exact ⟨HP.out.cells.2.2.1, HP.out.cells.1⟩ | exact ⟨(HQ.out.next (low1 W3 _)).cells.2.2.1, (HQ.out.next (low1 W3 _)).cells.1⟩ | exact ⟨HQ.out.cells.2.2.1, HQ.out.cells.1⟩ | exact ⟨c2, c0⟩ | go_keep) (first
    | (go_at_call 53; refine (KP.out _ (by first | exact (HC2.out.next below_drw).bel | exact ((HC2.out.next (low1 W2 _)).next below_drw).bel | exact ((HC2.out.next below_drw).next (low1 _ _)).bel | fail)).mono ?_; rintro e W3 ⟨rfl, hb⟩; (first | (have hq : WkM w0 q (.pointer (some ⟨p, 0, none⟩)) x y L (n + 1) W3 := (HC2.out.next below_drw).next hb; have HQ := hide hq; clear hq hb) | (have hz0 := heap_alloc_new W2 (.cells #[.int .i64 0, .int .i64 0] 77); have hq : WkM w0 q (.pointer (some ⟨p, 0, none⟩)) x y L (n + 1) W3 := ((HC2.out.next (low1 W2 (.cells #[.int .i64 0, .int .i64 0] 77))).next below_drw).next hb; have hz : W3.heap[W2.heap.size]? = some (.cells #[.int .i64 0, .int .i64 0] 77 (0, 0)) := (hb.block _ (Array.getElem?_eq_some_iff.1 hz0).1).trans hz0; have z0 := Lib.cell_of_heap hz 0; have z1 := Lib.cell_of_heap hz 1; have zf := Lib.frozen_of_heap hz; have HZ := hide hz; have HP := hide ((hq.put HC2.out.bel.size (Nat.ne_of_lt HC2.out.lt) 0 (.int .i64 m.1)).put HC2.out.bel.size (Nat.ne_of_lt HC2.out.lt) 1 (.int .i64 m.2)); have HQ := hide hq; clear hz0 hz hq hb)); unfold merR)
    | fail)
  · have HM := hide (HQ.out.next (low1 W3 (.cells #[.int .i64 m.1, .int .i64 m.2] 77)))
    have hz := heap_alloc_new W3 (.cells #[.int .i64 m.1, .int .i64 m.2] 77)
    have hne : q ≠ W3.heap.size := Nat.ne_of_lt HQ.out.lt
    have e1 : (W3.alloc (.cells #[.int .i64 m.1, .int .i64 m.2] 77)).cell? ⟨W3.heap.size, 1, none⟩ = some (.int .i64 m.2) := Lib.cell_of_heap hz 1
    clear hz c0 c1 c2 c3 c4 HQ
    generalize W3.alloc (.cells #[.int .i64 m.1, .int .i64 m.2] 77) = W4 at *
    generalize W3.heap.size = bm at *
    obtain ⟨c0, c1, c2, c3, c4⟩ := HM.out.cells
    have hf4 := HM.out.free
    go_wp2
    go_region
    all_goals
      go_wp2
      (try simp only [Exit.inBlock, Exit.then])
      refine bodyPost_ret (results_none rfl _ _ _) rfl ?_
      first
        | exact ⟨rfl, ((HM.out.next below_drw).limit _).first _⟩
        | exact ⟨rfl, ((HM.out.next below_drw).first _).limit _⟩
  · have HM := HP
    have hz := Wf.set_block (Wf.set_block HZ.out 0 (.int .i64 m.1)) 1 (.int .i64 m.2)
    have hne : q ≠ W2.heap.size := Nat.ne_of_lt HC2.out.lt
    have e1 : ((W3.setCell ⟨W2.heap.size, 0, none⟩ (.int .i64 m.1)).setCell ⟨W2.heap.size, 1, none⟩ (.int .i64 m.2)).cell? ⟨W2.heap.size, 1, none⟩ = some (.int .i64 m.2) := by have := Lib.cell_of_heap hz 1; simpa using this
    clear hz c0 c1 c2 c3 c4 HQ HZ z0 z1 zf HP
    generalize (W3.setCell ⟨W2.heap.size, 0, none⟩ (.int .i64 m.1)).setCell ⟨W2.heap.size, 1, none⟩ (.int .i64 m.2) = W4 at *
    generalize W2.heap.size = bm at *
    obtain ⟨c0, c1, c2, c3, c4⟩ := HM.out.cells
    have hf4 := HM.out.free
    go_wp2
    go_region
    all_goals
      go_wp2
      (try simp only [Exit.inBlock, Exit.then])
      refine bodyPost_ret (results_none rfl _ _ _) rfl ?_
      first
        | exact ⟨rfl, ((HM.out.next below_drw).limit _).first _⟩
        | exact ⟨rfl, ((HM.out.next below_drw).first _).limit _⟩
set_option maxRecDepth 20000 in
set_option maxHeartbeats 8000000 in
theorem step_second (hT : TAt F p v0 v1 b2 b3 tx mg lg w0) (hk : Tok tx mg) {W : World} {q : Nat} {i : Nat} {x L n : Int} (h : WkM w0 q (.pointer (some ⟨p, 0, none⟩)) x (256 + (i : Int)) L n W) (hi : i < mg.length) (hlt : ¬ 256 + (i : Int) < x) (hn : 0 ≤ n ∧ n ≤ 1000000) :
    Calls Tryz.prog 84 #[.pointer (some ⟨q, 0, none⟩)] W fun e w' => e = .returned (.tuple #[]) ∧ WkM w0 q (.pointer (some ⟨p, 0, none⟩)) x (gm mg i).1 (256 + (i : Int) + 1) (n + 1) w' := by
  have hl := hk.len
  have hcap := hk.cap
  have KP := hide (fun (W' : World) (hb : Below w0.heap.size w0 W') => parents_any (hT.keptB hb) i hi hl (by omega))
  have hw1 : IntKind.i64.wrap (n + 1) = n + 1 := by rw [IntKind.wrap_i64]; omega
  have hw2 : IntKind.i64.wrap (256 + (i : Int) + 1) = 256 + (i : Int) + 1 := by rw [IntKind.wrap_i64]; omega
  obtain ⟨y, hy⟩ : ∃ y : Int, 256 + (i : Int) = y := ⟨_, rfl⟩
  have hd : decide (y < x) = false := by rw [← hy]; exact decide_eq_false hlt
  generalize gm mg i = m at *
  simp only [hy] at *; clear hy
  obtain ⟨c0, c1, c2, c3, c4⟩ := h.cells
  have hf := h.free
  have HC := hide (h.count (n + 1))
  clear h hT hk hl hcap hi hlt
  generalize hW1 : W.setCell ⟨q, 4, none⟩ (.int .i64 (n + 1)) = W1 at *
  have KT := hide (takesfirst_any x y W1)
  obtain ⟨d0, d1, d2, d3, d4⟩ := HC.out.cells
  go_enter Tryz.func84, Tryz.ntmps84
  go_wp2_with fail
  refine (unhide KT).mono ?_
  rintro e W2 ⟨rfl, hb⟩
  have HC2 := hide (HC.out.next hb)
  rw [hd]
  clear KT HC hW1 hb c0 c1 c2 c3 c4 d0 d1 d2 d3 d4
  obtain ⟨c0, c1, c2, c3, c4⟩ := HC2.out.cells
  go_wp2
  go_region_held3 (fun V => V.cell? ⟨q, 2, none⟩ = some (.pointer (some ⟨p, 0, none⟩)) ∧ V.cell? ⟨q, 1, none⟩ = some (.int .i64 y)) (first | exact ⟨HP.out.cells.2.2.1, HP.out.cells.2.1⟩ | exact ⟨(HQ.out.next (low1 W3 _)).cells.2.2.1, (HQ.out.next (low1 W3 _)).cells.2.1⟩ | exact ⟨HQ.out.cells.2.2.1, HQ.out.cells.2.1⟩ | exact ⟨c2, c1⟩ | go_keep) (first
    | (go_at_call 53; refine (KP.out _ (by first | exact (HC2.out.next below_drw).bel | exact ((HC2.out.next (low1 W2 _)).next below_drw).bel | exact ((HC2.out.next below_drw).next (low1 _ _)).bel | fail)).mono ?_; rintro e W3 ⟨rfl, hb⟩; (first | (have hq : WkM w0 q (.pointer (some ⟨p, 0, none⟩)) x y L (n + 1) W3 := (HC2.out.next below_drw).next hb; have HQ := hide hq; clear hq hb) | (have hz0 := heap_alloc_new W2 (.cells #[.int .i64 0, .int .i64 0] 77); have hq : WkM w0 q (.pointer (some ⟨p, 0, none⟩)) x y L (n + 1) W3 := ((HC2.out.next (low1 W2 (.cells #[.int .i64 0, .int .i64 0] 77))).next below_drw).next hb; have hz : W3.heap[W2.heap.size]? = some (.cells #[.int .i64 0, .int .i64 0] 77 (0, 0)) := (hb.block _ (Array.getElem?_eq_some_iff.1 hz0).1).trans hz0; have z0 := Lib.cell_of_heap hz 0; have z1 := Lib.cell_of_heap hz 1; have zf := Lib.frozen_of_heap hz; have HZ := hide hz; have HP := hide ((hq.put HC2.out.bel.size (Nat.ne_of_lt HC2.out.lt) 0 (.int .i64 m.1)).put HC2.out.bel.size (Nat.ne_of_lt HC2.out.lt) 1 (.int .i64 m.2)); have HQ := hide hq; clear hz0 hz hq hb)); unfold merR)
    | fail)
  · have HM := hide (HQ.out.next (low1 W3 (.cells #[.int .i64 m.1, .int .i64 m.2] 77)))
    have hz := heap_alloc_new W3 (.cells #[.int .i64 m.1, .int .i64 m.2] 77)
    have hne : q ≠ W3.heap.size := Nat.ne_of_lt HQ.out.lt
    have e1 : (W3.alloc (.cells #[.int .i64 m.1, .int .i64 m.2] 77)).cell? ⟨W3.heap.size, 0, none⟩ = some (.int .i64 m.1) := Lib.cell_of_heap hz 0
    clear hz c0 c1 c2 c3 c4 HQ
    generalize W3.alloc (.cells #[.int .i64 m.1, .int .i64 m.2] 77) = W4 at *
    generalize W3.heap.size = bm at *
    obtain ⟨c0, c1, c2, c3, c4⟩ := HM.out.cells
    have hf4 := HM.out.free
    go_wp2
    go_region
    all_goals
      go_wp2
      go_end0
      first
        | exact ⟨rfl, ((HM.out.next below_drw).limit _).second _⟩
        | exact ⟨rfl, ((HM.out.next below_drw).second _).limit _⟩
  · have HM := HP
    have hz := Wf.set_block (Wf.set_block HZ.out 0 (.int .i64 m.1)) 1 (.int .i64 m.2)
    have hne : q ≠ W2.heap.size := Nat.ne_of_lt HC2.out.lt
    have e1 : ((W3.setCell ⟨W2.heap.size, 0, none⟩ (.int .i64 m.1)).setCell ⟨W2.heap.size, 1, none⟩ (.int .i64 m.2)).cell? ⟨W2.heap.size, 0, none⟩ = some (.int .i64 m.1) := by have := Lib.cell_of_heap hz 0; simpa using this
    clear hz c0 c1 c2 c3 c4 HQ HZ z0 z1 zf HP
    generalize (W3.setCell ⟨W2.heap.size, 0, none⟩ (.int .i64 m.1)).setCell ⟨W2.heap.size, 1, none⟩ (.int .i64 m.2) = W4 at *
    generalize W2.heap.size = bm at *
    obtain ⟨c0, c1, c2, c3, c4⟩ := HM.out.cells
    have hf4 := HM.out.free
    go_wp2
    go_region
    all_goals
      go_wp2
      go_end0
      first
        | exact ⟨rfl, ((HM.out.next below_drw).limit _).second _⟩
        | exact ⟨rfl, ((HM.out.next below_drw).second _).limit _⟩
end
end Go.Proofs.YtdpmjaelbjjanaaGreat

namespace Go.Proofs.YtdpmjaelbjjanaaGreat
open Go.RowKit Go.Maps
set_option linter.unusedVariables false
set_option linter.unusedSimpArgs false

/-- Where the walk stands. -/
structure WkI (mg : List (Int × Int)) (tx : List ByteArray) (w0 : World) (q p : Nat) (x y L : Int) (x' y' L' : Int) (k : Nat) (W : World) : Prop where
  m : WkM w0 q (.pointer (some ⟨p, 0, none⟩)) x' y' L' (k : Int) W
  hx : inT tx x'
  hy : inT tx y'
  e1 : (wk mg x y L).1 = (wk mg x' y' L').1
  e2 : (wk mg x y L).2 = k + (wk mg x' y' L').2
section
variable {F : List Nat} {p b2 b3 : Nat} {v0 v1 : Value} {tx : List ByteArray} {mg : List (Int × Int)} {lg : Int} {w0 : World}

set_option maxRecDepth 20000 in
set_option maxHeartbeats 8000000 in
theorem toend_any (hT : TAt F p v0 v1 b2 b3 tx mg lg w0) (hk : Tok tx mg) {W : World} {q : Nat} {x y L : Int} (h : WkM w0 q (.pointer (some ⟨p, 0, none⟩)) x y L 0 W) (hx : inT tx x) (hy : inT tx y) :
    Calls Tryz.prog 52 #[.pointer (some ⟨q, 0, none⟩)] W fun e w' => e = .returned (.bool (wk mg x y L).1) ∧ ∃ x' y' L', WkM w0 q (.pointer (some ⟨p, 0, none⟩)) x' y' L' ((wk mg x y L).2 : Int) w' := by
  have HT := hide hT
  have HK := hide hk
  have HFW := hide (wk_few hk _ x y L (Nat.le_refl _) hx hy)
  have HB2 := hide (And.intro hx hy)
  have HI : Hid (WkI mg tx w0 q p x y L x y L 0 W) := hide ⟨h, hx, hy, rfl, by omega⟩
  have HCP := hide hk.cap
  clear hT hk h hx hy
  generalize hM : x.toNat + y.toNat = M at *
  have HM := hide hM
  clear hM
  go_enter Tryz.func52, Tryz.ntmps52
  go_wp2
  go_loopg [3] (M + 1) (fun k _ wr => ∃ x' y' L' n, Hid (WkI mg tx w0 q p x y L x' y' L' n wr ∧ x'.toNat + y'.toNat < k))
  case atStart => exact ⟨x, y, L, 0, hide ⟨HI.out, by have := HM.out; omega⟩⟩
  case round =>
    clear HI
    obtain ⟨x', y', L', n, HJ⟩ := hrel
    have HI := hide HJ.out.1
    have HS := hide HJ.out.2
    clear HJ
    have hn : n ≤ 2000 := by
      have h1 := HI.out.e2
      have h2 := HFW.out
      have h3 := HM.out
      have := HB2.out.1.2
      have := HB2.out.2.2
      have := HCP.out
      omega
    have HMM := hide (fun d : Wb wr => HI.out.m.next d.h)
    have KB := hide (fun (d : Wb wr) => (becomeone_any HT.out HK.out (HMM.out d) HI.out.hx HI.out.hy L').mono fun e w' h => (⟨h.1, ⟨w', below_step d.h h.2⟩, rfl⟩ : _ ∧ ∃ p : Wb wr, w' = p.W))
    have q3 : ∀ d : Wb wr, d.W.cell? ⟨q, 3, none⟩ = some (.int .i64 L') := fun d => (HMM.out d).cells.2.2.2.1
    have ne : Nonempty (Wb wr) := ⟨⟨_, Below.refl _ _⟩⟩
    cases hp : prB mg x' y' L' with
    | true =>
      rw [hp] at KB
      have HE := hide (wk_pair hp)
      clear hp
      go_wp2
      refine region_v (α := Wb wr) Wc.W (by kernel_rfl) (by kernel_rfl) ⟨_, below_drw⟩ rfl ?_
      repeat (go_big_quiet_step (first | (go_at_call 82; with_reducible exact KB.out _)))
      refine wpQuiet_nil ?_
      intro W1 hw'
      have hW : Below wr.heap.size wr W1 := by obtain ⟨p, rfl⟩ := hw'; exact p.h
      have HI1 := hide (HI.out.m.next hW)
      have HE1 := hide (HI.out.e1.trans (congrArg Prod.fst HE.out))
      have HE2 := hide (HI.out.e2.trans (congrArg (fun z : Bool × Nat => n + z.2) HE.out))
      clear hw' q3 ne KB HMM HI hW
      go_wp2
      go_ret
      refine ⟨?_, x', y', L', ?_⟩
      · rw [HE1.out]; rfl
      · rw [show (wk mg x y L).2 = n from HE2.out]; exact HI1.out
    | false =>
      rw [hp] at KB
      go_wp2
      refine region_v (α := Wb wr) Wc.W (by kernel_rfl) (by kernel_rfl) ⟨_, below_drw⟩ rfl ?_
      repeat (go_big_quiet_step (first | (go_at_call 82; with_reducible exact KB.out _)))
      refine wpQuiet_nil ?_
      intro W1 hw'
      have hW : Below wr.heap.size wr W1 := by obtain ⟨p, rfl⟩ := hw'; exact p.h
      have HI1 := hide (HI.out.m.next hW)
      clear hw' q3 ne KB HMM hW
      obtain ⟨c0, c1, c2, c3, c4⟩ := HI1.out.cells
      have KA := hide (arebytes_any x' y' W1)
      by_cases hb : x' < 256 ∧ y' < 256
      · rw [decide_eq_true hb] at KA
        have HE := hide (wk_bytes hp hb.1 hb.2)
        have HE1 := hide (HI.out.e1.trans (congrArg Prod.fst HE.out))
        have HE2 := hide (HI.out.e2.trans (congrArg (fun z : Bool × Nat => n + z.2) HE.out))
        clear hp hb
        go_wp2_with fail
        refine (unhide KA).mono ?_
        rintro e W2 ⟨rfl, hb2⟩
        have HI2 := hide (HI1.out.next hb2)
        clear hb2 KA c0 c1 c2 c3 c4
        go_wp2
        (try simp only [Exit.inBlock, Exit.then])
        refine bodyPost_ret (v := .bool true) (by simp [results, Tryz.results52, go_sem]) rfl ?_
        refine ⟨?_, x', y', L', ?_⟩
        · rw [HE1.out]
        · rw [show (wk mg x y L).2 = n from HE2.out]; exact HI2.out
      · rw [decide_eq_false hb] at KA
        go_wp2_with fail
        refine (unhide KA).mono ?_
        rintro e W2 ⟨rfl, hb2⟩
        have HI2 := hide (HI1.out.next hb2)
        clear hb2 KA c0 c1 c2 c3 c4
        have HX := hide HI.out.hx
        have HY := hide HI.out.hy
        by_cases hlt : y' < x'
        · obtain ⟨hi, he, hA, hB, h4, h5⟩ := par_at HK.out HX.out (by have := HX.out.1; have := HY.out.1; omega)
          have HE := hide (wk_first HK.out HX.out HY.out hp hb hlt)
          have HN := HI2.out
          rw [he] at HN
          have KS := hide (step_first HT.out HK.out HN hi (by omega) (by omega))
          rw [← he] at KS
          have HE1 := hide (HI.out.e1.trans (congrArg Prod.fst HE.out))
          have HE2 := hide (HI.out.e2.trans (congrArg (fun z : Bool × Nat => n + z.2) HE.out))
          have HBB := hide hB
          have HX5 := hide h5
          clear HN hp hb hlt hA hB h4 h5 hi he HI HI1 HI2
          go_wp2_with fail
          refine (unhide KS).mono ?_
          rintro e W3 ⟨rfl, hW3⟩
          have HN : Hid (WkI mg tx w0 q p x y L (gm mg (x' - 256).toNat).2 y' x' (n + 1) W3) := hide ⟨hW3, HBB.out, HY.out, HE1.out, by rw [HE2.out]; omega⟩
          clear hW3 KS
          go_wp2
          go_roundg (gk - 1)
          case measure => have := HS.out; omega
          case rel => exact ⟨_, _, _, n + 1, hide ⟨HN.out, by have := HS.out; have := HX5.out; have := HBB.out.1; omega⟩⟩
        · obtain ⟨hi, he, hA, hB, h4, h5⟩ := par_at HK.out HY.out (by have := HX.out.1; have := HY.out.1; omega)
          have HE := hide (wk_second HK.out HX.out HY.out hp hb hlt)
          have HN := HI2.out
          rw [he] at HN
          have KS := hide (step_second HT.out HK.out HN hi (by omega) (by omega))
          rw [← he] at KS
          have HE1 := hide (HI.out.e1.trans (congrArg Prod.fst HE.out))
          have HE2 := hide (HI.out.e2.trans (congrArg (fun z : Bool × Nat => n + z.2) HE.out))
          have HBB := hide hA
          have HX5 := hide h4
          clear HN hp hb hlt hA hB h4 h5 hi he HI HI1 HI2
          go_wp2_with fail
          refine (unhide KS).mono ?_
          rintro e W3 ⟨rfl, hW3⟩
          have HN : Hid (WkI mg tx w0 q p x y L x' (gm mg (y' - 256).toNat).1 (y' + 1) (n + 1) W3) := hide ⟨hW3, HX.out, HBB.out, HE1.out, by rw [HE2.out]; omega⟩
          clear hW3 KS
          go_wp2
          go_roundg (gk - 1)
          case measure => have := HS.out; omega
          case rel => exact ⟨_, _, _, n + 1, hide ⟨HN.out, by have := HS.out; have := HX5.out; have := HBB.out.1; omega⟩⟩

/-- Is there a token? -/
def hsT (tx : List ByteArray) (a : Int) : Bool := decide (0 ≤ a ∧ a < (tx.length : Int))
def gsT (tx : List ByteArray) (a : Int) : ByteArray := if hsT tx a then gs tx a.toNat else ⟨#[]⟩
theorem tbytesS (h : TAt F p v0 v1 b2 b3 tx mg lg w0) (a : Int) :
    Calls Tryz.prog 54 #[.pointer (some ⟨p, 0, none⟩), .int .i64 a] w0 fun e w' => e = .returned (.tuple #[.string (gsT tx a), .bool (hsT tx a)]) ∧ w' = w0 := by
  unfold gsT
  by_cases ha : 0 ≤ a ∧ a < tx.length
  · have e1 : hsT tx a = true := by simpa [hsT] using ha
    obtain ⟨i, rfl⟩ := Int.eq_ofNat_of_zero_le ha.1
    rw [e1]
    exact tbytes_any h i (by omega)
  · have e1 : hsT tx a = false := by simpa [hsT] using ha
    rw [e1]
    exact tbytes_none a _ tx.length w0 (hide (tlen_any h)) (by omega)
end

section
variable {w : World}
theorem walkof_any (po : Option Addr) (x y L : Int) (w0 w : World) (hb : Below w0.heap.size w0 w) : Calls Tryz.prog 50 #[.pointer po, .int .i64 x, .int .i64 y, .int .i64 L] w fun e w' => e = .returned (.pointer (some ⟨w.heap.size, 0, none⟩)) ∧ WkM w0 w.heap.size (.pointer po) x y L 0 w' := by
  have HN := hide (WkM.new w0 (.pointer po) x y L 0 hb)
  clear hb
  go_enter Tryz.func50, Tryz.ntmps50
  go_wp2
  go_ret
  exact ⟨rfl, HN.out⟩
end

section
variable {F : List Nat} {p b2 b3 : Nat} {v0 v1 : Value} {tx : List ByteArray} {mg : List (Int × Int)} {lg : Int} {w : World}

/-- What Walk tells. -/
def walkB (tx : List ByteArray) (mg : List (Int × Int)) (x y L : Int) : Bool := hsT tx x && hsT tx y && (wk mg x y L).1
def stepsN (tx : List ByteArray) (mg : List (Int × Int)) (x y : Int) : Int := if (hsT tx x && hsT tx y) = true then ((wk mg x y 9223372036854775807).2 : Int) else 0
theorem hsT_iff {a : Int} : hsT tx a = true ↔ inT tx a := by unfold hsT inT; rw [decide_eq_true_iff]

set_option maxRecDepth 20000 in
set_option maxHeartbeats 4000000 in
theorem walk_any (h : TAt F p v0 v1 b2 b3 tx mg lg w) (hk : Tok tx mg) (x y L : Int) :
    Calls Tryz.prog 22 #[.pointer (some ⟨p, 0, none⟩), .int .i64 x, .int .i64 y, .int .i64 L] w fun e w' => e = .returned (.bool (walkB tx mg x y L)) ∧ Below w.heap.size w w' := by
  have KW := hide (walkof_any (some ⟨p, 0, none⟩) x y L w w (Below.refl _ _))
  have HT := hide h
  have HK := hide hk
  have HB1 := hide (fun (W : World) (hb : Below w.heap.size w W) => tbytesS (HT.out.keptB hb) x)
  have HB2 := hide (fun (W : World) (hb : Below w.heap.size w W) => tbytesS (HT.out.keptB hb) y)
  have HXY : Hid (hsT tx x = true → hsT tx y = true → inT tx x ∧ inT tx y) := hide (fun h1 h2 => ⟨hsT_iff.1 h1, hsT_iff.1 h2⟩)
  unfold walkB
  generalize hsT tx x = b1 at *
  generalize hsT tx y = b2' at *
  clear h hk
  cases b1 <;> cases b2'
  case true.true =>
    obtain ⟨r, hr⟩ : ∃ r, (wk mg x y L).1 = r := ⟨_, rfl⟩
    have HWK := hide hr
    rw [hr]
    clear hr
    go_enter Tryz.func22, Tryz.ntmps22
    go_wp2_with fail
    refine (unhide KW).mono ?_
    rintro e W1 ⟨rfl, hM⟩
    have HM := hide hM
    clear hM KW
    have K1 := hide (there_any HM.out HB1 HB2)
    go_wp2_with fail
    refine (unhide K1).mono ?_
    rintro e W2 ⟨rfl, hb⟩
    have HM2 := hide (HM.out.next hb)
    have K2 := hide (toend_any HT.out HK.out HM2.out (HXY.out (by trivial) (by trivial)).1 (HXY.out (by trivial) (by trivial)).2)
    rw [HWK.out] at K2
    clear hb K1 HM
    go_wp2_with fail
    refine (unhide K2).mono ?_
    rintro e W3 ⟨rfl, x', y', L', hM3⟩
    have HM3 := hide hM3.bel
    clear hM3 K2
    cases r
    all_goals
      go_wp2
      go_ret
      exact ⟨rfl, HM3.out⟩
  all_goals
    go_enter Tryz.func22, Tryz.ntmps22
    go_wp2_with fail
    refine (unhide KW).mono ?_
    rintro e W1 ⟨rfl, hM⟩
    have HM := hide hM
    clear hM KW
    have K1 := hide (there_any HM.out HB1 HB2)
    go_wp2_with fail
    refine (unhide K1).mono ?_
    rintro e W2 ⟨rfl, hb⟩
    have HM2 := hide (HM.out.next hb).bel
    clear hb K1 HM
    go_wp2
    go_ret
    exact ⟨rfl, HM2.out⟩

set_option maxRecDepth 20000 in
set_option maxHeartbeats 4000000 in
theorem steps_any (h : TAt F p v0 v1 b2 b3 tx mg lg w) (hk : Tok tx mg) (x y : Int) :
    Calls Tryz.prog 23 #[.pointer (some ⟨p, 0, none⟩), .int .i64 x, .int .i64 y] w fun e w' => e = .returned (.int .i64 (stepsN tx mg x y)) ∧ Below w.heap.size w w' := by
  have KW := hide (walkof_any (some ⟨p, 0, none⟩) x y 9223372036854775807 w w (Below.refl _ _))
  have HT := hide h
  have HK := hide hk
  have HB1 := hide (fun (W : World) (hb : Below w.heap.size w W) => tbytesS (HT.out.keptB hb) x)
  have HB2 := hide (fun (W : World) (hb : Below w.heap.size w W) => tbytesS (HT.out.keptB hb) y)
  have HXY : Hid (hsT tx x = true → hsT tx y = true → inT tx x ∧ inT tx y) := hide (fun h1 h2 => ⟨hsT_iff.1 h1, hsT_iff.1 h2⟩)
  unfold stepsN
  generalize hsT tx x = b1 at *
  generalize hsT tx y = b2' at *
  clear h hk
  cases b1 <;> cases b2'
  case true.true =>
    obtain ⟨r, hr⟩ : ∃ r, (wk mg x y 9223372036854775807).2 = r := ⟨_, rfl⟩
    have HWK := hide hr
    rw [hr]
    clear hr
    go_enter Tryz.func23, Tryz.ntmps23
    go_wp2_with fail
    refine (unhide KW).mono ?_
    rintro e W1 ⟨rfl, hM⟩
    have HM := hide hM
    clear hM KW
    have K1 := hide (there_any HM.out HB1 HB2)
    go_wp2_with fail
    refine (unhide K1).mono ?_
    rintro e W2 ⟨rfl, hb⟩
    have HM2 := hide (HM.out.next hb)
    have K2 := hide (toend_any HT.out HK.out HM2.out (HXY.out (by trivial) (by trivial)).1 (HXY.out (by trivial) (by trivial)).2)
    rw [HWK.out] at K2
    clear hb K1 HM
    go_wp2_with fail
    refine (unhide K2).mono ?_
    rintro e W3 ⟨rfl, x', y', L', hM3⟩
    have HM3 := hide hM3
    clear hM3 K2
    obtain ⟨c0, c1, c2, c3, c4⟩ := HM3.out.cells
    go_wp2
    go_ret
    exact ⟨rfl, HM3.out.bel⟩
  all_goals
    go_enter Tryz.func23, Tryz.ntmps23
    go_wp2_with fail
    refine (unhide KW).mono ?_
    rintro e W1 ⟨rfl, hM⟩
    have HM := hide hM
    clear hM KW
    have K1 := hide (there_any HM.out HB1 HB2)
    go_wp2_with fail
    refine (unhide K1).mono ?_
    rintro e W2 ⟨rfl, hb⟩
    have HM2 := hide (HM.out.next hb)
    clear hb K1 HM
    obtain ⟨c0, c1, c2, c3, c4⟩ := HM2.out.cells
    go_wp2
    go_ret
    exact ⟨rfl, HM2.out.bel⟩

/-- What Alone tells. -/
def aloB (tx : List ByteArray) (mg : List (Int × Int)) (x : Int) : Bool := hsT tx x && alB tx mg x
theorem aloB_none {x : Int} (hk : Tok tx mg) (h : x < 256 ∨ (tx.length : Int) ≤ x) : aloB tx mg x = hsT tx x := by
  unfold aloB
  cases hs : hsT tx x with
  | false => rfl
  | true =>
    have hx := hsT_iff.1 hs
    rw [alB_byte hk hx.1 (by have := hx.2; omega)]
    rfl
theorem aloB_step (hk : Tok tx mg) {i : Nat} (hi : i < mg.length) : aloB tx mg (256 + (i : Int)) = (aloB tx mg (gm mg i).1 && (aloB tx mg (gm mg i).2 && walkB tx mg (gm mg i).1 (gm mg i).2 (256 + (i : Int)))) := by
  have hp := hk.par i hi
  have hl := hk.len
  unfold aloB walkB
  rw [alB_step hk hi, hsT_iff.2 (show inT tx (256 + (i : Int)) from ⟨by omega, by omega⟩), hsT_iff.2 (show inT tx (gm mg i).1 from ⟨hp.1, by omega⟩), hsT_iff.2 (show inT tx (gm mg i).2 from ⟨hp.2.2.1, by omega⟩)]
  simp only [Bool.true_and, Bool.and_assoc]

set_option maxRecDepth 20000 in
set_option maxHeartbeats 4000000 in
theorem salone_any (hk : Tok tx mg) : ∀ (n : Nat) (x : Int) (w : World), x.toNat < n → TAt F p v0 v1 b2 b3 tx mg lg w →
    Calls Tryz.prog 25 #[.pointer (some ⟨p, 0, none⟩), .int .i64 x] w fun e w' => e = .returned (.bool (aloB tx mg x)) ∧ Below w.heap.size w w' := by
  intro n
  induction n with
  | zero =>
    intro x w hn h
    omega
  | succ n ih =>
    intro x w hn h
    have HK := hide hk
    have HT := hide h
    have hl := hk.len
    have hcap := hk.cap
    by_cases hx : x < 256 ∨ (tx.length : Int) ≤ x
    · rw [aloB_none hk hx]
      have KP := hide (parents_none x (.pointer (some ⟨p, 0, none⟩)) tx.length w (hide (tlen_any (h.keptB (low1 w _)))) hx)
      have HB := hide (fun (W : World) (hb : Below w.heap.size w W) => tbytesS (HT.out.keptB hb) x)
      generalize hsT tx x = b at *
      clear h hk hx hl hcap
      go_enter Tryz.func25, Tryz.ntmps25
      go_wp2_with fail
      refine (unhide KP).mono ?_
      rintro e W1 ⟨rfl, hb⟩
      unfold merR
      have KB := hide (HB.out _ (below_step hb (low1 W1 (.cells #[.int .i64 0, .int .i64 0] 77))))
      have HB1 := hide (below_step hb (low1 W1 (.cells #[.int .i64 0, .int .i64 0] 77)))
      clear hb KP HB
      go_wp2_with fail
      refine (unhide KB).mono ?_
      rintro e W2 ⟨rfl, hw⟩
      subst hw
      clear KB
      go_wp2
      (try simp only [Exit.inBlock, Exit.then])
      refine bodyPost_ret (v := .bool b) (by simp [results, Tryz.results25, go_sem]) rfl ?_
      exact ⟨rfl, HB1.out⟩
    · obtain ⟨i, rfl⟩ : ∃ i : Nat, x = 256 + (i : Int) := ⟨(x - 256).toNat, by omega⟩
      have hi : i < mg.length := by omega
      have hp := hk.par i hi
      have KP := hide (parents_any h i hi hl (by omega))
      have KA := hide (fun (W : World) (hb : Below w.heap.size w W) => ih (gm mg i).1 W (by omega) (HT.out.keptB hb))
      have KC := hide (fun (W : World) (hb : Below w.heap.size w W) => ih (gm mg i).2 W (by omega) (HT.out.keptB hb))
      have KW := hide (fun (W : World) (hb : Below w.heap.size w W) => walk_any (HT.out.keptB hb) HK.out (gm mg i).1 (gm mg i).2 (256 + (i : Int)))
      rw [aloB_step hk hi]
      generalize walkB tx mg (gm mg i).1 (gm mg i).2 (256 + (i : Int)) = r at *
      generalize aloB tx mg (gm mg i).1 = ra at *
      generalize aloB tx mg (gm mg i).2 = rb at *
      generalize gm mg i = m at *
      clear h hk hl hcap ih hp hi hn hx
      have hz := fun (W1 : World) => heap_alloc_new W1 (.cells #[.int .i64 m.1, .int .i64 m.2] 77)
      cases ra <;> cases rb
      all_goals
        go_enter Tryz.func25, Tryz.ntmps25
        go_wp2_with fail
        refine (unhide KP).mono ?_
        rintro e W1 ⟨rfl, hb⟩
        unfold merR
        have HB1 := hide (below_step hb (low1 W1 (.cells #[.int .i64 m.1, .int .i64 m.2] 77)))
        have HZ : Hid ((W1.alloc (.cells #[.int .i64 m.1, .int .i64 m.2] 77)).heap[W1.heap.size]? = some (.cells #[.int .i64 m.1, .int .i64 m.2] 77 (0, 0))) := hide (hz W1)
        have K1 := hide (KA.out _ HB1.out)
        clear hb KP hz
        go_wp2_with fail
        refine (unhide K1).mono ?_
        rintro e W2 ⟨rfl, hb⟩
        have HB2 := hide (below_step HB1.out hb)
        have hz2 := (hb.block _ (Array.getElem?_eq_some_iff.1 HZ.out).1).trans HZ.out
        have y0 : W2.cell? ⟨W1.heap.size, 0, none⟩ = some (.int .i64 m.1) := Lib.cell_of_heap hz2 0
        have y1 : W2.cell? ⟨W1.heap.size, 1, none⟩ = some (.int .i64 m.2) := Lib.cell_of_heap hz2 1
        have HZ2 := hide hz2
        have K2 := hide (KC.out _ HB2.out)
        clear hb K1 hz2 HZ HB1
      · go_wp2
        go_ret
        exact ⟨rfl, HB2.out⟩
      · go_wp2
        go_ret
        exact ⟨rfl, HB2.out⟩
      · go_wp2_with fail
        refine (unhide K2).mono ?_
        rintro e W3 ⟨rfl, hb⟩
        have HB3 := hide (below_step HB2.out hb)
        have hz3 := (hb.block _ (Array.getElem?_eq_some_iff.1 HZ2.out).1).trans HZ2.out
        clear y0 y1
        have y0 : W3.cell? ⟨W1.heap.size, 0, none⟩ = some (.int .i64 m.1) := Lib.cell_of_heap hz3 0
        have y1 : W3.cell? ⟨W1.heap.size, 1, none⟩ = some (.int .i64 m.2) := Lib.cell_of_heap hz3 1
        have K3 := hide (KW.out _ HB3.out)
        clear hb K2 hz3 HZ2 HB2
        go_wp2
        go_ret
        exact ⟨rfl, HB3.out⟩
      · go_wp2_with fail
        refine (unhide K2).mono ?_
        rintro e W3 ⟨rfl, hb⟩
        have HB3 := hide (below_step HB2.out hb)
        have hz3 := (hb.block _ (Array.getElem?_eq_some_iff.1 HZ2.out).1).trans HZ2.out
        clear y0 y1
        have y0 : W3.cell? ⟨W1.heap.size, 0, none⟩ = some (.int .i64 m.1) := Lib.cell_of_heap hz3 0
        have y1 : W3.cell? ⟨W1.heap.size, 1, none⟩ = some (.int .i64 m.2) := Lib.cell_of_heap hz3 1
        have K3 := hide (KW.out _ HB3.out)
        clear hb K2 hz3 HZ2 HB2
        go_wp2_with fail
        refine (unhide K3).mono ?_
        rintro e W4 ⟨rfl, hb⟩
        have HB4 := hide (below_step HB3.out hb)
        clear hb K3 HB3 y0 y1
        cases r
        all_goals
          go_wp2
          go_ret
          exact ⟨rfl, HB4.out⟩
end
end Go.Proofs.YtdpmjaelbjjanaaGreat
