/- Contracts of package spine: the walk's parts. -/
import Derived.Test.YtdpmjaelbjjanaaGreatSnW
import Derived.Test.YtdpmjaelbjjanaaGreatQa33
import Derived.Test.YtdpmjaelbjjanaaGreatQa18
import Derived.Test.YtdpmjaelbjjanaaGreatQa21
import Derived.Deep.LoopGhost
import Derived.BigRegion
import Derived.BigQuiet
namespace Go.Proofs.YtdpmjaelbjjanaaGreat
open Go.RowKit Go.Maps
set_option linter.unusedVariables false
set_option linter.unusedSimpArgs false

set_option maxRecDepth 20000 in
set_option maxHeartbeats 1000000 in
theorem arebytes_any (x y : Int) (w : World) : Calls Tryz.prog 83 #[.agg #[.int .i64 x, .int .i64 y]] w fun e w' => e = .returned (.bool (decide (x < 256 ∧ y < 256))) ∧ Below w.heap.size w w' := by
  have hl := low1 w (.cells #[.int .i64 x, .int .i64 y] 106)
  rcases (show x < y ∨ y ≤ x by omega) with h | h
  · rw [show decide (x < 256 ∧ y < 256) = decide (y < 256) from decide_eq_decide.2 (by omega)]
    go_enter Tryz.func83, Tryz.ntmps83
    go_wp2
    go_ret
    first | exact ⟨rfl, hl⟩ | omega
  · rw [show decide (x < 256 ∧ y < 256) = decide (x < 256) from decide_eq_decide.2 (by omega)]
    go_enter Tryz.func83, Tryz.ntmps83
    go_wp2
    go_ret
    first | exact ⟨rfl, hl⟩ | omega
theorem takesfirst_any (x y : Int) (w : World) : Calls Tryz.prog 120 #[.agg #[.int .i64 x, .int .i64 y]] w fun e w' => e = .returned (.bool (decide (y < x))) ∧ Below w.heap.size w w' := by
  have hl := low1 w (.cells #[.int .i64 x, .int .i64 y] 106)
  go_enter Tryz.func120, Tryz.ntmps120
  go_wp2
  go_ret
  exact ⟨rfl, hl⟩

/-- A walk in memory: two that were come to, a limit, and how many were taken apart. -/
structure WkM (w0 : World) (q : Nat) (vt : Value) (x y L n : Int) (W : World) : Prop where
  bel : Below w0.heap.size w0 W
  le : w0.heap.size ≤ q
  box : W.heap[q]? = some (.cells #[.int .i64 x, .int .i64 y, vt, .int .i64 L, .int .i64 n] 110 (0, 0))
section
variable {w0 W W' : World} {q : Nat} {vt : Value} {x y L n : Int}
theorem WkM.lt (h : WkM w0 q vt x y L n W) : q < W.heap.size := (Array.getElem?_eq_some_iff.1 h.box).1
theorem WkM.next (h : WkM w0 q vt x y L n W) (hb : Below W.heap.size W W') : WkM w0 q vt x y L n W' :=
  ⟨below_step h.bel hb, h.le, by rw [hb.block _ h.lt]; exact h.box⟩
theorem WkM.cells (h : WkM w0 q vt x y L n W) : W.cell? ⟨q, 0, none⟩ = some (.int .i64 x) ∧ W.cell? ⟨q, 1, none⟩ = some (.int .i64 y) ∧ W.cell? ⟨q, 2, none⟩ = some vt ∧ W.cell? ⟨q, 3, none⟩ = some (.int .i64 L) ∧ W.cell? ⟨q, 4, none⟩ = some (.int .i64 n) :=
  ⟨Lib.cell_of_heap h.box 0, Lib.cell_of_heap h.box 1, Lib.cell_of_heap h.box 2, Lib.cell_of_heap h.box 3, Lib.cell_of_heap h.box 4⟩
theorem WkM.new (w0 : World) (vt : Value) (x y L n : Int) {W : World} (hb : Below w0.heap.size w0 W) : WkM w0 W.heap.size vt x y L n (W.alloc (.cells #[.int .i64 x, .int .i64 y, vt, .int .i64 L, .int .i64 n] 110)) :=
  ⟨below_step hb (low1 W _), hb.size, heap_alloc_new W _⟩
theorem WkM.first (h : WkM w0 q vt x y L n W) (x' : Int) : WkM w0 q vt x' y L n (W.setCell ⟨q, 0, none⟩ (.int .i64 x')) :=
  ⟨h.bel.setCell h.le _, h.le, by simpa using Wf.set_block h.box 0 (.int .i64 x')⟩
theorem WkM.second (h : WkM w0 q vt x y L n W) (y' : Int) : WkM w0 q vt x y' L n (W.setCell ⟨q, 1, none⟩ (.int .i64 y')) :=
  ⟨h.bel.setCell h.le _, h.le, by simpa using Wf.set_block h.box 1 (.int .i64 y')⟩
theorem WkM.limit (h : WkM w0 q vt x y L n W) (L' : Int) : WkM w0 q vt x y L' n (W.setCell ⟨q, 3, none⟩ (.int .i64 L')) :=
  ⟨h.bel.setCell h.le _, h.le, by simpa using Wf.set_block h.box 3 (.int .i64 L')⟩
theorem WkM.count (h : WkM w0 q vt x y L n W) (n' : Int) : WkM w0 q vt x y L n' (W.setCell ⟨q, 4, none⟩ (.int .i64 n')) :=
  ⟨h.bel.setCell h.le _, h.le, by simpa using Wf.set_block h.box 4 (.int .i64 n')⟩
theorem WkM.put (h : WkM w0 q vt x y L n W) {b : Nat} (hb : w0.heap.size ≤ b) (hne : q ≠ b) (j : Nat) (v : Value) : WkM w0 q vt x y L n (W.setCell ⟨b, j, none⟩ v) :=
  ⟨h.bel.setCell hb _, h.le, by rw [heap_setCell_other W ⟨b, j, none⟩ q v (fun e => hne e)]; exact h.box⟩
theorem WkM.free (h : WkM w0 q vt x y L n W) (i : Nat) : W.frozen? ⟨q, i, none⟩ = false := Lib.frozen_of_heap h.box i
end

set_option maxRecDepth 20000 in
set_option maxHeartbeats 4000000 in
theorem there_any {w0 W : World} {q : Nat} {vt : Value} {x y L n : Int} (h : WkM w0 q vt x y L n W) {t1 t2 : ByteArray} {b1 b2 : Bool} (HB1 : Hid (∀ (W : World), Below w0.heap.size w0 W → Calls Tryz.prog 54 #[vt, .int .i64 x] W fun e w' => e = .returned (.tuple #[.string t1, .bool b1]) ∧ w' = W))
    (HB2 : Hid (∀ (W : World), Below w0.heap.size w0 W → Calls Tryz.prog 54 #[vt, .int .i64 y] W fun e w' => e = .returned (.tuple #[.string t2, .bool b2]) ∧ w' = W)) :
    Calls Tryz.prog 51 #[.pointer (some ⟨q, 0, none⟩)] W fun e w' => e = .returned (.bool (b1 && b2)) ∧ Below W.heap.size W w' := by
  cases b1 <;> cases b2
  all_goals
    have HM := hide (fun d : Wb W => h.next d.h)
    have KB := hide (fun (d : Wb W) => (HB1.out d.W (HM.out d).bel).mono fun e w' h => (⟨h.1, d, h.2⟩ : _ ∧ ∃ p : Wb W, w' = p.W))
    have q0 : ∀ d : Wb W, d.W.cell? ⟨q, 0, none⟩ = some (.int .i64 x) := fun d => (HM.out d).cells.1
    have q2 : ∀ d : Wb W, d.W.cell? ⟨q, 2, none⟩ = some vt := fun d => (HM.out d).cells.2.2.1
    have ne : Nonempty (Wb W) := ⟨⟨_, Below.refl _ _⟩⟩
    have HH := hide h
    clear h
    go_enter Tryz.func51, Tryz.ntmps51
    go_wp2
    refine region_v (α := Wb W) Wc.W (by kernel_rfl) (by kernel_rfl) ⟨_, below_drw⟩ rfl ?_
    repeat (go_big_quiet_step (first | (go_at_call 54; with_reducible exact KB.out _)))
    refine wpQuiet_nil ?_
    intro W1 hw'
    have hW : Below W.heap.size W W1 := by obtain ⟨p, rfl⟩ := hw'; exact p.h
    have HH1 := hide (HH.out.next hW)
    clear hw' q0 q2 ne KB HM HH
    have HM := hide (fun d : Wb W1 => HH1.out.next d.h)
    have KB := hide (fun (d : Wb W1) => (HB2.out d.W (HM.out d).bel).mono fun e w' h => (⟨h.1, d, h.2⟩ : _ ∧ ∃ p : Wb W1, w' = p.W))
    have q1 : ∀ d : Wb W1, d.W.cell? ⟨q, 1, none⟩ = some (.int .i64 y) := fun d => (HM.out d).cells.2.1
    have q2 : ∀ d : Wb W1, d.W.cell? ⟨q, 2, none⟩ = some vt := fun d => (HM.out d).cells.2.2.1
    have ne : Nonempty (Wb W1) := ⟨⟨_, Below.refl _ _⟩⟩
    have HW := hide hW
    clear hW
    go_wp2
    refine region_v (α := Wb W1) Wc.W (by kernel_rfl) (by kernel_rfl) ⟨_, below_drw⟩ rfl ?_
    repeat (go_big_quiet_step (first | (go_at_call 54; with_reducible exact KB.out _)))
    refine wpQuiet_nil ?_
    intro W2 hw'
    have hW2 : Below W1.heap.size W1 W2 := by obtain ⟨p, rfl⟩ := hw'; exact p.h
    have HW2 := hide (below_step HW.out hW2)
    clear hw' q1 q2 ne KB HM HH1 hW2 HW
    go_wp2
    go_ret
    exact ⟨rfl, HW2.out⟩

theorem prB_prC {tx : List ByteArray} {mg : List (Int × Int)} (hk : Tok tx mg) {a b x : Int} {ok : Bool} (h : prC mg a b x ok) (L : Int) : prB mg a b L = (ok && decide (x < L)) := by
  rcases h with ⟨rfl, _, hn⟩ | ⟨i, rfl, rfl, hi, e⟩
  · rw [prB_no (fun k hk2 e => hn (by rw [← e]; unfold gm; rw [List.getD_eq_getElem?_getD, List.getElem?_eq_getElem hk2]; exact List.getElem_mem hk2))]
    rfl
  · rw [prB_at hk hi e, Bool.true_and]

section
variable {F : List Nat} {p b2 b3 : Nat} {v0 v1 : Value} {tx : List ByteArray} {mg : List (Int × Int)} {lg : Int} {w0 : World}

set_option maxRecDepth 20000 in
set_option maxHeartbeats 4000000 in
theorem becomeone_any (hT : TAt F p v0 v1 b2 b3 tx mg lg w0) (hk : Tok tx mg) {W : World} {q : Nat} {x y L n : Int} (h : WkM w0 q (.pointer (some ⟨p, 0, none⟩)) x y L n W) (hx : inT tx x) (hy : inT tx y) (L' : Int) :
    Calls Tryz.prog 82 #[.pointer (some ⟨q, 0, none⟩), .int .i64 L'] W fun e w' => e = .returned (.bool (prB mg x y L')) ∧ Below W.heap.size W w' := by
  have hcap := hk.cap
  obtain ⟨z, ok, hz, KP⟩ := tpair_c (F := F) (p := p) (b2 := b2) (b3 := b3) (v0 := v0) (v1 := v1) (lg := lg) hk x y ⟨WalkArith.wf_i64 (by have := hx.1; have := hx.2; omega), WalkArith.wf_i64 (by have := hy.1; have := hy.2; omega)⟩
  rw [prB_prC hk hz L']
  have HM := hide (fun d : Wb W => h.next d.h)
  have KB := hide (fun (d : Wb W) => (KP d.W (hT.keptB (HM.out d).bel)).mono fun e w' h => (⟨h.1, d, h.2⟩ : _ ∧ ∃ p : Wb W, w' = p.W))
  have q0 : ∀ d : Wb W, d.W.cell? ⟨q, 0, none⟩ = some (.int .i64 x) := fun d => (HM.out d).cells.1
  have q1 : ∀ d : Wb W, d.W.cell? ⟨q, 1, none⟩ = some (.int .i64 y) := fun d => (HM.out d).cells.2.1
  have q2 : ∀ d : Wb W, d.W.cell? ⟨q, 2, none⟩ = some (.pointer (some ⟨p, 0, none⟩)) := fun d => (HM.out d).cells.2.2.1
  have ne : Nonempty (Wb W) := ⟨⟨_, Below.refl _ _⟩⟩
  clear h KP hT hk hx hy hz hcap
  cases ok
  all_goals
    go_enter Tryz.func82, Tryz.ntmps82
    go_wp2
    refine region_v (α := Wb W) Wc.W (by kernel_rfl) (by kernel_rfl) ⟨_, below_drw⟩ rfl ?_
    repeat (go_big_quiet_step (first | (go_at_call 119; with_reducible exact KB.out _)))
    refine wpQuiet_nil ?_
    intro W1 hw'
    have hW : Below W.heap.size W W1 := by obtain ⟨p, rfl⟩ := hw'; exact p.h
    clear hw' q0 q1 q2 ne KB HM
    go_wp2
    go_ret
    exact ⟨rfl, hW⟩

set_option maxRecDepth 20000 in
set_option maxHeartbeats 8000000 in
theorem step_first (hT : TAt F p v0 v1 b2 b3 tx mg lg w0) (hk : Tok tx mg) {W : World} {q : Nat} {i : Nat} {y L n : Int} (h : WkM w0 q (.pointer (some ⟨p, 0, none⟩)) (256 + (i : Int)) y L n W) (hi : i < mg.length) (hlt : y < 256 + (i : Int)) (hn : 0 ≤ n ∧ n ≤ 1000000) :
    Calls Tryz.prog 84 #[.pointer (some ⟨q, 0, none⟩)] W fun e w' => e = .returned (.tuple #[]) ∧ WkM w0 q (.pointer (some ⟨p, 0, none⟩)) (gm mg i).2 y (256 + (i : Int)) (n + 1) w' := by
  have hl := hk.len
  have hcap := hk.cap
  have KP := hide (fun (W' : World) (hb : Below w0.heap.size w0 W') => parents_any (hT.keptB hb) i hi hl (by omega))
  have hw1 : IntKind.i64.wrap (n + 1) = n + 1 := by rw [IntKind.wrap_i64]; omega
  obtain ⟨x, hx⟩ : ∃ x : Int, 256 + (i : Int) = x := ⟨_, rfl⟩
  have hd : decide (y < x) = true := by rw [← hx]; exact decide_eq_true hlt
  generalize gm mg i = m at *
  simp only [hx] at *; clear hx
  obtain ⟨c0, c1, c2, c3, c4⟩ := h.cells
  have hf := h.free
  have HC := hide (h.count (n + 1))
  clear h hT hk hl hcap hi hlt
  generalize hW1 : W.setCell ⟨q, 4, none⟩ (.int .i64 (n + 1)) = W1 at *
  have KT := hide (takesfirst_any x y W1)
  obtain ⟨d0, d1, d2, d3, d4⟩ := HC.out.cells
  go_enter Tryz.func84, Tryz.ntmps84
  go_wp2_with fail
  refine (unhide KT).mono ?_
  rintro e W2 ⟨rfl, hb⟩
  have HC2 := hide (HC.out.next hb)
  rw [hd]
  clear KT HC hW1 hb c0 c1 c2 c3 c4 d0 d1 d2 d3 d4
  obtain ⟨c0, c1, c2, c3, c4⟩ := HC2.out.cells
  go_wp2
  go_region_held3 (fun V => V.cell? ⟨q, 2, none⟩ = some (.pointer (some ⟨p, 0, none⟩)) ∧ V.cell? ⟨q, 0, none⟩ = some (.int .i64 x)) (first | exact ⟨HP.out.cells.2.2.1, HP.out.cells.1⟩ | exact ⟨(HQ.out.next (low1 W3 _)).cells.2.2.1, (HQ.out.next (low1 W3 _)).cells.1⟩ | exact ⟨HQ.out.cells.2.2.1, HQ.out.cells.1⟩ | exact ⟨c2, c0⟩ | go_keep) (first
    | (go_at_call 53; refine (KP.out _ (by first | exact (HC2.out.next below_drw).bel | exact ((HC2.out.next (low1 W2 _)).next below_drw).bel | exact ((HC2.out.next below_drw).next (low1 _ _)).bel | fail)).mono ?_; rintro e W3 ⟨rfl, hb⟩; (first | (have hq : WkM w0 q (.pointer (some ⟨p, 0, none⟩)) x y L (n + 1) W3 := (HC2.out.next below_drw).next hb; have HQ := hide hq; clear hq hb) | (have hz0 := heap_alloc_new W2 (.cells #[.int .i64 0, .int .i64 0] 77); have hq : WkM w0 q (.pointer (some ⟨p, 0, none⟩)) x y L (n + 1) W3 := ((HC2.out.next (low1 W2 (.cells #[.int .i64 0, .int .i64 0] 77))).next below_drw).next hb; have hz : W3.heap[W2.heap.size]? = some (.cells #[.int .i64 0, .int .i64 0] 77 (0, 0)) := (hb.block _ (Array.getElem?_eq_some_iff.1 hz0).1).trans hz0; have z0 := Lib.cell_of_heap hz 0; have z1 := Lib.cell_of_heap hz 1; have zf := Lib.frozen_of_heap hz; have HZ := hide hz; have HP := hide ((hq.put HC2.out.bel.size (Nat.ne_of_lt HC2.out.lt) 0 (.int .i64 m.1)).put HC2.out.bel.size (Nat.ne_of_lt HC2.out.lt) 1 (.int .i64 m.2)); have HQ := hide hq; clear hz0 hz hq hb)); unfold merR)
    | fail)
  · have HM := hide (HQ.out.next (low1 W3 (.cells #[.int .i64 m.1, .int .i64 m.2] 77)))
    have hz := heap_alloc_new W3 (.cells #[.int .i64 m.1, .int .i64 m.2] 77)
    have hne : q ≠ W3.heap.size := Nat.ne_of_lt HQ.out.lt
    have e1 : (W3.alloc (.cells #[.int .i64 m.1, .int .i64 m.2] 77)).cell? ⟨W3.heap.size, 1, none⟩ = some (.int .i64 m.2) := Lib.cell_of_heap hz 1
    clear hz c0 c1 c2 c3 c4 HQ
    generalize W3.alloc (.cells #[.int .i64 m.1, .int .i64 m.2] 77) = W4 at *
    generalize W3.heap.size = bm at *
    obtain ⟨c0, c1, c2, c3, c4⟩ := HM.out.cells
    have hf4 := HM.out.free
    go_wp2
    go_region
    all_goals
      go_wp2
      (try simp only [Exit.inBlock, Exit.then])
      refine bodyPost_ret (results_none rfl _ _ _) rfl ?_
      first
        | exact ⟨rfl, ((HM.out.next below_drw).limit _).first _⟩
        | exact ⟨rfl, ((HM.out.next below_drw).first _).limit _⟩
  · have HM := HP
    have hz := Wf.set_block (Wf.set_block HZ.out 0 (.int .i64 m.1)) 1 (.int .i64 m.2)
    have hne : q ≠ W2.heap.size := Nat.ne_of_lt HC2.out.lt
    have e1 : ((W3.setCell ⟨W2.heap.size, 0, none⟩ (.int .i64 m.1)).setCell ⟨W2.heap.size, 1, none⟩ (.int .i64 m.2)).cell? ⟨W2.heap.size, 1, none⟩ = some (.int .i64 m.2) := by have := Lib.cell_of_heap hz 1; simpa using this
    clear hz c0 c1 c2 c3 c4 HQ HZ z0 z1 zf HP
    generalize (W3.setCell ⟨W2.heap.size, 0, none⟩ (.int .i64 m.1)).setCell ⟨W2.heap.size, 1, none⟩ (.int .i64 m.2) = W4 at *
    generalize W2.heap.size = bm at *
    obtain ⟨c0, c1, c2, c3, c4⟩ := HM.out.cells
    have hf4 := HM.out.free
    go_wp2
    go_region
    all_goals
      go_wp2
      (try simp only [Exit.inBlock, Exit.then])
      refine bodyPost_ret (results_none rfl _ _ _) rfl ?_
      first
        | exact ⟨rfl, ((HM.out.next below_drw).limit _).first _⟩
        | exact ⟨rfl, ((HM.out.next below_drw).first _).limit _⟩
set_option maxRecDepth 20000 in
set_option maxHeartbeats 8000000 in
theorem step_second (hT : TAt F p v0 v1 b2 b3 tx mg lg w0) (hk : Tok tx mg) {W : World} {q : Nat} {i : Nat} {x L n : Int} (h : WkM w0 q (.pointer (some ⟨p, 0, none⟩)) x (256 + (i : Int)) L n W) (hi : i < mg.length) (hlt : ¬ 256 + (i : Int) < x) (hn : 0 ≤ n ∧ n ≤ 1000000) :
    Calls Tryz.prog 84 #[.pointer (some ⟨q, 0, none⟩)] W fun e w' => e = .returned (.tuple #[]) ∧ WkM w0 q (.pointer (some ⟨p, 0, none⟩)) x (gm mg i).1 (256 + (i : Int) + 1) (n + 1) w' := by
  have hl := hk.len
  have hcap := hk.cap
  have KP := hide (fun (W' : World) (hb : Below w0.heap.size w0 W') => parents_any (hT.keptB hb) i hi hl (by omega))
  have hw1 : IntKind.i64.wrap (n + 1) = n + 1 := by rw [IntKind.wrap_i64]; omega
  have hw2 : IntKind.i64.wrap (256 + (i : Int) + 1) = 256 + (i : Int) + 1 := by rw [IntKind.wrap_i64]; omega
  obtain ⟨y, hy⟩ : ∃ y : Int, 256 + (i : Int) = y := ⟨_, rfl⟩
  have hd : decide (y < x) = false := by rw [← hy]; exact decide_eq_false hlt
  generalize gm mg i = m at *
  simp only [hy] at *; clear hy
  obtain ⟨c0, c1, c2, c3, c4⟩ := h.cells
  have hf := h.free
  have HC := hide (h.count (n + 1))
  clear h hT hk hl hcap hi hlt
  generalize hW1 : W.setCell ⟨q, 4, none⟩ (.int .i64 (n + 1)) = W1 at *
  have KT := hide (takesfirst_any x y W1)
  obtain ⟨d0, d1, d2, d3, d4⟩ := HC.out.cells
  go_enter Tryz.func84, Tryz.ntmps84
  go_wp2_with fail
  refine (unhide KT).mono ?_
  rintro e W2 ⟨rfl, hb⟩
  have HC2 := hide (HC.out.next hb)
  rw [hd]
  clear KT HC hW1 hb c0 c1 c2 c3 c4 d0 d1 d2 d3 d4
  obtain ⟨c0, c1, c2, c3, c4⟩ := HC2.out.cells
  go_wp2
  go_region_held3 (fun V => V.cell? ⟨q, 2, none⟩ = some (.pointer (some ⟨p, 0, none⟩)) ∧ V.cell? ⟨q, 1, none⟩ = some (.int .i64 y)) (first | exact ⟨HP.out.cells.2.2.1, HP.out.cells.2.1⟩ | exact ⟨(HQ.out.next (low1 W3 _)).cells.2.2.1, (HQ.out.next (low1 W3 _)).cells.2.1⟩ | exact ⟨HQ.out.cells.2.2.1, HQ.out.cells.2.1⟩ | exact ⟨c2, c1⟩ | go_keep) (first
    | (go_at_call 53; refine (KP.out _ (by first | exact (HC2.out.next below_drw).bel | exact ((HC2.out.next (low1 W2 _)).next below_drw).bel | exact ((HC2.out.next below_drw).next (low1 _ _)).bel | fail)).mono ?_; rintro e W3 ⟨rfl, hb⟩; (first | (have hq : WkM w0 q (.pointer (some ⟨p, 0, none⟩)) x y L (n + 1) W3 := (HC2.out.next below_drw).next hb; have HQ := hide hq; clear hq hb) | (have hz0 := heap_alloc_new W2 (.cells #[.int .i64 0, .int .i64 0] 77); have hq : WkM w0 q (.pointer (some ⟨p, 0, none⟩)) x y L (n + 1) W3 := ((HC2.out.next (low1 W2 (.cells #[.int .i64 0, .int .i64 0] 77))).next below_drw).next hb; have hz : W3.heap[W2.heap.size]? = some (.cells #[.int .i64 0, .int .i64 0] 77 (0, 0)) := (hb.block _ (Array.getElem?_eq_some_iff.1 hz0).1).trans hz0; have z0 := Lib.cell_of_heap hz 0; have z1 := Lib.cell_of_heap hz 1; have zf := Lib.frozen_of_heap hz; have HZ := hide hz; have HP := hide ((hq.put HC2.out.bel.size (Nat.ne_of_lt HC2.out.lt) 0 (.int .i64 m.1)).put HC2.out.bel.size (Nat.ne_of_lt HC2.out.lt) 1 (.int .i64 m.2)); have HQ := hide hq; clear hz0 hz hq hb)); unfold merR)
    | fail)
  · have HM := hide (HQ.out.next (low1 W3 (.cells #[.int .i64 m.1, .int .i64 m.2] 77)))
    have hz := heap_alloc_new W3 (.cells #[.int .i64 m.1, .int .i64 m.2] 77)
    have hne : q ≠ W3.heap.size := Nat.ne_of_lt HQ.out.lt
    have e1 : (W3.alloc (.cells #[.int .i64 m.1, .int .i64 m.2] 77)).cell? ⟨W3.heap.size, 0, none⟩ = some (.int .i64 m.1) := Lib.cell_of_heap hz 0
    clear hz c0 c1 c2 c3 c4 HQ
    generalize W3.alloc (.cells #[.int .i64 m.1, .int .i64 m.2] 77) = W4 at *
    generalize W3.heap.size = bm at *
    obtain ⟨c0, c1, c2, c3, c4⟩ := HM.out.cells
    have hf4 := HM.out.free
    go_wp2
    go_region
    all_goals
      go_wp2
      go_end0
      first
        | exact ⟨rfl, ((HM.out.next below_drw).limit _).second _⟩
        | exact ⟨rfl, ((HM.out.next below_drw).second _).limit _⟩
  · have HM := HP
    have hz := Wf.set_block (Wf.set_block HZ.out 0 (.int .i64 m.1)) 1 (.int .i64 m.2)
    have hne : q ≠ W2.heap.size := Nat.ne_of_lt HC2.out.lt
    have e1 : ((W3.setCell ⟨W2.heap.size, 0, none⟩ (.int .i64 m.1)).setCell ⟨W2.heap.size, 1, none⟩ (.int .i64 m.2)).cell? ⟨W2.heap.size, 0, none⟩ = some (.int .i64 m.1) := by have := Lib.cell_of_heap hz 0; simpa using this
    clear hz c0 c1 c2 c3 c4 HQ HZ z0 z1 zf HP
    generalize (W3.setCell ⟨W2.heap.size, 0, none⟩ (.int .i64 m.1)).setCell ⟨W2.heap.size, 1, none⟩ (.int .i64 m.2) = W4 at *
    generalize W2.heap.size = bm at *
    obtain ⟨c0, c1, c2, c3, c4⟩ := HM.out.cells
    have hf4 := HM.out.free
    go_wp2
    go_region
    all_goals
      go_wp2
      go_end0
      first
        | exact ⟨rfl, ((HM.out.next below_drw).limit _).second _⟩
        | exact ⟨rfl, ((HM.out.next below_drw).second _).limit _⟩
end
end Go.Proofs.YtdpmjaelbjjanaaGreat
