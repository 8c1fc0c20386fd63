/- A case that came in, opened. -/
import Derived.Test.YtdpmjaelbjjanaaGreatZQa39
import Derived.Test.YtdpmjaelbjjanaaGreatZQa43
import Derived.Test.YtdpmjaelbjjanaaGreatZQa44
import Derived.Test.YtdpmjaelbjjanaaGreatZQa45
import Derived.Deep.Slices
import Derived.ChangeSame
import Derived.Lib.SmallJoins
import Derived.Deep.Strs
import Derived.SliceStrings
namespace Go.Proofs.YtdpmjaelbjjanaaGreat
open Go.ChangeShapes Go.WideShapes Go.ChangeAt Go.RowKit
set_option linter.unusedVariables false

section
variable {H : Type} {enc : TypeId × Value → H} {W : World} {base : Nat} {spare : Nat → Bool} {held : Bool}
theorem array4c {α : Type} {cs : Array α} (h : cs.size = 4) : ∃ c0 c1 c2 c3, cs = #[c0, c1, c2, c3] := by
  obtain ⟨l⟩ := cs
  match l, h with
  | [c0, c1, c2, c3], _ => exact ⟨c0, c1, c2, c3, rfl⟩
theorem slice_form {T E : TypeId} (hT : Tryz.prog.underlying T = some (.slice E)) {v : Value} {fuel : Nat} {y : DataW H × List MemPlace} (h : DataW.trod enc Tryz.prog W base spare held fuel T [v] = some y) : ∃ ao n cap, v = .slice ao n cap ∧ n ≤ cap ∧ DataW.Trod enc Tryz.prog W base spare held T v y.1 y.2 := by
  have ht : ∀ v', [v'] = [v] → (v'.cells.toList = [v']) → DataW.Trod enc Tryz.prog W base spare held T v y.1 y.2 := fun v' e e2 => by
    simp only [List.cons.injEq, and_true] at e
    subst e
    exact ⟨fuel, by rw [e2]; exact h⟩
  rcases Go.Deep.open_slice hT h with ⟨hcs, _⟩ | ⟨a, len, cap, m, n, D, Pl, hcs, hb, hl, _⟩
  · have h2 := ht (.slice none 0 0) hcs.symm (by simp [Value.cells])
    simp only [List.cons.injEq, and_true] at hcs
    exact ⟨_, _, _, hcs, Nat.le_refl _, h2⟩
  · have h2 := ht (.slice (some a) len cap) hcs.symm (by simp [Value.cells])
    simp only [List.cons.injEq, and_true] at hcs
    exact ⟨_, _, _, hcs, hl, h2⟩
theorem slice_le {t E : TypeId} (ht : Tryz.prog.underlying t = some (.slice E)) {a0 : Option Addr} {len0 cap0 : Nat} {d : DataW H} {ps : List MemPlace}
    (h : DataW.Trod enc Tryz.prog W base spare held t (.slice a0 len0 cap0) d ps) : len0 ≤ cap0 := by
  obtain ⟨fuel, hf⟩ := h
  rcases Go.Deep.open_slice ht hf with ⟨hcs, _⟩ | ⟨a, len, cap, m, n, D, Pl, hcs, hb, hl, _⟩
  · simp [Value.cells] at hcs
    obtain ⟨rfl, rfl, rfl⟩ := hcs
    omega
  · simp [Value.cells] at hcs
    obtain ⟨rfl, rfl, rfl⟩ := hcs
    exact hl
set_option maxRecDepth 100000 in
theorem open_case {r : Reach} {b0 : Nat} {v : Value} {d : DataW H} {p : List MemPlace} (hv : Value.okWide Tryz.prog W r b0 27 v) (h : DataW.Trod enc Tryz.prog W base spare held 27 v d p) : ∃ c : CsR, v = .agg c.cells ∧ CsAt c W := by
  have hU := Tryz.underlying27
  obtain ⟨cs, rfl, hsz⟩ := okWide_struct hU hv
  have hC : Tryz.prog.cellsOf 27 = 4 := by kernel_rfl
  obtain ⟨v0, v1, v2, v3, rfl⟩ := array4c (hsz.trans hC)
  obtain ⟨fuel, hf⟩ := h
  obtain ⟨xs, n, _, _, _, hxl, hfs⟩ := DataW.trod_struct hU hf
  have hx4 : xs.length = 4 := hxl
  obtain ⟨x0, x1, x2, x3, rfl⟩ : ∃ x0 x1 x2 x3, xs = [x0, x1, x2, x3] := by
    match xs, hx4 with
    | [x0, x1, x2, x3], _ => exact ⟨x0, x1, x2, x3, rfl⟩
  have g0 : DataW.trod enc Tryz.prog W base spare held n 22 (List.take (Tryz.prog.cellsOf 22) (List.drop 0 [v0, v1, v2, v3])) = some x0 := hfs 0 _ rfl
  rw [show Tryz.prog.cellsOf 22 = 1 by kernel_rfl] at g0
  change DataW.trod enc Tryz.prog W base spare held n 22 [v0] = some x0 at g0
  have g1 : DataW.trod enc Tryz.prog W base spare held n 23 (List.take (Tryz.prog.cellsOf 23) (List.drop 1 [v0, v1, v2, v3])) = some x1 := hfs 1 _ rfl
  rw [show Tryz.prog.cellsOf 23 = 1 by kernel_rfl] at g1
  change DataW.trod enc Tryz.prog W base spare held n 23 [v1] = some x1 at g1
  have g2 : DataW.trod enc Tryz.prog W base spare held n 24 (List.take (Tryz.prog.cellsOf 24) (List.drop 2 [v0, v1, v2, v3])) = some x2 := hfs 2 _ rfl
  rw [show Tryz.prog.cellsOf 24 = 1 by kernel_rfl] at g2
  change DataW.trod enc Tryz.prog W base spare held n 24 [v2] = some x2 at g2
  have g3 : DataW.trod enc Tryz.prog W base spare held n 25 (List.take (Tryz.prog.cellsOf 25) (List.drop 3 [v0, v1, v2, v3])) = some x3 := hfs 3 _ rfl
  rw [show Tryz.prog.cellsOf 25 = 1 by kernel_rfl] at g3
  change DataW.trod enc Tryz.prog W base spare held n 25 [v3] = some x3 at g3
  obtain ⟨a0, n0, c0, rfl, l0, t0⟩ := slice_form Tryz.underlying22 g0
  obtain ⟨a1, n1, c1, rfl, l1, t1⟩ := slice_form Tryz.underlying23 g1
  obtain ⟨a2, n2, c2, rfl, l2, t2⟩ := slice_form Tryz.underlying24 g2
  obtain ⟨a3, n3, c3, rfl, l3, t3⟩ := slice_form Tryz.underlying25 g3
  obtain ⟨A0, r0, _⟩ := open_halves t0
  obtain ⟨A1, r1, _⟩ := Wf.Bq.open_classes t1
  obtain ⟨A2, r2, _⟩ := Wf.Bq.open_joins t2
  obtain ⟨A3, r3, m3⟩ := Mk.open_specials t3
  exact ⟨⟨a0, n0, c0, A0, a1, n1, c1, A1, a2, n2, c2, A2, a3, n3, c3, A3⟩, rfl, r0, r1, l1, r2, l2, r3, m3⟩
end
end Go.Proofs.YtdpmjaelbjjanaaGreat
