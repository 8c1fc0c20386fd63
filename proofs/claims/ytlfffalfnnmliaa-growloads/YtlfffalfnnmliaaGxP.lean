/- A spec that came in, opened, over the texts of tokens. -/
import Derived.Test.YtlfffalfnnmliaaGxK
import Derived.Test.YtlfffalfnnmliaaGxO
import Derived.Test.YtlfffalfnnmliaaTkO
namespace Go.Proofs.Ytlfffalfnnmliaa
open Go.ChangeShapes Go.WideShapes Go.ChangeAt Go.RowKit
set_option linter.unusedVariables false

section
variable {H : Type} {enc : TypeId × Value → H} {W : World} {base : Nat} {spare : Nat → Bool} {held : Bool}
theorem slice_formG {T E : TypeId} (hT : Try.prog.underlying T = some (.slice E)) {v : Value} {fuel : Nat} {y : DataW H × List MemPlace} (h : DataW.trod enc Try.prog W base spare held fuel T [v] = some y) : ∃ ao n cap, v = .slice ao n cap := by
  rcases Go.Deep.open_slice hT h with ⟨hcs, _⟩ | ⟨a, len, cap, m, n, D, Pl, hcs, hb, hl, hm, hmm, _, hx⟩
  · simp only [List.cons.injEq, and_true] at hcs
    exact ⟨none, 0, 0, hcs⟩
  · simp only [List.cons.injEq, and_true] at hcs
    exact ⟨some a, len, cap, hcs⟩
theorem open_S {T E : TypeId} {f0 f1 : Field} (hT : Try.prog.underlying T = some (.slice E)) (hE : Try.prog.underlying E = some (.struct #[f0, f1])) (ce : Try.prog.cellsOf E = 2) (t0 : f0.type = 3) (t1 : f1.type = 9) (o0 : f0.offset = 0) (o1 : f1.offset = 1) {v : Value} {fuel : Nat} {y : DataW H × List MemPlace}
    (h : DataW.trod enc Try.prog W base spare held fuel T [v] = some y) : ∃ ao n cap A, v = .slice ao n cap ∧ RdS W ao n A := by
  rcases Go.Deep.open_slice hT h with ⟨hcs, _⟩ | ⟨a, len, cap, m, n, D, Pl, hcs, hb, hl, hm, hmm, _, hx⟩
  · simp only [List.cons.injEq, and_true] at hcs
    exact ⟨none, 0, 0, [], hcs, rfl, Or.inl rfl⟩
  · simp only [List.cons.injEq, and_true] at hcs
    have hle : len ≤ m := by rw [hmm]; split <;> omega
    have each : ∀ i, i < len → ∃ t : Int × ByteArray, W.cell? (a.add (i * 2)) = some (.int .i64 t.1) ∧ W.cell? (a.add (i * 2 + 1)) = some (.string t.2) := by
      intro i hi
      obtain ⟨cs', h1, h2⟩ := hx i (by omega)
      rw [ce] at h1
      obtain ⟨_, hlen, hcell⟩ := World.cells?_some h1
      obtain ⟨y0, y1, k, _, _, g0, g1⟩ := Go.ChangeShapes.trod_struct2 hE h2
      obtain ⟨v0, v1, rfl⟩ := list2 hlen
      have c0 : Try.prog.cellsOf 3 = 1 := by kernel_rfl
      have c9 : Try.prog.cellsOf 9 = 1 := by kernel_rfl
      rw [t0, o0, c0] at g0
      rw [t1, o1, c9] at g1
      simp at g0 g1
      obtain ⟨z0, e0, _⟩ := DataW.trod_int Try.underlying3 g0
      obtain ⟨z1, e1, _⟩ := DataW.trod_string Try.underlying9 g1
      simp only [List.cons.injEq, and_true] at e0 e1
      subst e0 e1
      have f0 := hcell 0 (by omega)
      have f1 := hcell 1 (by omega)
      rw [Go.Deep.add_add] at f0 f1
      exact ⟨(z0, z1), by simpa using f0, by simpa using f1⟩
    obtain ⟨q, hq⟩ := Go.Deep.choose_lt each
    refine ⟨some a, len, cap, (List.range len).map q, hcs, by simp, ?_⟩
    by_cases h0 : len = 0
    · exact Or.inl h0
    · have hc0 := (hq 0 (by omega)).1
      rw [Nat.zero_mul] at hc0
      obtain ⟨b, off, rfl, hbl⟩ := spot_noneG hc0
      refine Or.inr ⟨b, off, rfl, hbl, fun i hi => ?_⟩
      have h3 := hq i hi
      rw [addr_addG, addr_addG] at h3
      have hg : gS ((List.range len).map q) i = q i := by
        rw [gS, List.getD_eq_getElem?_getD]
        simp [hi]
      rw [hg]
      exact ⟨h3.1, by rw [Nat.add_assoc]; exact h3.2⟩
theorem array6 {α : Type} {cs : Array α} (h : cs.size = 6) : ∃ c0 c1 c2 c3 c4 c5, cs = #[c0, c1, c2, c3, c4, c5] := by
  obtain ⟨l⟩ := cs
  match l, h with
  | [c0, c1, c2, c3, c4, c5], _ => exact ⟨c0, c1, c2, c3, c4, c5, rfl⟩
set_option maxRecDepth 100000 in
theorem open_spec {r : Reach} {b0 : Nat} {v : Value} {d : DataW H} {p : List MemPlace} (hv : Value.okWide Try.prog W r b0 42 v) (h : DataW.Trod enc Try.prog W base spare held 42 v d p) : ∃ x s, v = .agg (Sv.cs x) ∧ SpAt W x s := by
  have hU := Try.underlying42
  obtain ⟨cs, rfl, hsz⟩ := okWide_struct hU hv
  have hC : Try.prog.cellsOf 42 = 6 := by kernel_rfl
  obtain ⟨v0, v1, v2, v3, v4, v5, rfl⟩ := array6 (hsz.trans hC)
  obtain ⟨fuel, hf⟩ := h
  obtain ⟨xs, n, _, _, _, hxl, hfs⟩ := DataW.trod_struct hU hf
  have hx6 : xs.length = 6 := hxl
  obtain ⟨x0, x1, x2, x3, x4, x5, rfl⟩ : ∃ x0 x1 x2 x3 x4 x5, xs = [x0, x1, x2, x3, x4, x5] := by
    match xs, hx6 with
    | [x0, x1, x2, x3, x4, x5], _ => exact ⟨x0, x1, x2, x3, x4, x5, rfl⟩
  have g0 : DataW.trod enc Try.prog W base spare held n 4 (List.take (Try.prog.cellsOf 4) (List.drop 0 [v0, v1, v2, v3, v4, v5])) = some x0 := hfs 0 _ rfl
  rw [show Try.prog.cellsOf 4 = 1 by kernel_rfl] at g0
  change DataW.trod enc Try.prog W base spare held n 4 [v0] = some x0 at g0
  have g1 : DataW.trod enc Try.prog W base spare held n 29 (List.take (Try.prog.cellsOf 29) (List.drop 1 [v0, v1, v2, v3, v4, v5])) = some x1 := hfs 1 _ rfl
  rw [show Try.prog.cellsOf 29 = 1 by kernel_rfl] at g1
  change DataW.trod enc Try.prog W base spare held n 29 [v1] = some x1 at g1
  have g2 : DataW.trod enc Try.prog W base spare held n 22 (List.take (Try.prog.cellsOf 22) (List.drop 2 [v0, v1, v2, v3, v4, v5])) = some x2 := hfs 2 _ rfl
  rw [show Try.prog.cellsOf 22 = 1 by kernel_rfl] at g2
  change DataW.trod enc Try.prog W base spare held n 22 [v2] = some x2 at g2
  have g3 : DataW.trod enc Try.prog W base spare held n 38 (List.take (Try.prog.cellsOf 38) (List.drop 3 [v0, v1, v2, v3, v4, v5])) = some x3 := hfs 3 _ rfl
  rw [show Try.prog.cellsOf 38 = 1 by kernel_rfl] at g3
  change DataW.trod enc Try.prog W base spare held n 38 [v3] = some x3 at g3
  have g4 : DataW.trod enc Try.prog W base spare held n 39 (List.take (Try.prog.cellsOf 39) (List.drop 4 [v0, v1, v2, v3, v4, v5])) = some x4 := hfs 4 _ rfl
  rw [show Try.prog.cellsOf 39 = 1 by kernel_rfl] at g4
  change DataW.trod enc Try.prog W base spare held n 39 [v4] = some x4 at g4
  have g5 : DataW.trod enc Try.prog W base spare held n 40 (List.take (Try.prog.cellsOf 40) (List.drop 5 [v0, v1, v2, v3, v4, v5])) = some x5 := hfs 5 _ rfl
  rw [show Try.prog.cellsOf 40 = 1 by kernel_rfl] at g5
  change DataW.trod enc Try.prog W base spare held n 40 [v5] = some x5 at g5
  obtain ⟨rb, hb0, _⟩ := DataW.trod_bool Try.underlying4 g0
  simp only [List.cons.injEq, and_true] at hb0
  obtain ⟨a1, n1, c1, rfl⟩ := slice_formG Try.underlying29 g1
  obtain ⟨A1, r1, z1⟩ := open_merges (d := x1.1) (ps := x1.2) ⟨n, g1⟩
  obtain ⟨a2, n2, c2, A2, rfl, r2, z2⟩ := open_textsF g2
  obtain ⟨a3, n3, c3, A3, rfl, r3⟩ := open_S Try.underlying38 Try.underlying85 (by kernel_rfl) rfl rfl rfl rfl g3
  obtain ⟨a4, n4, c4, rfl⟩ := slice_formG Try.underlying39 g4
  obtain ⟨a5, n5, c5, rfl⟩ := slice_formG Try.underlying40 g5
  subst hb0
  exact ⟨⟨rb, a1, n1, c1, a2, n2, c2, a3, n3, c3, a4, n4, c4, a5, n5, c5⟩, ⟨rb, A1, A2, A3⟩, rfl, rfl, r1, r2, r3, z1, z2⟩
end
end Go.Proofs.Ytlfffalfnnmliaa
