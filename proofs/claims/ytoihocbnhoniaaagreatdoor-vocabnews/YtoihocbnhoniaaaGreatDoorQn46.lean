/- A spec that came in, opened. -/
import Derived.Test.YtoihocbnhoniaaaGreatDoorQn8
import Derived.Deep.Slices
import Derived.ChangeSame
import Derived.Lib.SmallJoins
import Derived.Deep.Strs
import Derived.SliceStrings
namespace Go.Proofs.YtoihocbnhoniaaaGreatDoor.Wf
open Go.ChangeShapes Go.WideShapes Go.ChangeAt Go.RowKit
set_option linter.unusedVariables false

section
variable {H : Type} {enc : TypeId × Value → H} {W : World} {base : Nat} {spare : Nat → Bool} {held : Bool}

theorem list2' {α : Type} {l : List α} (h : l.length = 2) : ∃ a b, l = [a, b] := by
  match l, h with
  | [a, b], _ => exact ⟨a, b, rfl⟩
theorem list3' {α : Type} {l : List α} (h : l.length = 3) : ∃ a b c, l = [a, b, c] := by
  match l, h with
  | [a, b, c], _ => exact ⟨a, b, c, rfl⟩
theorem addr_add (b off k : Nat) : (⟨b, off, none⟩ : Addr).add k = ⟨b, off + k, none⟩ := by unfold Addr.add; split <;> simp_all
theorem spot_none {a : Addr} {v : Value} (hc : W.cell? (a.add 0) = some v) : ∃ b off, a = ⟨b, off, none⟩ ∧ b < W.heap.size := by
  obtain ⟨b, off, spot⟩ := a
  have hs : spot = none := by
    cases spot with
    | none => rfl
    | some s =>
      exfalso
      simp only [Addr.add, World.cell?, Option.isSome_some, if_true] at hc
      split at hc <;> cases hc
  subst hs
  refine ⟨b, off, rfl, ?_⟩
  rw [addr_add] at hc
  exact World.block_lt_of_cell? W _ hc

theorem open_M {T E : TypeId} {f0 f1 : Field} (hT : Tryz.prog.underlying T = some (.slice E)) (hE : Tryz.prog.underlying E = some (.struct #[f0, f1])) (ce : Tryz.prog.cellsOf E = 2) (t0 : f0.type = 3) (t1 : f1.type = 3) (o0 : f0.offset = 0) (o1 : f1.offset = 1) {v : Value} {fuel : Nat} {y : DataW H × List MemPlace}
    (h : DataW.trod enc Tryz.prog W base spare held fuel T [v] = some y) : ∃ ao n cap A, v = .slice ao n cap ∧ RdM W ao n A := by
  rcases Go.Deep.open_slice hT h with ⟨hcs, _⟩ | ⟨a, len, cap, m, n, D, Pl, hcs, hb, hl, hm, hmm, _, hx⟩
  · simp only [List.cons.injEq, and_true] at hcs
    exact ⟨none, 0, 0, [], hcs, rfl, Or.inl rfl⟩
  · simp only [List.cons.injEq, and_true] at hcs
    have hle : len ≤ m := by rw [hmm]; split <;> omega
    have each : ∀ i, i < len → ∃ t : Int × Int, W.cell? (a.add (i * 2)) = some (.int .i64 t.1) ∧ W.cell? (a.add (i * 2 + 1)) = some (.int .i64 t.2) := by
      intro i hi
      obtain ⟨cs', h1, h2⟩ := hx i (by omega)
      rw [ce] at h1
      obtain ⟨_, hlen, hcell⟩ := World.cells?_some h1
      obtain ⟨y0, y1, k, _, _, g0, g1⟩ := Go.ChangeShapes.trod_struct2 hE h2
      obtain ⟨v0, v1, rfl⟩ := list2' hlen
      have c0 : Tryz.prog.cellsOf 3 = 1 := by kernel_rfl
      rw [t0, o0, c0] at g0
      rw [t1, o1, c0] at g1
      simp at g0 g1
      obtain ⟨z0, e0, _⟩ := DataW.trod_int Tryz.underlying3 g0
      obtain ⟨z1, e1, _⟩ := DataW.trod_int Tryz.underlying3 g1
      simp only [List.cons.injEq, and_true] at e0 e1
      subst e0 e1
      have f0 := hcell 0 (by omega)
      have f1 := hcell 1 (by omega)
      rw [Go.Deep.add_add] at f0 f1
      exact ⟨(z0, z1), by simpa using f0, by simpa using f1⟩
    obtain ⟨q, hq⟩ := Go.Deep.choose_lt each
    refine ⟨some a, len, cap, (List.range len).map q, hcs, by simp, ?_⟩
    by_cases h0 : len = 0
    · exact Or.inl h0
    · have hc0 := (hq 0 (by omega)).1
      rw [Nat.zero_mul] at hc0
      obtain ⟨b, off, rfl, hbl⟩ := spot_none hc0
      refine Or.inr ⟨b, off, rfl, hbl, fun i hi => ?_⟩
      have h3 := hq i hi
      rw [addr_add, addr_add] at h3
      have hg : gM ((List.range len).map q) i = q i := by
        rw [gM, List.getD_eq_getElem?_getD]
        simp [hi]
      rw [hg]
      exact ⟨h3.1, by rw [Nat.add_assoc]; exact h3.2⟩
theorem open_S {T E : TypeId} {f0 f1 : Field} (hT : Tryz.prog.underlying T = some (.slice E)) (hE : Tryz.prog.underlying E = some (.struct #[f0, f1])) (ce : Tryz.prog.cellsOf E = 2) (t0 : f0.type = 3) (t1 : f1.type = 9) (o0 : f0.offset = 0) (o1 : f1.offset = 1) {v : Value} {fuel : Nat} {y : DataW H × List MemPlace}
    (h : DataW.trod enc Tryz.prog W base spare held fuel T [v] = some y) : ∃ ao n cap A, v = .slice ao n cap ∧ RdS W ao n A := by
  rcases Go.Deep.open_slice hT h with ⟨hcs, _⟩ | ⟨a, len, cap, m, n, D, Pl, hcs, hb, hl, hm, hmm, _, hx⟩
  · simp only [List.cons.injEq, and_true] at hcs
    exact ⟨none, 0, 0, [], hcs, rfl, Or.inl rfl⟩
  · simp only [List.cons.injEq, and_true] at hcs
    have hle : len ≤ m := by rw [hmm]; split <;> omega
    have each : ∀ i, i < len → ∃ t : Int × ByteArray, W.cell? (a.add (i * 2)) = some (.int .i64 t.1) ∧ W.cell? (a.add (i * 2 + 1)) = some (.string t.2) := by
      intro i hi
      obtain ⟨cs', h1, h2⟩ := hx i (by omega)
      rw [ce] at h1
      obtain ⟨_, hlen, hcell⟩ := World.cells?_some h1
      obtain ⟨y0, y1, k, _, _, g0, g1⟩ := Go.ChangeShapes.trod_struct2 hE h2
      obtain ⟨v0, v1, rfl⟩ := list2' hlen
      have c0 : Tryz.prog.cellsOf 3 = 1 := by kernel_rfl
      have c9 : Tryz.prog.cellsOf 9 = 1 := by kernel_rfl
      rw [t0, o0, c0] at g0
      rw [t1, o1, c9] at g1
      simp at g0 g1
      obtain ⟨z0, e0, _⟩ := DataW.trod_int Tryz.underlying3 g0
      obtain ⟨z1, e1, _⟩ := DataW.trod_string Tryz.underlying9 g1
      simp only [List.cons.injEq, and_true] at e0 e1
      subst e0 e1
      have f0 := hcell 0 (by omega)
      have f1 := hcell 1 (by omega)
      rw [Go.Deep.add_add] at f0 f1
      exact ⟨(z0, z1), by simpa using f0, by simpa using f1⟩
    obtain ⟨q, hq⟩ := Go.Deep.choose_lt each
    refine ⟨some a, len, cap, (List.range len).map q, hcs, by simp, ?_⟩
    by_cases h0 : len = 0
    · exact Or.inl h0
    · have hc0 := (hq 0 (by omega)).1
      rw [Nat.zero_mul] at hc0
      obtain ⟨b, off, rfl, hbl⟩ := spot_none hc0
      refine Or.inr ⟨b, off, rfl, hbl, fun i hi => ?_⟩
      have h3 := hq i hi
      rw [addr_add, addr_add] at h3
      have hg : gS ((List.range len).map q) i = q i := by
        rw [gS, List.getD_eq_getElem?_getD]
        simp [hi]
      rw [hg]
      exact ⟨h3.1, by rw [Nat.add_assoc]; exact h3.2⟩
theorem open_C {T E : TypeId} {f0 f1 f2 : Field} (hT : Tryz.prog.underlying T = some (.slice E)) (hE : Tryz.prog.underlying E = some (.struct #[f0, f1, f2])) (ce : Tryz.prog.cellsOf E = 3) (t0 : f0.type = 3) (t1 : f1.type = 3) (t2 : f2.type = 3) (o0 : f0.offset = 0) (o1 : f1.offset = 1) (o2 : f2.offset = 2) {v : Value} {fuel : Nat} {y : DataW H × List MemPlace}
    (h : DataW.trod enc Tryz.prog W base spare held fuel T [v] = some y) : ∃ ao n cap A, v = .slice ao n cap ∧ RdC W ao n A := by
  rcases Go.Deep.open_slice hT h with ⟨hcs, _⟩ | ⟨a, len, cap, m, n, D, Pl, hcs, hb, hl, hm, hmm, _, hx⟩
  · simp only [List.cons.injEq, and_true] at hcs
    exact ⟨none, 0, 0, [], hcs, rfl, Or.inl rfl⟩
  · simp only [List.cons.injEq, and_true] at hcs
    have hle : len ≤ m := by rw [hmm]; split <;> omega
    have each : ∀ i, i < len → ∃ t : Int × Int × Int, W.cell? (a.add (i * 3)) = some (.int .i64 t.1) ∧ W.cell? (a.add (i * 3 + 1)) = some (.int .i64 t.2.1) ∧ W.cell? (a.add (i * 3 + 2)) = some (.int .i64 t.2.2) := by
      intro i hi
      obtain ⟨cs', h1, h2⟩ := hx i (by omega)
      rw [ce] at h1
      obtain ⟨_, hlen, hcell⟩ := World.cells?_some h1
      obtain ⟨y0, y1, y2, k, _, _, g0, g1, g2⟩ := Go.Deep.trod_struct3 hE h2
      obtain ⟨v0, v1, v2, rfl⟩ := list3' hlen
      have c0 : Tryz.prog.cellsOf 3 = 1 := by kernel_rfl
      rw [t0, o0, c0] at g0
      rw [t1, o1, c0] at g1
      rw [t2, o2, c0] at g2
      simp at g0 g1 g2
      obtain ⟨z0, e0, _⟩ := DataW.trod_int Tryz.underlying3 g0
      obtain ⟨z1, e1, _⟩ := DataW.trod_int Tryz.underlying3 g1
      obtain ⟨z2, e2, _⟩ := DataW.trod_int Tryz.underlying3 g2
      simp only [List.cons.injEq, and_true] at e0 e1 e2
      subst e0 e1 e2
      have f0 := hcell 0 (by omega)
      have f1 := hcell 1 (by omega)
      have f2 := hcell 2 (by omega)
      rw [Go.Deep.add_add] at f0 f1 f2
      exact ⟨(z0, z1, z2), by simpa using f0, by simpa using f1, by simpa using f2⟩
    obtain ⟨q, hq⟩ := Go.Deep.choose_lt each
    refine ⟨some a, len, cap, (List.range len).map q, hcs, by simp, ?_⟩
    by_cases h0 : len = 0
    · exact Or.inl h0
    · have hc0 := (hq 0 (by omega)).1
      rw [Nat.zero_mul] at hc0
      obtain ⟨b, off, rfl, hbl⟩ := spot_none hc0
      refine Or.inr ⟨b, off, rfl, hbl, fun i hi => ?_⟩
      have h3 := hq i hi
      rw [addr_add, addr_add, addr_add] at h3
      have hg : gC ((List.range len).map q) i = q i := by
        rw [gC, List.getD_eq_getElem?_getD]
        simp [hi]
      rw [hg]
      exact ⟨h3.1, by rw [Nat.add_assoc]; exact h3.2.1, by rw [Nat.add_assoc]; exact h3.2.2⟩
theorem open_T {v : Value} {fuel : Nat} {y : DataW H × List MemPlace} (h : DataW.trod enc Tryz.prog W base spare held fuel 23 [v] = some y) : ∃ ao n cap A, v = .slice ao n cap ∧ RdT W ao n A := by
  rcases open_strings Tryz.underlying23 Tryz.underlying9 (by kernel_rfl) h with ⟨hcs, _⟩ | ⟨a, len, cap, zs, hcs, _, hl, hm, hz, _, hcell, _⟩
  · simp only [List.cons.injEq, and_true] at hcs
    exact ⟨none, 0, 0, [], hcs, rfl, Or.inl rfl⟩
  · simp only [List.cons.injEq, and_true] at hcs
    have hle : len ≤ zs.length := by rw [hz]; split <;> omega
    refine ⟨some a, len, cap, zs.take len, hcs, by rw [List.length_take]; omega, ?_⟩
    by_cases h0 : len = 0
    · exact Or.inl h0
    · obtain ⟨b, off, rfl, hbl⟩ := spot_none (hcell 0 (by omega))
      refine Or.inr ⟨b, off, rfl, hbl, fun i hi => ?_⟩
      have h3 := hcell i (by omega)
      rw [addr_add] at h3
      rw [h3]
      congr 2
      unfold gT
      rw [List.getD_eq_getElem?_getD, List.getD_eq_getElem?_getD, List.getElem?_take_of_lt hi]
      rfl
theorem array6 {α : Type} {cs : Array α} (h : cs.size = 6) : ∃ c0 c1 c2 c3 c4 c5, cs = #[c0, c1, c2, c3, c4, c5] := by
  obtain ⟨l⟩ := cs
  match l, h with
  | [c0, c1, c2, c3, c4, c5], _ => exact ⟨c0, c1, c2, c3, c4, c5, rfl⟩
set_option maxRecDepth 100000 in
theorem open_spec {r : Reach} {b0 : Nat} {v : Value} {d : DataW H} {p : List MemPlace} (hv : Value.okWide Tryz.prog W r b0 28 v) (h : DataW.Trod enc Tryz.prog W base spare held 28 v d p) : ∃ x s, v = .agg (Sv.cs x) ∧ SpAt W x s := by
  have hU := Tryz.underlying28
  obtain ⟨cs, rfl, hsz⟩ := okWide_struct hU hv
  have hC : Tryz.prog.cellsOf 28 = 6 := by kernel_rfl
  obtain ⟨v0, v1, v2, v3, v4, v5, rfl⟩ := array6 (hsz.trans hC)
  obtain ⟨fuel, hf⟩ := h
  obtain ⟨xs, n, _, _, _, hxl, hfs⟩ := DataW.trod_struct hU hf
  have hx6 : xs.length = 6 := hxl
  obtain ⟨x0, x1, x2, x3, x4, x5, rfl⟩ : ∃ x0 x1 x2 x3 x4 x5, xs = [x0, x1, x2, x3, x4, x5] := by
    match xs, hx6 with
    | [x0, x1, x2, x3, x4, x5], _ => exact ⟨x0, x1, x2, x3, x4, x5, rfl⟩
  have g0 : DataW.trod enc Tryz.prog W base spare held n 4 (List.take (Tryz.prog.cellsOf 4) (List.drop 0 [v0, v1, v2, v3, v4, v5])) = some x0 := hfs 0 _ rfl
  rw [show Tryz.prog.cellsOf 4 = 1 by kernel_rfl] at g0
  change DataW.trod enc Tryz.prog W base spare held n 4 [v0] = some x0 at g0
  have g1 : DataW.trod enc Tryz.prog W base spare held n 22 (List.take (Tryz.prog.cellsOf 22) (List.drop 1 [v0, v1, v2, v3, v4, v5])) = some x1 := hfs 1 _ rfl
  rw [show Tryz.prog.cellsOf 22 = 1 by kernel_rfl] at g1
  change DataW.trod enc Tryz.prog W base spare held n 22 [v1] = some x1 at g1
  have g2 : DataW.trod enc Tryz.prog W base spare held n 23 (List.take (Tryz.prog.cellsOf 23) (List.drop 2 [v0, v1, v2, v3, v4, v5])) = some x2 := hfs 2 _ rfl
  rw [show Tryz.prog.cellsOf 23 = 1 by kernel_rfl] at g2
  change DataW.trod enc Tryz.prog W base spare held n 23 [v2] = some x2 at g2
  have g3 : DataW.trod enc Tryz.prog W base spare held n 24 (List.take (Tryz.prog.cellsOf 24) (List.drop 3 [v0, v1, v2, v3, v4, v5])) = some x3 := hfs 3 _ rfl
  rw [show Tryz.prog.cellsOf 24 = 1 by kernel_rfl] at g3
  change DataW.trod enc Tryz.prog W base spare held n 24 [v3] = some x3 at g3
  have g4 : DataW.trod enc Tryz.prog W base spare held n 25 (List.take (Tryz.prog.cellsOf 25) (List.drop 4 [v0, v1, v2, v3, v4, v5])) = some x4 := hfs 4 _ rfl
  rw [show Tryz.prog.cellsOf 25 = 1 by kernel_rfl] at g4
  change DataW.trod enc Tryz.prog W base spare held n 25 [v4] = some x4 at g4
  have g5 : DataW.trod enc Tryz.prog W base spare held n 26 (List.take (Tryz.prog.cellsOf 26) (List.drop 5 [v0, v1, v2, v3, v4, v5])) = some x5 := hfs 5 _ rfl
  rw [show Tryz.prog.cellsOf 26 = 1 by kernel_rfl] at g5
  change DataW.trod enc Tryz.prog W base spare held n 26 [v5] = some x5 at g5
  obtain ⟨rb, hb0, _⟩ := DataW.trod_bool Tryz.underlying4 g0
  simp only [List.cons.injEq, and_true] at hb0
  obtain ⟨a1, n1, c1, A1, rfl, r1⟩ := open_M Tryz.underlying22 Tryz.underlying70 (by kernel_rfl) rfl rfl rfl rfl g1
  obtain ⟨a2, n2, c2, A2, rfl, r2⟩ := open_T g2
  obtain ⟨a3, n3, c3, A3, rfl, r3⟩ := open_S Tryz.underlying24 Tryz.underlying67 (by kernel_rfl) rfl rfl rfl rfl g3
  obtain ⟨a4, n4, c4, A4, rfl, r4⟩ := open_C Tryz.underlying25 Tryz.underlying72 (by kernel_rfl) rfl rfl rfl rfl rfl rfl g4
  obtain ⟨a5, n5, c5, A5, rfl, r5⟩ := open_M Tryz.underlying26 Tryz.underlying93 (by kernel_rfl) rfl rfl rfl rfl g5
  subst hb0
  exact ⟨⟨rb, a1, n1, c1, a2, n2, c2, a3, n3, c3, a4, n4, c4, a5, n5, c5⟩, ⟨rb, A1, A2, A3, A4, A5⟩, rfl, rfl, r1, r2, r3, r4, r5⟩
end
end Go.Proofs.YtoihocbnhoniaaaGreatDoor.Wf
