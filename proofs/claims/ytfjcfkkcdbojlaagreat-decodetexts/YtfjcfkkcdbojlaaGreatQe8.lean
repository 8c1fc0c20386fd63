/- Classes and joins that came in, opened. Numbers of two bytes that came in, opened. A case that came in, opened. -/
import Derived.Test.YtfjcfkkcdbojlaaGreatQa12
import Derived.Deep.Slices
import Derived.ChangeSame
import Derived.Lib.SmallJoins
import Derived.Deep.Strs
import Derived.Test.YtfjcfkkcdbojlaaGreatQa26
import Derived.Test.YtfjcfkkcdbojlaaGreatQa40
import Derived.Test.YtfjcfkkcdbojlaaGreatQa41
import Derived.SliceStrings
namespace Go.Proofs.YtfjcfkkcdbojlaaGreat.Wf.Bq
open Go.ChangeShapes Go.WideShapes Go.ChangeAt Go.RowKit
set_option linter.unusedVariables false

theorem list2b {α : Type} {l : List α} (h : l.length = 2) : ∃ a b, l = [a, b] := by
  match l, h with
  | [a, b], _ => exact ⟨a, b, rfl⟩
theorem list3b {α : Type} {l : List α} (h : l.length = 3) : ∃ a b c, l = [a, b, c] := by
  match l, h with
  | [a, b, c], _ => exact ⟨a, b, c, rfl⟩

theorem open_joins {H : Type} {enc : TypeId × Value → H} {W : World} {base : Nat} {spare : Nat → Bool} {held : Bool} {a0 : Option Addr} {len0 cap0 : Nat} {d : DataW H} {ps : List MemPlace}
    (h : DataW.Trod enc Tryz.prog W base spare held 24 (.slice a0 len0 cap0) d ps) : ∃ A, RdJ W a0 len0 A ∧ len0 ≤ 9223372036854775807 := by
  obtain ⟨fuel, hf⟩ := h
  rcases Go.Deep.open_slice Tryz.underlying24 hf with ⟨hcs, _⟩ | ⟨a, len, cap, m, n, D, Pl, hcs, hb, hl, hm, hmm, _, hx⟩
  · simp [Value.cells] at hcs
    obtain ⟨rfl, rfl, rfl⟩ := hcs
    exact ⟨[], ⟨rfl, Or.inl rfl⟩, by omega⟩
  · simp [Value.cells] at hcs
    obtain ⟨rfl, rfl, rfl⟩ := hcs
    have hle : len0 ≤ m := by rw [hmm]; split <;> omega
    have ce : Tryz.prog.cellsOf 123 = 2 := by kernel_rfl
    have each : ∀ i, i < len0 → ∃ t : Int × Int, W.cell? (a.add (i * 2)) = some (.int .i64 t.1) ∧ W.cell? (a.add (i * 2 + 1)) = some (.int .i64 t.2) := by
      intro i hi
      obtain ⟨cs', h1, h2⟩ := hx i (by omega)
      rw [ce] at h1
      obtain ⟨_, hlen, hcell⟩ := World.cells?_some h1
      obtain ⟨y0, y1, k, _, _, g0, g1⟩ := Go.ChangeShapes.trod_struct2 Tryz.underlying123 h2
      obtain ⟨v0, v1, rfl⟩ := list2b hlen
      have c0 : Tryz.prog.cellsOf 3 = 1 := by kernel_rfl
      simp [c0] at g0 g1
      obtain ⟨z0, e0, _⟩ := DataW.trod_int Tryz.underlying3 g0
      obtain ⟨z1, e1, _⟩ := DataW.trod_int Tryz.underlying3 g1
      simp only [List.cons.injEq, and_true] at e0 e1
      subst e0 e1
      have f0 := hcell 0 (by omega)
      have f1 := hcell 1 (by omega)
      rw [Go.Deep.add_add] at f0 f1
      exact ⟨(z0, z1), by simpa using f0, by simpa using f1⟩
    obtain ⟨q, hq⟩ := Go.Deep.choose_lt each
    refine ⟨(List.range len0).map (fun i => ((q i).1, (q i).2)), ⟨by simp, ?_⟩, by unfold maxLen at hm; omega⟩
    by_cases h0 : len0 = 0
    · exact Or.inl h0
    · right
      obtain ⟨b, off, spot⟩ := a
      have hs : spot = none := by
        cases spot with
        | none => rfl
        | some s =>
          exfalso
          have hc := (hq 0 (by omega)).1
          simp only [Nat.zero_mul, Addr.add, World.cell?, Option.isSome_some, if_true] at hc
          split at hc <;> cases hc
      subst hs
      refine ⟨b, off, rfl, ?_, fun i hi => ?_⟩
      · have hc := (hq 0 (by omega)).1
        have ha : (⟨b, off, none⟩ : Addr).add (0 * 2) = ⟨b, off + 0 * 2, none⟩ := by unfold Addr.add; split <;> simp_all
        rw [ha] at hc
        exact World.block_lt_of_cell? W _ hc
      have hgt : gJ ((List.range len0).map (fun i => ((q i).1, (q i).2))) i = ((q i).1, (q i).2) := by
        rw [gJ, List.getD_eq_getElem?_getD]
        simp [hi]
      have ha : ∀ k, (⟨b, off, none⟩ : Addr).add k = ⟨b, off + k, none⟩ := by
        intro k; unfold Addr.add; split <;> simp_all
      have h3 := hq i hi
      rw [ha, ha] at h3
      rw [hgt]
      exact ⟨h3.1, by rw [Nat.add_assoc]; exact h3.2⟩

theorem open_classes {H : Type} {enc : TypeId × Value → H} {W : World} {base : Nat} {spare : Nat → Bool} {held : Bool} {a0 : Option Addr} {len0 cap0 : Nat} {d : DataW H} {ps : List MemPlace}
    (h : DataW.Trod enc Tryz.prog W base spare held 23 (.slice a0 len0 cap0) d ps) : ∃ A, RdC W a0 len0 A ∧ len0 ≤ 9223372036854775807 := by
  obtain ⟨fuel, hf⟩ := h
  rcases Go.Deep.open_slice Tryz.underlying23 hf with ⟨hcs, _⟩ | ⟨a, len, cap, m, n, D, Pl, hcs, hb, hl, hm, hmm, _, hx⟩
  · simp [Value.cells] at hcs
    obtain ⟨rfl, rfl, rfl⟩ := hcs
    exact ⟨[], ⟨rfl, Or.inl rfl⟩, by omega⟩
  · simp [Value.cells] at hcs
    obtain ⟨rfl, rfl, rfl⟩ := hcs
    have hle : len0 ≤ m := by rw [hmm]; split <;> omega
    have ce : Tryz.prog.cellsOf 142 = 3 := by kernel_rfl
    have each : ∀ i, i < len0 → ∃ t : Int × Int × Int, W.cell? (a.add (i * 3)) = some (.int .i64 t.1) ∧ W.cell? (a.add (i * 3 + 1)) = some (.int .i64 t.2.1) ∧ W.cell? (a.add (i * 3 + 2)) = some (.int .i64 t.2.2) := by
      intro i hi
      obtain ⟨cs', h1, h2⟩ := hx i (by omega)
      rw [ce] at h1
      obtain ⟨_, hlen, hcell⟩ := World.cells?_some h1
      obtain ⟨y0, y1, y2, k, _, _, g0, g1, g2⟩ := Go.Deep.trod_struct3 Tryz.underlying142 h2
      obtain ⟨v0, v1, v2, rfl⟩ := list3b hlen
      have c0 : Tryz.prog.cellsOf 3 = 1 := by kernel_rfl
      simp [c0] at g0 g1 g2
      obtain ⟨z0, e0, _⟩ := DataW.trod_int Tryz.underlying3 g0
      obtain ⟨z1, e1, _⟩ := DataW.trod_int Tryz.underlying3 g1
      obtain ⟨z2, e2, _⟩ := DataW.trod_int Tryz.underlying3 g2
      simp only [List.cons.injEq, and_true] at e0 e1 e2
      subst e0 e1 e2
      have f0 := hcell 0 (by omega)
      have f1 := hcell 1 (by omega)
      have f2 := hcell 2 (by omega)
      rw [Go.Deep.add_add] at f0 f1 f2
      exact ⟨(z0, z1, z2), by simpa using f0, by simpa using f1, by simpa using f2⟩
    obtain ⟨q, hq⟩ := Go.Deep.choose_lt each
    refine ⟨(List.range len0).map (fun i => ((q i).1, (q i).2.1, (q i).2.2)), ⟨by simp, ?_⟩, by unfold maxLen at hm; omega⟩
    by_cases h0 : len0 = 0
    · exact Or.inl h0
    · right
      obtain ⟨b, off, spot⟩ := a
      have hs : spot = none := by
        cases spot with
        | none => rfl
        | some s =>
          exfalso
          have hc := (hq 0 (by omega)).1
          simp only [Nat.zero_mul, Addr.add, World.cell?, Option.isSome_some, if_true] at hc
          split at hc <;> cases hc
      subst hs
      have ha : ∀ k, (⟨b, off, none⟩ : Addr).add k = ⟨b, off + k, none⟩ := by
        intro k; unfold Addr.add; split <;> simp_all
      refine ⟨b, off, rfl, ?_, fun i hi => ?_⟩
      · have hc := (hq 0 (by omega)).1
        rw [ha] at hc
        exact World.block_lt_of_cell? W _ hc
      have hgt : gC ((List.range len0).map (fun i => ((q i).1, (q i).2.1, (q i).2.2))) i = ((q i).1, (q i).2.1, (q i).2.2) := by
        rw [gC, List.getD_eq_getElem?_getD]
        simp [hi]
      have h3 := hq i hi
      rw [ha, ha, ha] at h3
      rw [hgt]
      exact ⟨h3.1, by rw [Nat.add_assoc]; exact h3.2.1, by rw [Nat.add_assoc]; exact h3.2.2⟩

end Go.Proofs.YtfjcfkkcdbojlaaGreat.Wf.Bq

namespace Go.Proofs.YtfjcfkkcdbojlaaGreat
open Go.ChangeShapes Go.WideShapes Go.ChangeAt Go.RowKit
set_option linter.unusedVariables false

theorem open_halves {H : Type} {enc : TypeId × Value → H} {W : World} {base : Nat} {spare : Nat → Bool} {held : Bool} {a0 : Option Addr} {len0 cap0 : Nat} {d : DataW H} {ps : List MemPlace}
    (h : DataW.Trod enc Tryz.prog W base spare held 22 (.slice a0 len0 cap0) d ps) : ∃ A, ReadsH W a0 len0 A ∧ len0 ≤ 9223372036854775807 := by
  obtain ⟨fuel, hf⟩ := h
  rcases Go.Deep.open_slice Tryz.underlying22 hf with ⟨hcs, _⟩ | ⟨a, len, cap, m, n, D, Pl, hcs, hb, hl, hm, hmm, _, hx⟩
  · simp [Value.cells] at hcs
    obtain ⟨rfl, rfl, rfl⟩ := hcs
    exact ⟨[], ⟨rfl, fun i => by simp [gi], Or.inl rfl⟩, by omega⟩
  · simp [Value.cells] at hcs
    obtain ⟨rfl, rfl, rfl⟩ := hcs
    have hle : len0 ≤ m := by rw [hmm]; split <;> omega
    have ce : Tryz.prog.cellsOf 190 = 1 := by kernel_rfl
    have each : ∀ i, i < len0 → ∃ t : Int, W.cell? (a.add i) = some (.int .u16 t) ∧ 0 ≤ t ∧ t < 65536 := by
      intro i hi
      obtain ⟨cs', h1, h2⟩ := hx i (by omega)
      rw [ce] at h1
      obtain ⟨_, hlen, hcell⟩ := World.cells?_some h1
      obtain ⟨z0, e0, hz⟩ := DataW.trod_int Tryz.underlying190 h2
      subst e0
      have f0 := hcell 0 (by omega)
      rw [Go.Deep.add_add] at f0
      refine ⟨z0, by simpa using f0, ?_⟩
      have hw := hz.2
      simp [Lit.wf] at hw
      have e1 : IntKind.u16.min = 0 := by decide
      have e2 : IntKind.u16.max = 65535 := by decide
      omega
    obtain ⟨q, hq⟩ := Go.Deep.choose_lt each
    refine ⟨(List.range len0).map q, ⟨by simp, ?_, ?_⟩, by unfold maxLen at hm; omega⟩
    · intro i
      by_cases hi : i < len0
      · have hgt : gi ((List.range len0).map q) i = q i := by
          rw [gi, List.getD_eq_getElem?_getD]
          simp [hi]
        rw [hgt]
        exact (hq i hi).2
      · have hgt : gi ((List.range len0).map q) i = 0 := by
          rw [gi, List.getD_eq_getElem?_getD]
          simp [hi]
        rw [hgt]
        omega
    by_cases h0 : len0 = 0
    · exact Or.inl h0
    · right
      obtain ⟨b, off, spot⟩ := a
      have hs : spot = none := by
        cases spot with
        | none => rfl
        | some s =>
          exfalso
          have hc := (hq 0 (by omega)).1
          simp only [Addr.add, World.cell?, Option.isSome_some, if_true] at hc
          split at hc <;> cases hc
      subst hs
      refine ⟨b, off, rfl, fun i hi => ?_⟩
      have hgt : gi ((List.range len0).map q) i = q i := by
        rw [gi, List.getD_eq_getElem?_getD]
        simp [hi]
      have ha : ∀ k, (⟨b, off, none⟩ : Addr).add k = ⟨b, off + k, none⟩ := by
        intro k; unfold Addr.add; split <;> simp_all
      have h3 := (hq i hi).1
      rw [ha] at h3
      rw [hgt]
      exact h3

end Go.Proofs.YtfjcfkkcdbojlaaGreat

namespace Go.Proofs.YtfjcfkkcdbojlaaGreat
open Go.ChangeShapes Go.WideShapes Go.ChangeAt Go.RowKit
set_option linter.unusedVariables false

section
variable {H : Type} {enc : TypeId × Value → H} {W : World} {base : Nat} {spare : Nat → Bool} {held : Bool}
theorem array4c {α : Type} {cs : Array α} (h : cs.size = 4) : ∃ c0 c1 c2 c3, cs = #[c0, c1, c2, c3] := by
  obtain ⟨l⟩ := cs
  match l, h with
  | [c0, c1, c2, c3], _ => exact ⟨c0, c1, c2, c3, rfl⟩
theorem slice_form {T E : TypeId} (hT : Tryz.prog.underlying T = some (.slice E)) {v : Value} {fuel : Nat} {y : DataW H × List MemPlace} (h : DataW.trod enc Tryz.prog W base spare held fuel T [v] = some y) : ∃ ao n cap, v = .slice ao n cap ∧ n ≤ cap ∧ DataW.Trod enc Tryz.prog W base spare held T v y.1 y.2 := by
  have ht : ∀ v', [v'] = [v] → (v'.cells.toList = [v']) → DataW.Trod enc Tryz.prog W base spare held T v y.1 y.2 := fun v' e e2 => by
    simp only [List.cons.injEq, and_true] at e
    subst e
    exact ⟨fuel, by rw [e2]; exact h⟩
  rcases Go.Deep.open_slice hT h with ⟨hcs, _⟩ | ⟨a, len, cap, m, n, D, Pl, hcs, hb, hl, _⟩
  · have h2 := ht (.slice none 0 0) hcs.symm (by simp [Value.cells])
    simp only [List.cons.injEq, and_true] at hcs
    exact ⟨_, _, _, hcs, Nat.le_refl _, h2⟩
  · have h2 := ht (.slice (some a) len cap) hcs.symm (by simp [Value.cells])
    simp only [List.cons.injEq, and_true] at hcs
    exact ⟨_, _, _, hcs, hl, h2⟩
theorem slice_le {t E : TypeId} (ht : Tryz.prog.underlying t = some (.slice E)) {a0 : Option Addr} {len0 cap0 : Nat} {d : DataW H} {ps : List MemPlace}
    (h : DataW.Trod enc Tryz.prog W base spare held t (.slice a0 len0 cap0) d ps) : len0 ≤ cap0 := by
  obtain ⟨fuel, hf⟩ := h
  rcases Go.Deep.open_slice ht hf with ⟨hcs, _⟩ | ⟨a, len, cap, m, n, D, Pl, hcs, hb, hl, _⟩
  · simp [Value.cells] at hcs
    obtain ⟨rfl, rfl, rfl⟩ := hcs
    omega
  · simp [Value.cells] at hcs
    obtain ⟨rfl, rfl, rfl⟩ := hcs
    exact hl
set_option maxRecDepth 100000 in
theorem open_case {r : Reach} {b0 : Nat} {v : Value} {d : DataW H} {p : List MemPlace} (hv : Value.okWide Tryz.prog W r b0 27 v) (h : DataW.Trod enc Tryz.prog W base spare held 27 v d p) : ∃ c : CsR, v = .agg c.cells ∧ CsAt c W := by
  have hU := Tryz.underlying27
  obtain ⟨cs, rfl, hsz⟩ := okWide_struct hU hv
  have hC : Tryz.prog.cellsOf 27 = 4 := by kernel_rfl
  obtain ⟨v0, v1, v2, v3, rfl⟩ := array4c (hsz.trans hC)
  obtain ⟨fuel, hf⟩ := h
  obtain ⟨xs, n, _, _, _, hxl, hfs⟩ := DataW.trod_struct hU hf
  have hx4 : xs.length = 4 := hxl
  obtain ⟨x0, x1, x2, x3, rfl⟩ : ∃ x0 x1 x2 x3, xs = [x0, x1, x2, x3] := by
    match xs, hx4 with
    | [x0, x1, x2, x3], _ => exact ⟨x0, x1, x2, x3, rfl⟩
  have g0 : DataW.trod enc Tryz.prog W base spare held n 22 (List.take (Tryz.prog.cellsOf 22) (List.drop 0 [v0, v1, v2, v3])) = some x0 := hfs 0 _ rfl
  rw [show Tryz.prog.cellsOf 22 = 1 by kernel_rfl] at g0
  change DataW.trod enc Tryz.prog W base spare held n 22 [v0] = some x0 at g0
  have g1 : DataW.trod enc Tryz.prog W base spare held n 23 (List.take (Tryz.prog.cellsOf 23) (List.drop 1 [v0, v1, v2, v3])) = some x1 := hfs 1 _ rfl
  rw [show Tryz.prog.cellsOf 23 = 1 by kernel_rfl] at g1
  change DataW.trod enc Tryz.prog W base spare held n 23 [v1] = some x1 at g1
  have g2 : DataW.trod enc Tryz.prog W base spare held n 24 (List.take (Tryz.prog.cellsOf 24) (List.drop 2 [v0, v1, v2, v3])) = some x2 := hfs 2 _ rfl
  rw [show Tryz.prog.cellsOf 24 = 1 by kernel_rfl] at g2
  change DataW.trod enc Tryz.prog W base spare held n 24 [v2] = some x2 at g2
  have g3 : DataW.trod enc Tryz.prog W base spare held n 25 (List.take (Tryz.prog.cellsOf 25) (List.drop 3 [v0, v1, v2, v3])) = some x3 := hfs 3 _ rfl
  rw [show Tryz.prog.cellsOf 25 = 1 by kernel_rfl] at g3
  change DataW.trod enc Tryz.prog W base spare held n 25 [v3] = some x3 at g3
  obtain ⟨a0, n0, c0, rfl, l0, t0⟩ := slice_form Tryz.underlying22 g0
  obtain ⟨a1, n1, c1, rfl, l1, t1⟩ := slice_form Tryz.underlying23 g1
  obtain ⟨a2, n2, c2, rfl, l2, t2⟩ := slice_form Tryz.underlying24 g2
  obtain ⟨a3, n3, c3, rfl, l3, t3⟩ := slice_form Tryz.underlying25 g3
  obtain ⟨A0, r0, _⟩ := open_halves t0
  obtain ⟨A1, r1, _⟩ := Wf.Bq.open_classes t1
  obtain ⟨A2, r2, _⟩ := Wf.Bq.open_joins t2
  obtain ⟨A3, r3, m3⟩ := Mk.open_specials t3
  exact ⟨⟨a0, n0, c0, A0, a1, n1, c1, A1, a2, n2, c2, A2, a3, n3, c3, A3⟩, rfl, r0, r1, l1, r2, l2, r3, m3⟩
end
end Go.Proofs.YtfjcfkkcdbojlaaGreat
