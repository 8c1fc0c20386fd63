/- Rows of numbers, as they lie in memory. -/
import Derived.Test.YtadbffphmmkljaaTkM
import Derived.Test.YtadbffphmmkljaaProg
import Derived.DeepKeys4
import Derived.BigQuiet
import Derived.Lib.AppendZeros
namespace Go.Proofs.Ytadbffphmmkljaa.Mk
open Go.RowKit Go.Maps
set_option linter.unusedVariables false
set_option linter.unusedSimpArgs false

theorem low1 (w : World) (o : Obj) : Below w.heap.size w (w.alloc o) := (Below.refl _ _).alloc (Nat.le_refl _) _
theorem lowD {B : Nat} {w w' : World} (h : Below B w w') (n : Nat) : Below B w (w'.drewN n) := h.trans ⟨rfl, rfl, rfl, Nat.le_refl _, fun _ _ => rfl⟩
theorem cell_lt {W : World} {b o : Nat} {v : Value} (h : W.cell? ⟨b, o, none⟩ = some v) : b < W.heap.size := by
  rcases Nat.lt_or_ge b W.heap.size with hb | hb
  · exact hb
  · simp [World.cell?, Array.getElem?_eq_none hb] at h
theorem row_form {w : World} {B : Nat} {E : TypeId} {size : Nat} {v : Value} {n : Nat} {xs : List Value} (h : w.ownsRow B E size v n xs) : ∃ ao cap, v = .slice ao n cap := by
  rcases h.2 with ⟨rfl, h0⟩ | ⟨g, cap, cur, rfl, _⟩
  · exact ⟨none, 0, by rw [h0]⟩
  · exact ⟨_, cap, rfl⟩
theorem row_below {w w' : World} {B B2 : Nat} {E : TypeId} {size : Nat} {v : Value} {n : Nat} {xs : List Value} (h : w.ownsRow B E size v n xs) (hb : Below B2 w w') (hv : ∀ k, v.ownBlock = some k → k < B2) : w'.ownsRow B E size v n xs := by
  refine ⟨h.1, ?_⟩
  rcases h.2 with hn | ⟨g, cap, cur, rfl, hb1, hgg, rest⟩
  · exact .inl hn
  · refine .inr ⟨g, cap, cur, rfl, hb1, ?_, rest⟩
    rw [hb.block g (hv g rfl)]
    exact hgg
theorem row_keptB {w w' : World} {B : Nat} {E : TypeId} {size : Nat} {v : Value} {n : Nat} {xs : List Value} (h : w.ownsRow B E size v n xs) (hb : Below w.heap.size w w') : w'.ownsRow B E size v n xs :=
  row_below h hb (fun k hk => (h.lt k hk).2)

/- Numbers. -/
theorem info_int : (Try.prog.info? 3).map (fun i => (i.zero, i.size, i.bytes)) = some (some (.int .i64 0), 1, 8) := by kernel_rfl
def iv (l : List Int) : List Value := l.map (Value.int .i64)
theorem iv_len (l : List Int) : (iv l).length = l.length := by simp [iv]
theorem iv_append (l m : List Int) : iv (l ++ m) = iv l ++ iv m := by simp [iv]
def gI (l : List Int) (i : Nat) : Int := l.getD i 0
theorem iv_at (l : List Int) {i : Nat} (h : i < l.length) : (iv l)[i]? = some (.int .i64 (gI l i)) := by
  simp [iv, gI, List.getD_eq_getElem?_getD, List.getElem?_eq_getElem h]
theorem take_succ_gI (l : List Int) {k : Nat} (h : k < l.length) : l.take (k + 1) = l.take k ++ [gI l k] := by
  rw [List.take_succ_eq_append_getElem h, gI, List.getD_eq_getElem?_getD, List.getElem?_eq_getElem h]
  rfl
theorem row_at {w : World} {base : Nat} {v : Value} {l : List Int} (h : w.ownsRow base 3 1 v l.length (iv l)) {i : Nat} (hi : i < l.length) : ∃ g cap, v = .slice (some ⟨g, 0, none⟩) l.length cap ∧ g < w.heap.size ∧ w.cell? ⟨g, i, none⟩ = some (.int .i64 (gI l i)) := by
  obtain ⟨g, cap, rfl, _, hg⟩ := h.form (by omega)
  exact ⟨g, cap, rfl, hg, by rw [h.cellAt i (by omega)]; exact iv_at l hi⟩
/-- A number is put behind others. -/
theorem app_int (w : World) (base : Nat) (ao : Option Addr) (n cap : Nat) (l : List Int) (x : Int) (h : w.ownsRow base 3 1 (.slice ao n cap) n (iv l)) (hn : n ≤ 1000000) (hb : base ≤ w.heap.size) :
    ∃ g cap1 w1, (Builtin.append_ #[35, 35] 35 #[.slice ao n cap, .slice (some ⟨w.heap.size, 0, none⟩) 1 1]).run Try.prog (w.alloc (.cells #[.int .i64 x] 3)) = .ok (.slice (some ⟨g, 0, none⟩) (n + 1) cap1) w1 ∧ w1.ownsRow base 3 1 (.slice (some ⟨g, 0, none⟩) (n + 1) cap1) (n + 1) (iv (l ++ [x])) ∧ Below base w w1 := by
  obtain ⟨i0, hi, hz0, hz1, hz2⟩ := info_parts info_int
  obtain ⟨g, cap1, w1, hrun, hown, hgrow, _, _⟩ := run_append_lies (P := Try.prog) (w.alloc (.cells #[.int .i64 x] 3)) 35 35 base 3 i0 _ 1 8 Try.underlying35 hi hz0 hz1 hz2 rfl (by omega) (.slice ao n cap) n (iv l) (h.alloc _) ⟨w.heap.size, 0, none⟩ 1 1 [.int .i64 x] rfl (World.news_of_block (heap_alloc_new w _)) (by simp [Value.oneCell']) (by omega) (by unfold maxLen; omega) (by omega) (by simp; omega) (w.heap.size + 1) (by simp)
  refine ⟨g, cap1, w1, hrun, by rw [iv_append]; exact hown, ?_⟩
  have h1 : Below base w (w.alloc (.cells #[.int .i64 x] 3)) := (low1 w _).mono hb
  exact h1.trans ⟨hgrow.os, hgrow.tape, hgrow.output, hgrow.size, fun k hk => hgrow.block k (by simp; omega) (fun e => by have := (h.lt k e.symm).1; omega)⟩
/-- Numbers that are read. -/
def RdI (w : World) (ao : Option Addr) (n : Nat) (l : List Int) : Prop := l.length = n ∧ (n = 0 ∨ ∃ b off, ao = some ⟨b, off, none⟩ ∧ b < w.heap.size ∧ ∀ i, i < n → w.cell? ⟨b, off + i, none⟩ = some (.int .i64 (gI l i)))
theorem RdI.kept {w w' : World} {ao : Option Addr} {n : Nat} {l : List Int} (h : RdI w ao n l) (hb : Below w.heap.size w w') : RdI w' ao n l := by
  refine ⟨h.1, ?_⟩
  rcases h.2 with h0 | ⟨b, off, rfl, hlt, hc⟩
  · exact Or.inl h0
  · exact Or.inr ⟨b, off, rfl, Nat.lt_of_lt_of_le hlt hb.size, fun i hi => (hb.cell hlt).trans (hc i hi)⟩
theorem RdI.of_row {w : World} {base : Nat} {ao : Option Addr} {n cap : Nat} {l : List Int} (h : w.ownsRow base 3 1 (.slice ao n cap) n (iv l)) : RdI w ao n l := by
  have hl : l.length = n := by have := h.1; rw [iv_len] at this; omega
  subst hl
  refine ⟨rfl, ?_⟩
  by_cases h0 : l.length = 0
  · exact Or.inl h0
  · right
    obtain ⟨g, c, hv, hg, _⟩ := row_at h (i := 0) (by omega)
    simp only [Value.slice.injEq] at hv
    obtain ⟨rfl, _, rfl⟩ := hv
    refine ⟨g, 0, rfl, hg, fun i hi => ?_⟩
    obtain ⟨g2, c2, hv, _, hc⟩ := row_at h hi
    simp only [Value.slice.injEq, Option.some.injEq, Addr.mk.injEq, and_true, true_and] at hv
    obtain ⟨rfl, rfl⟩ := hv
    rw [Nat.zero_add]
    exact hc

end Go.Proofs.Ytadbffphmmkljaa.Mk
