/- Two rows that grow side by side: numbers, and a row of another kind. -/
import Derived.Test.YtfjcfkkcdbojlaaGreatQa36
import Derived.Test.YtfjcfkkcdbojlaaGreatQa31
namespace Go.Proofs.YtfjcfkkcdbojlaaGreat
open Go.RowKit Go.Maps
set_option linter.unusedVariables false
set_option linter.unusedSimpArgs false

/-- Two rows don't share a block. -/
def Apart (v1 v2 : Value) : Prop := ∀ k, v1.ownBlock = some k → v2.ownBlock ≠ some k
theorem Apart.symm {v1 v2 : Value} (h : Apart v1 v2) : Apart v2 v1 := fun k h2 h1 => h k h1 h2
theorem apart_or {v1 v2 : Value} (h : Apart v1 v2) : v2.ownBlock = none ∨ v2.ownBlock ≠ v1.ownBlock := by
  cases e : v2.ownBlock with
  | none => exact Or.inl rfl
  | some k => exact Or.inr (fun e2 => h k e2.symm e)

/-- A number is put behind others; another row is as it was. -/
theorem app_numE {E2 : TypeId} (W : World) (base : Nat) (a1 : Option Addr) (n1 c1 n2 : Nat) (v2 : Value) (l1 : List Int) (X2 : List Value) (x : Int) (h1 : W.ownsRow base 3 1 (.slice a1 n1 c1) n1 (Mk.iv l1)) (h2 : W.ownsRow base E2 1 v2 n2 X2) (hd : Apart (.slice a1 n1 c1) v2) (hn : n1 ≤ 1000000) (hb : base ≤ W.heap.size) :
    ∃ g cap1 w1, (Builtin.append_ #[28, 28] 28 #[.slice a1 n1 c1, .slice (some ⟨W.heap.size, 0, none⟩) 1 1]).run Tryz.prog (W.alloc (.cells #[.int .i64 x] 3)) = .ok (.slice (some ⟨g, 0, none⟩) (n1 + 1) cap1) w1 ∧
      w1.ownsRow base 3 1 (.slice (some ⟨g, 0, none⟩) (n1 + 1) cap1) (n1 + 1) (Mk.iv (l1 ++ [x])) ∧ w1.ownsRow base E2 1 v2 n2 X2 ∧ Apart (.slice (some ⟨g, 0, none⟩) (n1 + 1) cap1) v2 ∧ Below base W w1 := by
  obtain ⟨i0, hi, hz0, hz1, hz2⟩ := info_parts Mk.info_int
  obtain ⟨g, cap1, w1, hrun, hown, hgrow, hg, _⟩ := run_append_lies (P := Tryz.prog) (W.alloc (.cells #[.int .i64 x] 3)) 28 28 base 3 i0 _ 1 8 Tryz.underlying28 hi hz0 hz1 hz2 rfl (by omega) (.slice a1 n1 c1) n1 (Mk.iv l1) (h1.alloc _) ⟨W.heap.size, 0, none⟩ 1 1 [.int .i64 x] rfl (World.news_of_block (heap_alloc_new W _)) (by simp [Value.oneCell']) (by omega) (by unfold maxLen; omega) (by omega) (by simp; omega) (W.heap.size + 1) (by simp)
  refine ⟨g, cap1, w1, hrun, by rw [Mk.iv_append]; exact hown, (h2.alloc _).kept hgrow (apart_or hd), fun k hk e2 => ?_, ?_⟩
  · obtain rfl : g = k := by simpa [Value.ownBlock] using hk
    rcases hg with hg | hg
    · exact hd g hg e2
    · have := (h2.lt g e2).2
      omega
  · have h3 : Below base W (W.alloc (.cells #[.int .i64 x] 3)) := (Mk.low1 W _).mono hb
    exact h3.trans ⟨hgrow.os, hgrow.tape, hgrow.output, hgrow.size, fun k hk => hgrow.block k (by simp; omega) (fun e => by have := (h1.lt k e.symm).1; omega)⟩
/-- Numbers are put behind others; another row is as it was. -/
theorem app_numsE {E2 : TypeId} (w : World) (B1 B2 : Nat) (a1 a2 : Option Addr) (n1 n2 c1 c2 n3 : Nat) (v3 : Value) (l1 l2 : List Int) (X3 : List Value) (h1 : w.ownsRow B1 3 1 (.slice a1 n1 c1) n1 (Mk.iv l1)) (h2 : w.ownsRow B2 3 1 (.slice a2 n2 c2) n2 (Mk.iv l2)) (h3 : w.ownsRow B1 E2 1 v3 n3 X3) (hd : Apart (.slice a1 n1 c1) v3) (hn1 : n1 ≤ 1000000) (hn2 : n2 ≤ 1000000) (h0 : 0 < n2) (hb : B1 ≤ w.heap.size) :
    ∃ g cap w1, (Builtin.append_ #[28, 28] 28 #[.slice a1 n1 c1, .slice a2 n2 c2]).run Tryz.prog w = .ok (.slice (some ⟨g, 0, none⟩) (n1 + n2) cap) w1 ∧ w1.ownsRow B1 3 1 (.slice (some ⟨g, 0, none⟩) (n1 + n2) cap) (n1 + n2) (Mk.iv (l1 ++ l2)) ∧ w1.ownsRow B1 E2 1 v3 n3 X3 ∧ Apart (.slice (some ⟨g, 0, none⟩) (n1 + n2) cap) v3 ∧ Below B1 w w1 := by
  obtain ⟨i0, hi, hz0, hz1, hz2⟩ := info_parts Mk.info_int
  obtain ⟨g2, c2', hv, _, _⟩ := h2.form (by omega)
  simp only [Value.slice.injEq] at hv
  obtain ⟨rfl, _, rfl⟩ := hv
  obtain ⟨g, cap1, w1, hrun, hown, hgrow, hg, _⟩ := run_append_lies (P := Tryz.prog) w 28 28 B1 3 i0 _ 1 8 Tryz.underlying28 hi hz0 hz1 hz2 rfl (by omega) (.slice a1 n1 c1) n1 (Mk.iv l1) h1 ⟨g2, 0, none⟩ n2 c2 (Mk.iv l2) h2.1 (fun j u hu => h2.cells (g := g2) rfl j u hu) (by simp [Mk.iv, Value.oneCell']) (by omega) (by unfold maxLen; omega) (by omega) hb w.heap.size rfl
  refine ⟨g, cap1, w1, hrun, by rw [Mk.iv_append]; exact hown, h3.kept hgrow (apart_or hd), fun k hk e2 => ?_, ?_⟩
  · obtain rfl : g = k := by simpa [Value.ownBlock] using hk
    rcases hg with hg | hg
    · exact hd g hg e2
    · have := (h3.lt g e2).2
      omega
  · exact ⟨hgrow.os, hgrow.tape, hgrow.output, hgrow.size, fun k hk => hgrow.block k (by omega) (fun e => by have := (h1.lt k e.symm).1; omega)⟩
/-- A byte is put behind others; another row is as it was. -/
theorem app_byteE {E2 : TypeId} (w : World) (base : Nat) (ao : Option Addr) (n cap n2 : Nat) (v2 : Value) (xs : List UInt8) (X2 : List Value) (x : Int) (hx0 : 0 ≤ x) (hx1 : x < 256) (h : w.ownsRow base 5 1 (.slice ao n cap) n (Lib.byteCells xs)) (h2 : w.ownsRow base E2 1 v2 n2 X2) (hd : Apart (.slice ao n cap) v2) (hn : n ≤ 1000000000) (hb : base ≤ w.heap.size) :
    ∃ g cap1 w1, (Builtin.append_ #[90, 90] 90 #[.slice ao n cap, .slice (some ⟨w.heap.size, 0, none⟩) 1 1]).run Tryz.prog (w.alloc (.cells #[.int .u8 x] 5)) = .ok (.slice (some ⟨g, 0, none⟩) (n + 1) cap1) w1 ∧ w1.ownsRow base 5 1 (.slice (some ⟨g, 0, none⟩) (n + 1) cap1) (n + 1) (Lib.byteCells (xs ++ [u8E x])) ∧ w1.ownsRow base E2 1 v2 n2 X2 ∧ Apart (.slice (some ⟨g, 0, none⟩) (n + 1) cap1) v2 ∧ Below base w w1 := by
  obtain ⟨i0, hi, hz0, hz1, hz2⟩ := info_parts Mk.info_byte
  obtain ⟨g, cap1, w1, hrun, hown, hgrow, hg, _⟩ := run_append_lies (P := Tryz.prog) (w.alloc (.cells #[.int .u8 x] 5)) 90 90 base 5 i0 _ 1 1 Tryz.underlying90 hi hz0 hz1 hz2 rfl (by omega) (.slice ao n cap) n (Lib.byteCells xs) (h.alloc _) ⟨w.heap.size, 0, none⟩ 1 1 [.int .u8 x] rfl (World.news_of_block (heap_alloc_new w _)) (by simp [Value.oneCell']) (by omega) (by unfold maxLen; omega) (by omega) (by simp; omega) (w.heap.size + 1) (by simp)
  refine ⟨g, cap1, w1, hrun, by rw [show u8E x = UInt8.ofNat x.toNat from rfl, Lib.byteCells_append, Mk.byte_cells hx0 hx1]; exact hown, (h2.alloc _).kept hgrow (apart_or hd), fun k hk e2 => ?_, ?_⟩
  · obtain rfl : g = k := by simpa [Value.ownBlock] using hk
    rcases hg with hg | hg
    · exact hd g hg e2
    · have := (h2.lt g e2).2
      omega
  · have h1 : Below base w (w.alloc (.cells #[.int .u8 x] 5)) := (Mk.low1 w _).mono hb
    exact h1.trans ⟨hgrow.os, hgrow.tape, hgrow.output, hgrow.size, fun k hk => hgrow.block k (by simp; omega) (fun e => by have := (h.lt k e.symm).1; omega)⟩
end Go.Proofs.YtfjcfkkcdbojlaaGreat
