/- Contracts of the law's own reference: Texts, Cut. -/
import Derived.Lib.SplitLaws
import Derived.Test.YtdpmjaelbjjanaaGreatZQa1
import Derived.Test.YtdpmjaelbjjanaaGreatProg
import Derived.BigQuiet
import Derived.Lib.AppendZeros
import Derived.Deep.AppendLies
import Derived.Laws.OwnMore
namespace Go.Proofs.YtdpmjaelbjjanaaGreat.Wf
open Go.RowKit
set_option linter.unusedVariables false
set_option linter.unusedSimpArgs false

theorem info_text : (Tryz.prog.info? 9).map (fun i => (i.zero, i.size, i.bytes)) = some (some (.string ⟨#[]⟩), 1, 16) := by kernel_rfl
/-- A text of a list. -/
def gT (l : List ByteArray) (i : Nat) : ByteArray := l.getD i ⟨#[]⟩
/-- Texts that are read. -/
def RdT (w : World) (ao : Option Addr) (n : Nat) (l : List ByteArray) : Prop := l.length = n ∧ (n = 0 ∨ ∃ b off, ao = some ⟨b, off, none⟩ ∧ b < w.heap.size ∧ ∀ i, i < n → w.cell? ⟨b, off + i, none⟩ = some (.string (gT l i)))
theorem RdT.kept {w w' : World} {ao : Option Addr} {n : Nat} {l : List ByteArray} (h : RdT w ao n l) (hb : Below w.heap.size w w') : RdT w' ao n l := by
  refine ⟨h.1, ?_⟩
  rcases h.2 with h0 | ⟨b, off, rfl, hlt, hc⟩
  · exact Or.inl h0
  · exact Or.inr ⟨b, off, rfl, Nat.lt_of_lt_of_le hlt hb.size, fun i hi => (hb.cell hlt).trans (hc i hi)⟩
theorem RdT.take {w : World} {ao : Option Addr} {n : Nat} {l : List ByteArray} (h : RdT w ao n l) {m : Nat} (hm : m ≤ n) : RdT w ao m (l.take m) := by
  refine ⟨by rw [List.length_take, h.1]; omega, ?_⟩
  rcases h.2 with h0 | ⟨b, off, rfl, hlt, hc⟩
  · exact Or.inl (by omega)
  · refine Or.inr ⟨b, off, rfl, hlt, fun i hi => ?_⟩
    rw [hc i (by omega)]
    congr 2
    unfold gT
    rw [List.getD_eq_getElem?_getD, List.getD_eq_getElem?_getD, List.getElem?_take_of_lt hi]

/-- Pieces as cells. -/
def tv (l : List (List UInt8)) : List Value := l.map (fun x => Value.string ⟨x.toArray⟩)
theorem app_text (w : World) (base : Nat) (ao : Option Addr) (n cap : Nat) (l : List (List UInt8)) (x : ByteArray) (h : w.ownsRow base 9 1 (.slice ao n cap) n (tv l)) (hn : n ≤ 1000000) (hb : base ≤ w.heap.size) :
    ∃ g cap1 w1, (Builtin.append_ #[31, 31] 31 #[.slice ao n cap, .slice (some ⟨w.heap.size, 0, none⟩) 1 1]).run Tryz.prog (w.alloc (.cells #[.string x] 9)) = .ok (.slice (some ⟨g, 0, none⟩) (n + 1) cap1) w1 ∧ w1.ownsRow base 9 1 (.slice (some ⟨g, 0, none⟩) (n + 1) cap1) (n + 1) (tv (l ++ [x.data.toList])) ∧ Below base w w1 := by
  obtain ⟨i0, hi, hz0, hz1, hz2⟩ := info_parts info_text
  obtain ⟨g, cap1, w1, hrun, hown, hgrow, _, _⟩ := run_append_lies (P := Tryz.prog) (w.alloc (.cells #[.string x] 9)) 31 31 base 9 i0 _ 1 16 Tryz.underlying31 hi hz0 hz1 hz2 rfl (by omega) (.slice ao n cap) n (tv l) (h.alloc _) ⟨w.heap.size, 0, none⟩ 1 1 [.string x] rfl (World.news_of_block (heap_alloc_new w _)) (by simp [Value.oneCell']) (by omega) (by unfold maxLen; omega) (by omega) (by simp; omega) (w.heap.size + 1) (by simp)
  have e : tv (l ++ [x.data.toList]) = tv l ++ [.string x] := by simp [tv]
  refine ⟨g, cap1, w1, hrun, by rw [e]; exact hown, ?_⟩
  have h1 : Below base w (w.alloc (.cells #[.string x] 9)) := ((Below.refl _ _).alloc (Nat.le_refl _) _).mono hb
  exact h1.trans ⟨hgrow.os, hgrow.tape, hgrow.output, hgrow.size, fun k hk => hgrow.block k (by simp; omega) (fun e => by have := (h.lt k e.symm).1; omega)⟩


end Go.Proofs.YtdpmjaelbjjanaaGreat.Wf
