/- Contracts of the document's answer for tokens: Has, Find, Begin. Contracts of package token: Parents, Merges; the law's own example. -/
import Derived.Test.YtfjcfkkcdbojlabGreatQa16
import Derived.Lib.AppendZeros
namespace Go.Proofs.YtfjcfkkcdbojlabGreat
open Go.RowKit Go.Maps
set_option linter.unusedVariables false
set_option linter.unusedSimpArgs false
attribute [local go_sem ↓] Go.wp_at_zero Go.wp_at_succ

/-- A table of the document's: two rows. -/
structure RT (vb vm : Value) (tx : List ByteArray) (mg : List (Int × Int)) (w : World) : Prop where
  rb : w.ownsRow 0 9 1 vb tx.length (tx.map Value.string)
  rm : w.ownsRow 0 104 2 vm mg.length (fl2 mg)
  nl : mg = [] → vm = .slice none 0 0

section
variable {vb vm : Value} {tx : List ByteArray} {mg : List (Int × Int)} {w w' : World}
theorem row_keptB {B : Nat} {E : TypeId} {size : Nat} {v : Value} {n : Nat} {xs : List Value} (h : w.ownsRow B E size v n xs) (hb : Below w.heap.size w w') : w'.ownsRow B E size v n xs :=
  h.kept (row := none) ⟨hb.os, hb.tape, hb.output, hb.size, fun k hk _ => hb.block k hk⟩ (by cases v.ownBlock <;> simp)
theorem RT.kept (h : RT vb vm tx mg w) (hb : Below w.heap.size w w') : RT vb vm tx mg w' := ⟨row_keptB h.rb hb, row_keptB h.rm hb, h.nl⟩
theorem RT.keptF {F : List Nat} (h : RT vb vm tx mg w) (hF : FrL F w w') (h0 : ∀ k, vb.ownBlock = some k → k ∉ F) (h1 : ∀ k, vm.ownBlock = some k → k ∉ F) : RT vb vm tx mg w' := ⟨row_frl h.rb hF h0, row_frl h.rm hF h1, h.nl⟩
theorem RT.text (h : RT vb vm tx mg w) {i : Nat} (hi : i < tx.length) : ∃ g cap, vb = .slice (some ⟨g, 0, none⟩) tx.length cap ∧ g < w.heap.size ∧ w.cell? ⟨g, i, none⟩ = some (.string (gs tx i)) := by
  obtain ⟨g, cap, rfl, _, hg⟩ := h.rb.form (by omega)
  refine ⟨g, cap, rfl, hg, ?_⟩
  rw [h.rb.cellAt i (by omega), List.getElem?_map, gs, List.getD_eq_getElem?_getD, List.getElem?_eq_getElem hi]
  rfl
theorem RT.mer (h : RT vb vm tx mg w) {i : Nat} (hi : i < mg.length) : ∃ g cap, vm = .slice (some ⟨g, 0, none⟩) mg.length cap ∧ g < w.heap.size ∧ w.cell? ⟨g, i * 2, none⟩ = some (.int .i64 (gm mg i).1) ∧ w.cell? ⟨g, i * 2 + 1, none⟩ = some (.int .i64 (gm mg i).2) := by
  obtain ⟨g, cap, rfl, _, hg⟩ := h.rm.form (by omega)
  have hf := fl2_get mg i hi
  exact ⟨g, cap, rfl, hg, by rw [h.rm.cellAt _ (by omega)]; exact hf.1, by rw [h.rm.cellAt _ (by omega)]; exact hf.2⟩

theorem beq_no {a b : ByteArray} (h : ¬ a = b) : (a == b) = false := by
  cases hb : (a == b) with
  | false => rfl
  | true => exact absurd ((MapKept.bytes_beq a b).1 hb) h
theorem beq_no2 {a b : ByteArray} (h : ¬ a = b) : (a.toList == b.toList) = false := by
  cases hb : (a.toList == b.toList) with
  | false => rfl
  | true =>
    have h1 : a.toList = b.toList := by simpa using hb
    rw [Go.ByteArray.toList_eq, Go.ByteArray.toList_eq] at h1
    exact absurd (WideShapes.bytes_inj h1) h

/-- Where a text stands first; -1: nowhere. -/
def Fnd (tx : List ByteArray) (s : ByteArray) (r : Int) : Prop := (r = -1 ∧ s ∉ tx) ∨ ∃ i : Nat, r = i ∧ i < tx.length ∧ gs tx i = s

end

end Go.Proofs.YtfjcfkkcdbojlabGreat

namespace Go.Proofs.YtfjcfkkcdbojlabGreat
open Go.RowKit Go.Maps
set_option linter.unusedVariables false
set_option linter.unusedSimpArgs false

def merR (m : Int × Int) (ok : Bool) : Value := .tuple #[.agg #[.int .i64 m.1, .int .i64 m.2], .bool ok]

section
variable {F : List Nat} {p : Nat} {v0 v1 : Value} {b2 b3 : Nat} {tx : List ByteArray} {mg : List (Int × Int)} {lg : Int} {w : World}

end

def exM : List (Int × Int) := [(97, 98), (256, 99)]
theorem ex0 : addC (stT exM 0).1 (gm exM 0) = 0 := by decide +kernel
theorem ex1 : addC (stT exM 1).1 (gm exM 1) = 0 := by decide +kernel
theorem ex2 : addC (stT exM 2).1 (98, 99) = 0 := by decide +kernel
theorem ex3 : addC (nextT (stT exM 2).1 (98, 99)) (97, 258) = 10 := by decide +kernel
theorem ex4 : gs (stT exM 2).1 257 = ⟨#[97, 98, 99]⟩ := by decide +kernel
theorem ex5 : 257 < (stT exM 2).1.length := by decide +kernel

end Go.Proofs.YtfjcfkkcdbojlabGreat
