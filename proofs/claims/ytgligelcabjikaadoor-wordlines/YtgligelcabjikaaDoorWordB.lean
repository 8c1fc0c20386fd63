/- Contract: word.Unhex. -/
import Derived.Test.YtgligelcabjikaaDoorWordA
namespace Go.Proofs.YtgligelcabjikaaDoor
open Go.RowKit
set_option linter.unusedVariables false
set_option linter.unusedSimpArgs false

/-- A hex digit's number; 16: none. -/
def dv (c : UInt8) : Nat := if 48 ≤ c.toNat ∧ c.toNat ≤ 57 then c.toNat - 48 else if 97 ≤ c.toNat ∧ c.toNat ≤ 102 then c.toNat - 87 else 16
def at0 (l : List UInt8) (j : Nat) : UInt8 := l.getD j 0
def okAt (l : List UInt8) (i : Nat) : Prop := dv (at0 l (2 * i)) < 16 ∧ dv (at0 l (2 * i + 1)) < 16
instance (l : List UInt8) (i : Nat) : Decidable (okAt l i) := by unfold okAt; infer_instance
def outAt (l : List UInt8) (i : Nat) : UInt8 := (16 * dv (at0 l (2 * i)) + dv (at0 l (2 * i + 1))).toUInt8
def outs (l : List UInt8) (n : Nat) : List UInt8 := (List.range n).map (outAt l)
def dash : ByteArray := ⟨#[45]⟩
def unhexS (s : ByteArray) : ByteArray × Bool :=
  if s.toList = [45] then (⟨#[]⟩, true) else if s.size = 0 ∨ s.size % 2 ≠ 0 then (⟨#[]⟩, false)
  else if ∀ i, i < s.size / 2 → okAt s.data.toList i then (⟨(outs s.data.toList (s.size / 2)).toArray⟩, true) else (⟨#[]⟩, false)

theorem index_digs (c : UInt8) : Lib.indexByte digs.data.toList c = if dv c < 16 then (dv c : Int) else -1 := by
  have all : ∀ n : Fin 256, Lib.indexByte digs.data.toList (UInt8.ofNat n.val) = if dv (UInt8.ofNat n.val) < 16 then (dv (UInt8.ofNat n.val) : Int) else -1 := by decide +kernel
  have := all ⟨c.toNat, c.toNat_lt⟩
  rwa [UInt8.ofNat_toNat] at this

theorem outs_succ (l : List UInt8) (n : Nat) : outs l (n + 1) = outs l n ++ [outAt l n] := by simp [outs, List.range_succ]
theorem outs_length (l : List UInt8) (n : Nat) : (outs l n).length = n := by simp [outs]
theorem at0_eq (s : ByteArray) (j : Nat) (h : j < s.size) : at0 s.data.toList j = s[j] := by
  have h' : j < s.data.toList.length := by rw [Array.length_toList]; exact h
  rw [at0, List.getD_eq_getElem?_getD, List.getElem?_eq_getElem h']
  rfl

end Go.Proofs.YtgligelcabjikaaDoor
