/- Contracts of the document's answer for chains: Encode, All. What is made of bytes: the plain mathematics of the laws. -/
import Derived.Test.YtoihocbnhoniaaaGreatDoorQo26
import Derived.Test.YtoihocbnhoniaaaGreatDoorQo29
import Derived.BigQuiet
namespace Go.Proofs.YtoihocbnhoniaaaGreatDoor
open Go.RowKit Go.Maps
set_option linter.unusedVariables false
set_option linter.unusedSimpArgs false
attribute [local go_sem ↓] Go.wp_at_zero Go.wp_at_succ

theorem scan_len (a b c : Int) : ∀ l, (scan a b c l).length ≤ l.length
  | [] => Nat.le_refl _
  | [x] => Nat.le_refl _
  | x :: y :: r => by
    rw [scan]
    split
    · have := scan_len a b c r
      simp; omega
    · have := scan_len a b c (y :: r)
      simp at this ⊢; omega
theorem enc_len (mg : List (Int × Int)) : ∀ n l, (enc mg n l).length ≤ l.length
  | 0, l => Nat.le_refl _
  | n + 1, l => by
    have h1 := scan_len (gm mg n).1 (gm mg n).2 (256 + n) (enc mg n l)
    have h2 := enc_len mg n l
    rw [enc]; omega

/-- A number of a list. -/
def gI (l : List Int) (i : Nat) : Int := l.getD i 0
theorem iv_at (l : List Int) {i : Nat} (h : i < l.length) : (iv l)[i]? = some (.int .i64 (gI l i)) := by
  simp [iv, gI, List.getD_eq_getElem?_getD, List.getElem?_eq_getElem h]
theorem row_at {w : World} {base : Nat} {v : Value} {l : List Int} (h : w.ownsRow base 3 1 v l.length (iv l)) {i : Nat} (hi : i < l.length) : ∃ g cap, v = .slice (some ⟨g, 0, none⟩) l.length cap ∧ g < w.heap.size ∧ w.cell? ⟨g, i, none⟩ = some (.int .i64 (gI l i)) := by
  obtain ⟨g, cap, rfl, _, hg⟩ := h.form (by omega)
  exact ⟨g, cap, rfl, hg, by rw [h.cellAt i (by omega)]; exact iv_at l hi⟩
theorem row_below {w w' : World} {B B2 : Nat} {E : TypeId} {size : Nat} {v : Value} {n : Nat} {xs : List Value} (h : w.ownsRow B E size v n xs) (hb : Below B2 w w') (hv : ∀ k, v.ownBlock = some k → k < B2) : w'.ownsRow B E size v n xs := by
  refine ⟨h.1, ?_⟩
  rcases h.2 with hn | ⟨g, cap, cur, rfl, hb1, hgg, rest⟩
  · exact .inl hn
  · refine .inr ⟨g, cap, cur, rfl, hb1, ?_, rest⟩
    rw [hb.block g (hv g rfl)]
    exact hgg

section
variable {B0 B2 : Nat} {w0 : World} {L : List Int} {a b c : Int} {vl : Value} {j : Nat} {out : List Int} {vo : Value} {wr : World}
end

section
variable {vb vm : Value} {tx : List ByteArray} {mg : List (Int × Int)}

end

end Go.Proofs.YtoihocbnhoniaaaGreatDoor

namespace Go.Proofs.YtoihocbnhoniaaaGreatDoor
open Go.RowKit Go.Maps
set_option linter.unusedVariables false
set_option linter.unusedSimpArgs false

/-- Tokens' bytes. -/
def txt (tx : List ByteArray) : List Int → List UInt8
  | [] => []
  | x :: r => (gs tx x.toNat).data.toList ++ txt tx r
theorem made_len (mg : List (Int × Int)) (bl : Int) (s : ByteArray) : (made mg bl s).length ≤ s.size := by
  have := enc_len mg (rnds mg bl) (bys s s.size)
  rw [bys_len s s.size (Nat.le_refl _)] at this
  exact this
end Go.Proofs.YtoihocbnhoniaaaGreatDoor
