/- Contracts of the document's answer for chains: Encode, All. -/
import Derived.Test.YtblbbenfaafcoabChI
import Derived.Test.YtblbbenfaafcoabTkX
import Derived.Test.YtblbbenfaafcoabTkW
import Derived.BigQuiet
namespace Go.Proofs.Ytblbbenfaafcoab
open Go.RowKit Go.Maps
set_option linter.unusedVariables false
set_option linter.unusedSimpArgs false
attribute [local go_sem ↓] Go.wp_at_zero Go.wp_at_succ

theorem scan_len (a b c : Int) : ∀ l, (scan a b c l).length ≤ l.length
  | [] => Nat.le_refl _
  | [x] => Nat.le_refl _
  | x :: y :: r => by
    rw [scan]
    split
    · have := scan_len a b c r
      simp; omega
    · have := scan_len a b c (y :: r)
      simp at this ⊢; omega
theorem enc_len (mg : List (Int × Int)) : ∀ n l, (enc mg n l).length ≤ l.length
  | 0, l => Nat.le_refl _
  | n + 1, l => by
    have h1 := scan_len (gm mg n).1 (gm mg n).2 (256 + n) (enc mg n l)
    have h2 := enc_len mg n l
    rw [enc]; omega

/-- A number of a list. -/
def gI (l : List Int) (i : Nat) : Int := l.getD i 0
theorem gI_drop (l : List Int) {i : Nat} (h : i < l.length) : l.drop i = gI l i :: l.drop (i + 1) := by
  rw [List.drop_eq_getElem_cons h, gI, List.getD_eq_getElem?_getD, List.getElem?_eq_getElem h]
  rfl
theorem iv_at (l : List Int) {i : Nat} (h : i < l.length) : (iv l)[i]? = some (.int .i64 (gI l i)) := by
  simp [iv, gI, List.getD_eq_getElem?_getD, List.getElem?_eq_getElem h]
theorem row_at {w : World} {base : Nat} {v : Value} {l : List Int} (h : w.ownsRow base 3 1 v l.length (iv l)) {i : Nat} (hi : i < l.length) : ∃ g cap, v = .slice (some ⟨g, 0, none⟩) l.length cap ∧ g < w.heap.size ∧ w.cell? ⟨g, i, none⟩ = some (.int .i64 (gI l i)) := by
  obtain ⟨g, cap, rfl, _, hg⟩ := h.form (by omega)
  exact ⟨g, cap, rfl, hg, by rw [h.cellAt i (by omega)]; exact iv_at l hi⟩
theorem row_below {w w' : World} {B B2 : Nat} {E : TypeId} {size : Nat} {v : Value} {n : Nat} {xs : List Value} (h : w.ownsRow B E size v n xs) (hb : Below B2 w w') (hv : ∀ k, v.ownBlock = some k → k < B2) : w'.ownsRow B E size v n xs := by
  refine ⟨h.1, ?_⟩
  rcases h.2 with hn | ⟨g, cap, cur, rfl, hb1, hgg, rest⟩
  · exact .inl hn
  · refine .inr ⟨g, cap, cur, rfl, hb1, ?_, rest⟩
    rw [hb.block g (hv g rfl)]
    exact hgg

theorem scan_hit {L : List Int} {a b c : Int} {j : Nat} (h : j + 1 < L.length) (ha : gI L j = a) (hb : gI L (j + 1) = b) : scan a b c (L.drop j) = c :: scan a b c (L.drop (j + 1 + 1)) := by
  rw [gI_drop L (show j < L.length by omega), gI_drop L h, scan, if_pos ⟨ha, hb⟩]
theorem scan_miss {L : List Int} {a b c : Int} {j : Nat} (h : j + 1 < L.length) (hn : ¬ (gI L j = a ∧ gI L (j + 1) = b)) : scan a b c (L.drop j) = gI L j :: scan a b c (L.drop (j + 1)) := by
  rw [gI_drop L (show j < L.length by omega), gI_drop L h, scan, if_neg hn]
theorem scan_last {L : List Int} {a b c : Int} {j : Nat} (h : j + 1 = L.length) : scan a b c (L.drop j) = gI L j :: scan a b c (L.drop (j + 1)) := by
  rw [gI_drop L (show j < L.length by omega), List.drop_eq_nil_of_le (show L.length ≤ j + 1 by omega)]
  rfl

/-- What holds at the head of the inner loop. -/
structure InI (B0 B2 : Nat) (w0 : World) (L : List Int) (a b c : Int) (vl : Value) (j : Nat) (out : List Int) (vo : Value) (wr : World) : Prop where
  sc : scan a b c L = out ++ scan a b c (L.drop j)
  ro : wr.ownsRow B2 3 1 vo out.length (iv out)
  rl : wr.ownsRow B0 3 1 vl L.length (iv L)
  lb : ∀ k, vl.ownBlock = some k → k < B2
  B : Below B0 w0 wr
  b2 : B2 ≤ wr.heap.size
  b02 : B0 ≤ B2
  ol : out.length ≤ j
section
variable {B0 B2 : Nat} {w0 : World} {L : List Int} {a b c : Int} {vl : Value} {j : Nat} {out : List Int} {vo : Value} {wr : World}
theorem InI.drewN (h : InI B0 B2 w0 L a b c vl j out vo wr) (n : Nat) : InI B0 B2 w0 L a b c vl j out vo (wr.drewN n) := ⟨h.sc, h.ro, h.rl, h.lb, h.B.trans ⟨rfl, rfl, rfl, Nat.le_refl _, fun _ _ => rfl⟩, h.b2, h.b02, h.ol⟩
theorem InI.app (h : InI B0 B2 w0 L a b c vl j out vo wr) {x : Int} {j' g n cap : Nat} {w1 : World} (hsc : scan a b c (L.drop j) = x :: scan a b c (L.drop j')) (hj : j < j') (hn : n = out.length) (hr : w1.ownsRow B2 3 1 (.slice (some ⟨g, 0, none⟩) (n + 1) cap) (n + 1) (iv (out ++ [x]))) (hb : Below B2 wr w1) : InI B0 B2 w0 L a b c vl j' (out ++ [x]) (.slice (some ⟨g, 0, none⟩) (n + 1) cap) w1 := by
  subst hn
  refine ⟨by rw [h.sc, hsc]; simp, by simpa using hr, row_below h.rl hb h.lb, h.lb, h.B.trans (hb.mono h.b02), Nat.le_trans h.b2 hb.size, h.b02, ?_⟩
  have := h.ol
  simp
  omega
end

section
variable {vb vm : Value} {tx : List ByteArray} {mg : List (Int × Int)}

end

end Go.Proofs.Ytblbbenfaafcoab
