/- Contracts of the document's answer for tokens: New. -/
import Derived.Test.YtadbffphmmkljaaTkV
namespace Go.Proofs.Ytadbffphmmkljaa
open Go.RowKit Go.Maps
set_option linter.unusedVariables false
set_option linter.unusedSimpArgs false
attribute [local go_sem ↓] Go.wp_at_zero Go.wp_at_succ

/-- Boxes of a table. -/
def Box2 (b : Nat) (vb vm : Value) (W : World) : Prop := W.heap[b]? = some (.cells #[vb, vm] 27 (0, 0))
theorem Box2.lt {b : Nat} {vb vm : Value} {W : World} (h : Box2 b vb vm W) : b < W.heap.size := (Array.getElem?_eq_some_iff.1 h).1
theorem Box2.kept {b : Nat} {vb vm : Value} {W W' : World} (h : Box2 b vb vm W) (hb : Below W.heap.size W W') : Box2 b vb vm W' := (hb.block _ h.lt).trans h
theorem Box2.cells {b : Nat} {vb vm : Value} {W : World} (h : Box2 b vb vm W) : W.cell? ⟨b, 0, none⟩ = some vb ∧ W.cell? ⟨b, 1, none⟩ = some vm ∧ ∀ o, W.frozen? ⟨b, o, none⟩ = false := by
  unfold Box2 at h
  simp [World.cell?, World.frozen?, h]
theorem RT.alloc {vb vm : Value} {tx : List ByteArray} {mg : List (Int × Int)} {w : World} (h : RT vb vm tx mg w) (o : Obj) : RT vb vm tx mg (w.alloc o) := ⟨h.rb.alloc _, h.rm.alloc _, h.nl⟩

theorem below_drew' (w : World) : Below w.heap.size w w.drew := (Below.refl _ _).drew
theorem below_via' {a b c : World} (h : Below b.heap.size b c) (k : Below a.heap.size a b) : Below a.heap.size a c := k.trans (h.mono k.size)

theorem Box2.set {b : Nat} {vb vm : Value} {W : World} (h : Box2 b vb vm W) (u0 u1 : Value) : Box2 b u0 u1 ((W.setCell ⟨b, 0, none⟩ u0).setCell ⟨b, 1, none⟩ u1) := by
  unfold Box2 at *
  have h1 := heap_setCell_same W b 0 _ _ u0 h
  have h2 := heap_setCell_same _ b 1 _ _ u1 h1
  simpa using h2

theorem rnew_step {w w2 W3 : World} {b5 q : Nat} {vb vm vb' vm' : Value} {tx : List ByteArray} {mg : List (Int × Int)} (hT : RT vb' vm' tx mg w2) (hx : Box2 w.heap.size (.slice none 0 0) (.slice none 0 0) w2) (hy : Box2 b5 vb vm w2) (hF : FrL [q] w2 W3) (hq : w.heap.size < q) (hqb : q ≠ b5) (hb : w.heap.size < b5)
    (h1 : ∀ k, vb'.ownBlock = some k → k ≠ b5 ∧ w.heap.size < k ∧ k ≠ q) (h2 : ∀ k, vm'.ownBlock = some k → k ≠ b5 ∧ w.heap.size < k ∧ k ≠ q) (hB : Below w.heap.size w w2) :
    Box2 w.heap.size (.slice none 0 0) (.slice none 0 0) ((W3.setCell ⟨b5, 0, none⟩ vb').setCell ⟨b5, 1, none⟩ vm') ∧ Box2 b5 vb' vm' ((W3.setCell ⟨b5, 0, none⟩ vb').setCell ⟨b5, 1, none⟩ vm') ∧ RT vb' vm' tx mg ((W3.setCell ⟨b5, 0, none⟩ vb').setCell ⟨b5, 1, none⟩ vm') ∧ (∀ k, vb'.ownBlock = some k → k ≠ b5 ∧ w.heap.size < k) ∧ (∀ k, vm'.ownBlock = some k → k ≠ b5 ∧ w.heap.size < k) ∧ Below w.heap.size w ((W3.setCell ⟨b5, 0, none⟩ vb').setCell ⟨b5, 1, none⟩ vm') := by
  have hF2 : FrL [q, b5] w2 ((W3.setCell ⟨b5, 0, none⟩ vb').setCell ⟨b5, 1, none⟩ vm') := ((hF.mono (G := [q, b5]) (fun k hk => by simp at hk; simp [hk])).set (by simp) _).set (by simp) _
  have hy3 : Box2 b5 vb vm W3 := (hF.block _ hy.lt (by simp; omega)).trans hy
  refine ⟨(hF2.block _ hx.lt (by simp; omega)).trans hx, hy3.set _ _, hT.keptF hF2 (fun k e => ?_) (fun k e => ?_), fun k e => ⟨(h1 k e).1, (h1 k e).2.1⟩, fun k e => ⟨(h2 k e).1, (h2 k e).2.1⟩, hB.trans (hF2.below hB.size (fun k hk => ?_))⟩
  · have := h1 k e; simp; omega
  · have := h2 k e; simp; omega
  · simp at hk; omega

/-- The return of an error: the boxes' table goes into the answer's box. -/
theorem rnew_out {w w2 W3 : World} {b5 q : Nat} {vb vm : Value} {tx : List ByteArray} {mg : List (Int × Int)} (hT : RT vb vm tx mg w2) (hF : FrL [q] w2 W3) (hq : w.heap.size < q)
    (h1 : ∀ k, vb.ownBlock = some k → w.heap.size < k ∧ k ≠ q) (h2 : ∀ k, vm.ownBlock = some k → w.heap.size < k ∧ k ≠ q) (hB : Below w.heap.size w w2) :
    RT vb vm tx mg ((W3.setCell ⟨w.heap.size, 0, none⟩ vb).setCell ⟨w.heap.size, 1, none⟩ vm) ∧ Below w.heap.size w ((W3.setCell ⟨w.heap.size, 0, none⟩ vb).setCell ⟨w.heap.size, 1, none⟩ vm) := by
  have hF2 : FrL [q, w.heap.size] w2 ((W3.setCell ⟨w.heap.size, 0, none⟩ vb).setCell ⟨w.heap.size, 1, none⟩ vm) := ((hF.mono (G := [q, w.heap.size]) (fun k hk => by simp at hk; simp [hk])).set (by simp) _).set (by simp) _
  refine ⟨hT.keptF hF2 (fun k e => ?_) (fun k e => ?_), hB.trans (hF2.below hB.size (fun k hk => ?_))⟩
  · have := h1 k e; simp; omega
  · have := h2 k e; simp; omega
  · simp at hk; omega

end Go.Proofs.Ytadbffphmmkljaa