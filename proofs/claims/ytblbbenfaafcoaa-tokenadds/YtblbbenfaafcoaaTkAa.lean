/- TokenAdds: what holds at the head of its loop. -/
import Derived.Test.YtblbbenfaafcoaaTkAd
namespace Go.Proofs.Ytblbbenfaafcoaa
open Go.RowKit Go.Maps
set_option linter.unusedVariables false
set_option linter.unusedSimpArgs false
attribute [local go_sem ↓] Go.wp_at_zero Go.wp_at_succ

/-- What holds at the head of the loop: a table, and the document's in the box b5. -/
structure AdI (w : World) (b5 : Nat) (F : List Nat) (p : Nat) (v0 v1 : Value) (b2 b3 : Nat) (vb vm : Value) (tx : List ByteArray) (mg : List (Int × Int)) (wr : World) : Prop where
  T : TAt F p v0 v1 b2 b3 tx mg (lgs tx) wr
  R : RT vb vm tx mg wr
  X : Box2 b5 vb vm wr
  xF : b5 ∉ F
  bF : ∀ k, vb.ownBlock = some k → k ∉ F ∧ k ≠ b5
  mF : ∀ k, vm.ownBlock = some k → k ∉ F ∧ k ≠ b5
  hF : ∀ k ∈ F, w.heap.size ≤ k
  h5 : w.heap.size ≤ b5
  B : Below w.heap.size w wr

/-- One more round: the document's next table in a new box q (w2 to W3), the program's Add (W3 to w4), the box's table into b5. -/
theorem AdI.step {w : World} {b5 : Nat} {F F2 : List Nat} {p : Nat} {v0 v1 v2 v3 : Value} {b2 b3 : Nat} {vb vm vb' vm' : Value} {tx tx' : List ByteArray} {mg mg' : List (Int × Int)} {wr w2 W3 w4 : World} {q : Nat}
    (h : AdI w b5 F p v0 v1 b2 b3 vb vm tx mg wr) (hb2 : Below wr.heap.size wr w2) (hR2 : RT vb' vm' tx' mg' w2) (hvb : ∀ k, vb'.ownBlock = some k → vb.ownBlock = some k ∨ (wr.heap.size ≤ k ∧ k ≠ q)) (hvm : ∀ k, vm'.ownBlock = some k → vm.ownBlock = some k ∨ (wr.heap.size ≤ k ∧ k ≠ q))
    (hq : wr.heap.size ≤ q) (hQ : FrL [q] w2 W3) (hT4 : TAt F2 p v2 v3 b2 b3 tx' mg' (lgs tx') w4) (hF4 : FrL F W3 w4) (hN : NwL W3 F F2) :
    AdI w b5 F2 p v2 v3 b2 b3 vb' vm' tx' mg' ((w4.setCell ⟨b5, 0, none⟩ vb').setCell ⟨b5, 1, none⟩ vm') := by
  have hx := h.X.lt
  have hs1 := hb2.size
  have hs2 := hQ.size
  have hs3 := hF4.size
  have hflt : ∀ k ∈ F, k < wr.heap.size := h.T.flt
  have hb5F : b5 ∉ F2 := fun e => by
    rcases hN b5 e with h1 | h1
    · exact h.xF h1
    · omega
  have hbl : ∀ k, vb'.ownBlock = some k → k ∉ F ∧ k ≠ b5 ∧ k ≠ q ∧ k < w2.heap.size := fun k e => by
    have hlt := (hR2.rb.lt k e).2
    rcases hvb k e with h1 | h1
    · have h2 := h.bF k h1
      have h3 := (h.R.rb.lt k h1).2
      exact ⟨h2.1, h2.2, by omega, hlt⟩
    · exact ⟨fun e2 => by have := hflt k e2; omega, by omega, h1.2, hlt⟩
  have hml : ∀ k, vm'.ownBlock = some k → k ∉ F ∧ k ≠ b5 ∧ k ≠ q ∧ k < w2.heap.size := fun k e => by
    have hlt := (hR2.rm.lt k e).2
    rcases hvm k e with h1 | h1
    · have h2 := h.mF k h1
      have h3 := (h.R.rm.lt k h1).2
      exact ⟨h2.1, h2.2, by omega, hlt⟩
    · exact ⟨fun e2 => by have := hflt k e2; omega, by omega, h1.2, hlt⟩
  have hS : FrL [b5] w4 ((w4.setCell ⟨b5, 0, none⟩ vb').setCell ⟨b5, 1, none⟩ vm') := ((FrL.refl _ _).set (by simp) _).set (by simp) _
  have hX4 : Box2 b5 vb vm w4 := (hF4.block b5 (by omega) h.xF).trans ((hQ.block b5 (by omega) (by simp; omega)).trans ((hb2.block b5 hx).trans h.X))
  have hR4 : RT vb' vm' tx' mg' w4 := (hR2.keptF hQ (fun k e => by have := hbl k e; simp; omega) (fun k e => by have := hml k e; simp; omega)).keptF hF4 (fun k e => (hbl k e).1) (fun k e => (hml k e).1)
  refine ⟨hT4.kept hS (fun k hk e => by simp at e; subst e; exact hb5F hk), hR4.keptF hS (fun k e => by have := hbl k e; simp; omega) (fun k e => by have := hml k e; simp; omega), hX4.set _ _, hb5F, fun k e => ⟨fun e2 => ?_, (hbl k e).2.1⟩, fun k e => ⟨fun e2 => ?_, (hml k e).2.1⟩, fun k hk => ?_, h.h5, ?_⟩
  · have := hbl k e
    rcases hN k e2 with h1 | h1
    · exact this.1 h1
    · omega
  · have := hml k e
    rcases hN k e2 with h1 | h1
    · exact this.1 h1
    · omega
  · have := h.B.size
    rcases hN k hk with h1 | h1
    · exact h.hF k h1
    · omega
  · have hB0 := h.B
    have z := hB0.size
    have z5 := h.h5
    exact (((hB0.trans (hb2.mono z)).trans (hQ.below (by omega) (fun k hk => by simp at hk; omega))).trans (hF4.below (by omega) h.hF)).trans (hS.below (by omega) (fun k hk => by simp at hk; omega))

end Go.Proofs.Ytblbbenfaafcoaa
