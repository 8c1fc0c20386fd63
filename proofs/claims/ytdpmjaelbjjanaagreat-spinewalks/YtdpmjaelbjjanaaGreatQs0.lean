/- EncodePieces: one more piece, read and made, behind the others. -/
import Derived.Test.YtdpmjaelbjjanaaGreatQa39
namespace Go.Proofs.YtdpmjaelbjjanaaGreat
open Go.RowKit Go.Maps
set_option linter.unusedVariables false
set_option linter.unusedSimpArgs false

theorem enS_ne {s : Wf.Sp} (hV : VOk s) {P : List Int} (hP : P ≠ []) (hI : ∀ x ∈ P, okE s.specials x) : enS s P ≠ [] := by
  intro e
  have h := catV_encG (q := cuE s) hV (tE s) hI
  rw [show encG (cuE s) (mgT s) (tE s) s.specials P = [] from e] at h
  exact hP h.symm
theorem own_lt {W : World} {B k n : Nat} {E : TypeId} {v : Value} {xs : List Value} (h : W.ownsRow B E k v n xs) {b : Nat} (hb : v.ownBlock = some b) : b < W.heap.size := (h.lt b hb).2
theorem getLast_gI {l : List Int} (h : 0 < l.length) : l.getLastD 0 = Mk.gI l (l.length - 1) := by
  rcases List.eq_nil_or_concat l with rfl | ⟨u, x, rfl⟩
  · simp at h
  · simp [Mk.gI]
theorem pii_next {W3 : World} {s : Wf.Sp} {Ls : List (List Int)} {i : Nat} {a1 a2 : Option Addr} {n1 k1 n2 k2 : Nat} {W : World} (h : PiI W3 s Ls i a1 n1 k1 a2 n2 k2 W) (hi : i < Ls.length) {P : List Int} (hP : gP Ls i = P) (hfl : Ls.flatten.length ≤ 300) {B D gp m cp X cx : Nat} {ax : Option Addr} (hpm : P.length = m) (hxm : (enS s P).length = X)
    (hown : W.ownsRow B 3 1 (.slice (some ⟨gp, 0, none⟩) m cp) m (Mk.iv P)) (hm : 0 < m) (hm3 : m ≤ 300) (hx : W.ownsRow D 3 1 (.slice ax X cx) X (Mk.iv (enS s P))) (hX : 0 < X) (hxa : (Value.slice ax X cx).ownBlock = none ∨ (Value.slice ax X cx).ownBlock ≠ (Value.slice a1 n1 k1).ownBlock) :
    ∃ g cap W5, (Builtin.append_ #[41, 41] 41 #[.slice a1 n1 k1, .slice (some ⟨gp, 0, none⟩) m cp]).run Tryz.prog W = .ok (.slice (some ⟨g, 0, none⟩) (n1 + m) cap) W5 ∧
      ∃ g2 cap2 W6, (Builtin.append_ #[41, 41] 41 #[.slice a2 n2 k2, .slice ax X cx]).run Tryz.prog W5 = .ok (.slice (some ⟨g2, 0, none⟩) (n2 + X) cap2) W6 ∧ PiI W3 s Ls (i + 1) (some ⟨g, 0, none⟩) (n1 + m) cap (some ⟨g2, 0, none⟩) (n2 + X) cap2 W6 := by
  have f1 := flat_part Ls i
  have f2 := enS_few s (Ls.take i)
  have g1 := h.e1
  have g2 := h.e2
  have hX3 : X ≤ 300 := by
    have h1 : (enS s P).length ≤ P.length := encG_len (q := cuE s) (mgT s) (tE s) s.specials P
    omega
  have ht1 : (Ls.take (i + 1)).flatten = (Ls.take i).flatten ++ P := by rw [take_gP hi, hP]; simp
  have ht2 : (Ls.take (i + 1)).flatMap (enS s) = (Ls.take i).flatMap (enS s) ++ enS s P := by rw [take_gP hi, hP]; simp
  obtain ⟨g, cap, W5, r1, o1, b1, k1', keep1⟩ := app_numsX W W3.heap.size B a1 (some ⟨gp, 0, none⟩) n1 m k1 cp _ P h.r1 hown (by omega) (by omega) hm h.bel.size
  have r2' := keep1 _ _ _ _ _ _ h.r2 h.ap
  have hx' := keep1 _ _ _ _ _ _ hx hxa
  have hne : (Value.slice (some ⟨g, 0, none⟩) (n1 + m) cap).ownBlock = none ∨ (Value.slice (some ⟨g, 0, none⟩) (n1 + m) cap).ownBlock ≠ (Value.slice a2 n2 k2).ownBlock := by
    refine Or.inr (fun e => ?_)
    have e' : (Value.slice a2 n2 k2).ownBlock = some g := e.symm
    have hlt := own_lt h.r2 e'
    rcases k1' with h1 | h1
    · rcases h.ap with h2 | h2
      · rw [h2] at e'; cases e'
      · exact h2 (e'.trans h1.symm)
    · omega
  obtain ⟨gg, cap2, W6, rr2, o2, b2, kk, keep2⟩ := app_numsX W5 W3.heap.size D a2 ax n2 X k2 cx _ (enS s P) r2' hx' (by omega) (by omega) hX (Nat.le_trans h.bel.size b1.size)
  refine ⟨g, cap, W5, r1, gg, cap2, W6, rr2, ⟨h.bel.trans (b1.trans b2), ?_, ?_, ?_, ?_, ?_⟩⟩
  · rw [ht1]
    exact keep2 _ _ _ _ _ _ o1 hne
  · rw [ht2]
    exact o2
  · rw [ht1, List.length_append, hpm, g1]
  · rw [ht2, List.length_append, hxm, g2]
  · refine Or.inr (fun e => ?_)
    have e' : gg = g := by
      have : some gg = some g := e
      exact Option.some.inj this
    subst e'
    have hlt := own_lt o1 (b := gg) rfl
    rcases kk with h1 | h1
    · rcases hne with h2 | h2
      · cases h2
      · exact h2 h1.symm
    · omega
end Go.Proofs.YtdpmjaelbjjanaaGreat
