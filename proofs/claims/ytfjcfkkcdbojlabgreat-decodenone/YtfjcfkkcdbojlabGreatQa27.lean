/- Contracts of the document's answer for tokens: Grow. TokenMakes: each token's bytes are its parents', and each two have a token where they are parents. Lists of merges that are held against others. -/
import Derived.Test.YtfjcfkkcdbojlabGreatQa25
import Derived.BigQuiet
import Derived.Test.YtfjcfkkcdbojlabGreatQa23
namespace Go.Proofs.YtfjcfkkcdbojlabGreat
open Go.RowKit Go.Maps
set_option linter.unusedVariables false
set_option linter.unusedSimpArgs false
attribute [local go_sem ↓] Go.wp_at_zero Go.wp_at_succ

/-- Merges that can be added one by one, and the table that they make. -/
structure Rch (tx : List ByteArray) (mg : List (Int × Int)) : Prop where
  st : stT mg mg.length = (tx, mg)
  ok : ∀ j, j < mg.length → addC (stT mg j).1 (gm mg j) = 0

theorem stT_left (mg : List (Int × Int)) (m : Int × Int) : ∀ j, j ≤ mg.length → stT (mg ++ [m]) j = stT mg j := by
  intro j
  induction j with
  | zero => intro _; rfl
  | succ j ih =>
    intro h
    have h1 := ih (by omega)
    show (nextT (stT (mg ++ [m]) j).1 (gm (mg ++ [m]) j), nextM (stT (mg ++ [m]) j).1 (stT (mg ++ [m]) j).2 (gm (mg ++ [m]) j)) = (nextT (stT mg j).1 (gm mg j), nextM (stT mg j).1 (stT mg j).2 (gm mg j))
    rw [h1, gm_left mg m (by omega)]

theorem Rch.begin : Rch (tb 256) [] := ⟨rfl, fun j hj => by simp at hj⟩
theorem Rch.add {tx : List ByteArray} {mg : List (Int × Int)} (h : Rch tx mg) {m : Int × Int} (hc : addC tx m = 0) : Rch (tx ++ [addS tx m]) (mg ++ [m]) := by
  refine ⟨?_, fun j hj => ?_⟩
  · have h1 := stT_left mg m mg.length (Nat.le_refl _)
    rw [h.st] at h1
    rw [List.length_append, List.length_singleton]
    show (nextT (stT (mg ++ [m]) mg.length).1 (gm (mg ++ [m]) mg.length), nextM (stT (mg ++ [m]) mg.length).1 (stT (mg ++ [m]) mg.length).2 (gm (mg ++ [m]) mg.length)) = _
    rw [h1, gm_last]
    unfold nextT nextM
    rw [if_pos hc, if_pos hc]
  · simp at hj
    by_cases e : j < mg.length
    · rw [stT_left mg m j (by omega), gm_left mg m e]; exact h.ok j e
    · obtain rfl : j = mg.length := by omega
      rw [stT_left mg m _ (by omega), gm_last, h.st]; exact hc
theorem Rch.next {tx : List ByteArray} {mg : List (Int × Int)} (h : Rch tx mg) (m : Int × Int) : Rch (nextT tx m) (nextM tx mg m) := by
  unfold nextT nextM
  by_cases hc : addC tx m = 0
  · rw [if_pos hc, if_pos hc]; exact h.add hc
  · rw [if_neg hc, if_neg hc]; exact h
theorem Rch.tok {tx : List ByteArray} {mg : List (Int × Int)} (h : Rch tx mg) : Tok tx mg := by
  have := stT_tok mg mg.length
  rw [h.st] at this
  exact this

def gi (l : List Int) (i : Nat) : Int := l.getD i 0
/-- Numbers of two bytes that came in lie at ao. -/
def ReadsH (w : World) (ao : Option Addr) (n : Nat) (U : List Int) : Prop :=
  U.length = n ∧ (∀ i, 0 ≤ gi U i ∧ gi U i < 65536) ∧ (n = 0 ∨ ∃ b off, ao = some ⟨b, off, none⟩ ∧ ∀ i, i < n → w.cell? ⟨b, off + i, none⟩ = some (.int .u16 (gi U i)))
theorem ReadsH.kept {w w' : World} {ao : Option Addr} {n : Nat} {U : List Int} (h : ReadsH w ao n U) (hb : Below w.heap.size w w') : ReadsH w' ao n U := by
  refine ⟨h.1, h.2.1, ?_⟩
  rcases h.2.2 with h | ⟨b, off, rfl, hc⟩
  · exact Or.inl h
  · exact Or.inr ⟨b, off, rfl, fun i hi => (hb.cell (World.block_lt_of_cell? w _ (hc i hi))).trans (hc i hi)⟩
theorem ReadsH.at {w : World} {ao : Option Addr} {n : Nat} {U : List Int} (h : ReadsH w ao n U) {i : Nat} (hi : i + 1 < n) :
    ∃ b off, ao = some ⟨b, off, none⟩ ∧ b < w.heap.size ∧ w.cell? ⟨b, off + i, none⟩ = some (.int .u16 (gi U i)) ∧ w.cell? ⟨b, off + (i + 1), none⟩ = some (.int .u16 (gi U (i + 1))) := by
  rcases h.2.2 with h | ⟨b, off, rfl, hc⟩
  · omega
  · exact ⟨b, off, rfl, World.block_lt_of_cell? w _ (hc i (by omega)), hc i (by omega), hc (i + 1) hi⟩

end Go.Proofs.YtfjcfkkcdbojlabGreat

namespace Go.Proofs.YtfjcfkkcdbojlabGreat
open Go.RowKit Go.Maps
set_option linter.unusedVariables false
set_option linter.unusedSimpArgs false
attribute [local go_sem ↓] Go.wp_at_zero Go.wp_at_succ

theorem RT.reads {vb vm : Value} {tx : List ByteArray} {mg : List (Int × Int)} {w : World} (h : RT vb vm tx mg w) {ao : Option Addr} {n cap : Nat} (hv : vm = .slice ao n cap) : ReadsM w ao mg.length mg := by
  refine ⟨rfl, ?_⟩
  by_cases h0 : mg.length = 0
  · exact Or.inl h0
  · right
    obtain ⟨g, c, hv2, hg, _⟩ := h.mer (i := 0) (by omega)
    rw [hv] at hv2
    simp only [Value.slice.injEq] at hv2
    obtain ⟨rfl, rfl, rfl⟩ := hv2
    refine ⟨g, 0, rfl, fun i hi => ?_⟩
    obtain ⟨g2, c2, hv3, hg2, e0, e1⟩ := h.mer hi
    rw [hv] at hv3
    simp only [Value.slice.injEq, Option.some.injEq, Addr.mk.injEq] at hv3
    obtain ⟨⟨rfl, _, _⟩, _, _⟩ := hv3
    rw [Nat.zero_add]
    exact ⟨e0, e1⟩

/-- New of merges that can be added one by one: a table. -/
theorem new_rch (ao : Option Addr) (cap : Nat) {tx : List ByteArray} {mg : List (Int × Int)} (w : World) (hM : ReadsM w ao mg.length mg) (hR : Rch tx mg) :
    Calls Tryz.prog 69 #[.slice ao mg.length cap] w fun e w' => (∃ p F v0 v1 b2 b3, e = .returned (.tuple #[.pointer (some ⟨p, 0, none⟩), .int .i64 mg.length, .int .i64 0]) ∧ TAt F p v0 v1 b2 b3 tx mg (lgs tx) w' ∧ (∀ k ∈ F, w.heap.size ≤ k)) ∧ Below w.heap.size w w' := by
  have hk := hR.tok
  refine (new_any ao mg.length cap mg w hM (by have := hk.len; have := hk.cap; omega)).mono ?_
  rintro e w' ⟨h, hb⟩
  refine ⟨?_, hb⟩
  rcases h with ⟨k, hk, _, hne, _⟩ | ⟨_, p, F, v0, v1, b2, b3, rfl, hT, hF⟩
  · exact absurd (hR.ok k hk) hne
  · rw [hR.st] at hT
    exact ⟨p, F, v0, v1, b2, b3, rfl, hT, hF⟩

end Go.Proofs.YtfjcfkkcdbojlabGreat

namespace Go.Proofs.YtfjcfkkcdbojlabGreat
open Go.RowKit Go.Maps
set_option linter.unusedVariables false
set_option linter.unusedSimpArgs false

end Go.Proofs.YtfjcfkkcdbojlabGreat
