/- Contracts of the document's answer for tokens: Add: a token more. Contracts of the document's answer for tokens: Add, whatever comes, and New. Contracts of the document's answer for tokens: Pair. Contracts of the document's answer for tokens: New. -/
import Derived.Test.YtfjcfkkcdbojlabGreatQa24
import Derived.Lib.OwnKind
import Derived.Deep.AppendLies
namespace Go.Proofs.YtfjcfkkcdbojlabGreat
open Go.RowKit Go.Maps
set_option linter.unusedVariables false
set_option linter.unusedSimpArgs false
attribute [local go_sem ↓] Go.wp_at_zero Go.wp_at_succ

theorem copy_merges (B : Nat) {vm : Value} {mg : List (Int × Int)} {w : World} (h : w.ownsRow 0 104 2 vm mg.length (fl2 mg)) (hnl : mg = [] → vm = .slice none 0 0) (hl : mg.length ≤ 1000) (hB : B ≤ w.heap.size) :
    ∃ rv w', (Builtin.append_ #[36, 36] 36 #[.slice none 0 0, vm]).run Tryz.prog w = .ok rv w' ∧ w'.ownsRow B 104 2 rv mg.length (fl2 mg) ∧ Below w.heap.size w w' ∧ (∀ k, rv.ownBlock = some k → w.heap.size ≤ k) := by
  obtain ⟨i0, hi, hz0, hz1, hz2⟩ := info_parts info_merge
  by_cases he : mg = []
  · rw [hnl he]
    subst he
    exact ⟨_, w, run_append_owned_none w B 36 36 104 i0 2 Tryz.underlying36 hi (.slice none 0 0) 0 [] (World.ownsRow_nil _ _ _ _), World.ownsRow_nil _ _ _ _, Below.refl _ _, fun k e => by cases e⟩
  · have hp : 0 < mg.length := by cases mg with
      | nil => exact absurd rfl he
      | cons a r => simp
    obtain ⟨g, cap, rfl, _, hg⟩ := h.form hp
    obtain ⟨rv, w', hrun, hown, hgr, _, hat⟩ := run_append_own_at (P := Tryz.prog) w B 36 36 104 i0 _ 2 16 Tryz.underlying36 hi hz0 hz1 hz2 rfl (by omega) (.slice none 0 0) 0 [] (World.ownsRow_nil _ _ _ _) ⟨g, 0, none⟩ mg.length cap (fl2 mg) (fl2_len mg) (h.cells rfl) (fl2_one _) (by unfold maxLen; omega) (by omega) (by omega)
    simp only [Nat.zero_add, List.nil_append] at hown
    refine ⟨rv, w', hrun, hown, ⟨hgr.os, hgr.tape, hgr.output, hgr.size, fun k hk => hgr.block k hk (by simp [Value.ownBlock])⟩, fun k e => ?_⟩
    rcases hat with h1 | h1
    · rw [h1] at e; cases e
    · rw [h1] at e; have := Option.some.inj e; omega

theorem copy_texts (B : Nat) {vb : Value} {tx : List ByteArray} {w : World} (h : w.ownsRow 0 9 1 vb tx.length (tx.map Value.string)) (hp : 0 < tx.length) (hl : tx.length ≤ 1000) (hB : B ≤ w.heap.size) :
    ∃ g cap w', (Builtin.append_ #[37, 37] 37 #[.slice none 0 0, vb]).run Tryz.prog w = .ok (.slice (some ⟨g, 0, none⟩) tx.length cap) w' ∧ w'.ownsRow B 9 1 (.slice (some ⟨g, 0, none⟩) tx.length cap) tx.length (tx.map Value.string) ∧ Below w.heap.size w w' ∧ w.heap.size ≤ g := by
  obtain ⟨i0, hi, hz0, hz1, hz2⟩ := info_parts info_string
  obtain ⟨g, cap, rfl, _, hg⟩ := h.form hp
  have h1 : ∀ u ∈ tx.map Value.string, u.oneCell' = true := by
    intro u hu
    obtain ⟨t, _, rfl⟩ := List.mem_map.1 hu
    rfl
  obtain ⟨rv, w', hrun, hown, hgr, _, hat⟩ := run_append_own_at (P := Tryz.prog) w B 37 37 9 i0 _ 1 16 Tryz.underlying37 hi hz0 hz1 hz2 rfl (by omega) (.slice none 0 0) 0 [] (World.ownsRow_nil _ _ _ _) ⟨g, 0, none⟩ tx.length cap (tx.map Value.string) (by simp) (h.cells rfl) h1 (by unfold maxLen; omega) (by omega) (by omega)
  simp only [Nat.zero_add, List.nil_append] at hown
  obtain ⟨g2, cap2, rfl, _, _⟩ := hown.form hp
  refine ⟨g2, cap2, w', hrun, hown, ⟨hgr.os, hgr.tape, hgr.output, hgr.size, fun k hk => hgr.block k hk (by simp [Value.ownBlock])⟩, ?_⟩
  rcases hat with h1 | h1
  · cases h1
  · have h2 : g2 = w.heap.size := Option.some.inj h1
    omega

theorem row_past {B B' : Nat} {e1 e2 : TypeId} {s1 s2 n n' : Nat} {v v' : Value} {xs xs' : List Value} {W W' : World} (hT : W.ownsRow B e1 s1 v n xs) (hM : W.ownsRow B' e2 s2 v' n' xs') (hne : e1 ≠ e2) (hg : W.grownBy W' v'.ownBlock) : W'.ownsRow B e1 s1 v n xs := by
  refine hT.kept hg ?_
  cases hv : v.ownBlock with
  | none => exact Or.inl rfl
  | some g =>
    refine Or.inr fun e => ?_
    obtain ⟨c, f, h1⟩ := Lib.ownsRow_kind hT g hv
    obtain ⟨c', f', h2⟩ := Lib.ownsRow_kind hM g e.symm
    rw [h1] at h2
    simp only [Option.some.injEq, Obj.cells.injEq] at h2
    exact hne h2.2.1

theorem at_new {w : World} {c : Obj} {k : Nat} (h : k = w.heap.size) : (w.alloc c).heap[k]? = some c := by subst h; exact heap_alloc_new w c
theorem at_old {w : World} {c : Obj} {x : Obj} {k : Nat} (hk : k < w.heap.size) (h : w.heap[k]? = some x) : (w.alloc c).heap[k]? = some x := (Below.heap_alloc _ _ _ hk).trans h
theorem at_drew {w : World} {x : Obj} {k : Nat} (h : w.heap[k]? = some x) : w.drew.heap[k]? = some x := h
theorem at_grown {w w' : World} {row : Option Nat} {x : Obj} {k : Nat} (hg : w.grownBy w' row) (hk : k < w.heap.size) (hne : some k ≠ row) (h : w.heap[k]? = some x) : w'.heap[k]? = some x := (hg.block k hk hne).trans h

/-- A new block is not the row's. -/
theorem row_ne_new {B : Nat} {e : TypeId} {sz n : Nat} {v : Value} {xs : List Value} {W : World} (h : W.ownsRow B e sz v n xs) {k : Nat} (hk : W.heap.size ≤ k) : some k ≠ v.ownBlock := fun e => by have := (h.lt k e.symm).2; omega


section
variable {vb vm : Value} {tx : List ByteArray} {mg : List (Int × Int)} {w : World}

end

end Go.Proofs.YtfjcfkkcdbojlabGreat

namespace Go.Proofs.YtfjcfkkcdbojlabGreat
open Go.RowKit Go.Maps
set_option linter.unusedVariables false
set_option linter.unusedSimpArgs false
attribute [local go_sem ↓] Go.wp_at_zero Go.wp_at_succ

section
variable {vb vm : Value} {tx : List ByteArray} {mg : List (Int × Int)} {w : World}

end

theorem stT_of {M : List (Int × Int)} {k : Nat} : stT M (k + 1) = (nextT (stT M k).1 (gm M k), nextM (stT M k).1 (stT M k).2 (gm M k)) := rfl

end Go.Proofs.YtfjcfkkcdbojlabGreat

namespace Go.Proofs.YtfjcfkkcdbojlabGreat
open Go.RowKit Go.Maps
set_option linter.unusedVariables false
set_option linter.unusedSimpArgs false
attribute [local go_sem ↓] Go.wp_at_zero Go.wp_at_succ

/-- The token whose parents two are, or -1. -/
def Prd (mg : List (Int × Int)) (a b r : Int) : Prop := (r = -1 ∧ ∀ j, j < mg.length → gm mg j ≠ (a, b)) ∨ ∃ k : Nat, r = 256 + k ∧ k < mg.length ∧ gm mg k = (a, b)

section
variable {vb vm : Value} {tx : List ByteArray} {mg : List (Int × Int)} {w : World}

end

end Go.Proofs.YtfjcfkkcdbojlabGreat

namespace Go.Proofs.YtfjcfkkcdbojlabGreat
open Go.RowKit Go.Maps
set_option linter.unusedVariables false
set_option linter.unusedSimpArgs false
attribute [local go_sem ↓] Go.wp_at_zero Go.wp_at_succ

theorem below_drew' (w : World) : Below w.heap.size w w.drew := (Below.refl _ _).drew
theorem below_via' {a b c : World} (h : Below b.heap.size b c) (k : Below a.heap.size a b) : Below a.heap.size a c := k.trans (h.mono k.size)

/-- The return of an error: the boxes' table goes into the answer's box. -/
theorem rnew_out {w w2 W3 : World} {b5 q : Nat} {vb vm : Value} {tx : List ByteArray} {mg : List (Int × Int)} (hT : RT vb vm tx mg w2) (hF : FrL [q] w2 W3) (hq : w.heap.size < q)
    (h1 : ∀ k, vb.ownBlock = some k → w.heap.size < k ∧ k ≠ q) (h2 : ∀ k, vm.ownBlock = some k → w.heap.size < k ∧ k ≠ q) (hB : Below w.heap.size w w2) :
    RT vb vm tx mg ((W3.setCell ⟨w.heap.size, 0, none⟩ vb).setCell ⟨w.heap.size, 1, none⟩ vm) ∧ Below w.heap.size w ((W3.setCell ⟨w.heap.size, 0, none⟩ vb).setCell ⟨w.heap.size, 1, none⟩ vm) := by
  have hF2 : FrL [q, w.heap.size] w2 ((W3.setCell ⟨w.heap.size, 0, none⟩ vb).setCell ⟨w.heap.size, 1, none⟩ vm) := ((hF.mono (G := [q, w.heap.size]) (fun k hk => by simp at hk; simp [hk])).set (by simp) _).set (by simp) _
  refine ⟨hT.keptF hF2 (fun k e => ?_) (fun k e => ?_), hB.trans (hF2.below hB.size (fun k hk => ?_))⟩
  · have := h1 k e; simp; omega
  · have := h2 k e; simp; omega
  · simp at hk; omega

end Go.Proofs.YtfjcfkkcdbojlabGreat
