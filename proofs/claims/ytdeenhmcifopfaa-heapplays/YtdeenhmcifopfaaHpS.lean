/- HeapPlays: what holds from act to act. -/
import Derived.Test.YtdeenhmcifopfaaHpR
import Derived.Test.YtdeenhmcifopfaaHpN
import Derived.BigRegion
namespace Go.Proofs.Ytdeenhmcifopfaa
open Go.RowKit
set_option linter.unusedVariables false
set_option linter.unusedSimpArgs false
attribute [local go_sem ↓] Go.wp_at_zero Go.wp_at_succ

theorem info_thing : (Try.prog.info? 31).map (fun i => (i.zero, i.size, i.bytes)) = some (some (.agg #[.int .i64 0, .int .i64 0, .int .i64 0]), 3, 24) := by kernel_rfl

/-- What holds ahead of act number j: the heap, and the list of the law's own, hold the same. -/
structure PlayAt (w : World) (base p j : Nat) (nv : Value) (v : Value) (tn : Int) (l : List It) (N : List Th) (wr : World) : Prop where
  hp : HAt 82 86 base p v tn l wr
  ord : Hp l
  perm : l.Perm (N.map Th.it)
  came : Came N
  lt : ∀ a ∈ N, a.t < tn ∧ a.i < j
  t0 : 0 ≤ tn
  t1 : tn ≤ j
  len : N.length ≤ j
  row : wr.ownsRow base 31 3 nv N.length (fl3 N)
  sep : Sep p v nv
  low : Below w.heap.size w wr
  b0 : w.heap.size ≤ base
  b1 : base ≤ wr.heap.size

theorem PlayAt.llen {w : World} {base p j : Nat} {nv v : Value} {tn : Int} {l : List It} {N : List Th} {wr : World} (h : PlayAt w base p j nv v tn l N wr) : l.length = N.length := by
  rw [h.perm.length_eq, List.length_map]
theorem PlayAt.form {w : World} {base p j : Nat} {nv v : Value} {tn : Int} {l : List It} {N : List Th} {wr : World} (h : PlayAt w base p j nv v tn l N wr) : ∃ ao cap, nv = .slice ao N.length cap := by
  rcases h.row.2 with ⟨rfl, h0⟩ | ⟨g, cap, cur, rfl, _⟩
  · exact ⟨none, 0, by rw [h0]⟩
  · exact ⟨_, cap, rfl⟩
theorem PlayAt.next {w : World} {base p j : Nat} {nv v : Value} {tn : Int} {l : List It} {N : List Th} {wr : World} (h : PlayAt w base p j nv v tn l N wr) : PlayAt w base p (j + 1) nv v tn l N wr :=
  ⟨h.hp, h.ord, h.perm, h.came, fun a ha => ⟨(h.lt a ha).1, by have := (h.lt a ha).2; omega⟩, h.t0, by have := h.t1; omega, by have := h.len; omega, h.row, h.sep, h.low, h.b0, h.b1⟩
theorem PlayAt.kept {w : World} {base p j : Nat} {nv v : Value} {tn : Int} {l : List It} {N : List Th} {wr w' : World} (h : PlayAt w base p j nv v tn l N wr) (hb : Below wr.heap.size wr w') : PlayAt w base p j nv v tn l N w' :=
  ⟨h.hp.kept hb, h.ord, h.perm, h.came, h.lt, h.t0, h.t1, h.len, row_kept h.row hb, h.sep, h.low.trans (hb.mono h.low.size), h.b0, Nat.le_trans h.b1 hb.size⟩

theorem PlayAt.clear {w : World} {base p j : Nat} {nv v v' : Value} {tn : Int} {l : List It} {N : List Th} {wr w' : World} (h : PlayAt w base p j nv v tn l N wr) (hH : HAt 82 86 base p v' tn [] w') (hF : Fr p v wr w') : PlayAt w base p (j + 1) (.slice none 0 0) v' tn [] [] w' :=
  ⟨hH, Hp.nil, List.Perm.refl _, List.Pairwise.nil, fun a ha => (by cases ha), h.t0, by have := h.t1; omega, by simp, World.ownsRow_nil _ _ _ _, Sep.nil _ _, h.low.trans (hF.below h.low.size (Nat.le_trans h.b0 h.hp.bp) (fun g e => Nat.le_trans h.b0 (h.hp.own_lt g e).1)), h.b0, Nat.le_trans h.b1 hF.size⟩

theorem PlayAt.fr {w : World} {base p j : Nat} {nv v : Value} {tn : Int} {l : List It} {N : List Th} {wr w' : World} (h : PlayAt w base p j nv v tn l N wr) (hF : Fr p v wr w') : Below w.heap.size w w' :=
  h.low.trans (hF.below h.low.size (Nat.le_trans h.b0 h.hp.bp) (fun g e => Nat.le_trans h.b0 (h.hp.own_lt g e).1))

theorem PlayAt.pushed {w : World} {base p j : Nat} {nv v v' : Value} {tn : Int} {l l' : List It} {N : List Th} {wr w1 w3 : World} (h : PlayAt w base p j nv v tn l N wr) (r q : Int) (hH : HAt 82 86 base p v' (tn + 1) l' w1) (hO : Hp l') (hp : l'.Perm (⟨r, q, tn, .int .i64 j⟩ :: l)) (hF : Fr p v wr w1) (hN : Nw wr v v')
    (o : Obj) {g cap1 : Nat} (hown : w3.ownsRow base 31 3 (.slice (some ⟨g, 0, none⟩) (N.length + 1) cap1) (N.length + 1) (fl3 N ++ [.int .i64 r, .int .i64 q, .int .i64 j])) (hg : (w1.alloc o).drew.grownBy w3 nv.ownBlock) (hat : nv.ownBlock = some g ∨ g = w1.heap.size + 1) :
    PlayAt w base p (j + 1) (.slice (some ⟨g, 0, none⟩) (N.length + 1) cap1) v' (tn + 1) l' (N ++ [⟨r, q, tn, j⟩]) w3 := by
  have hs := h.sep.nw h.row hN
  have hb1 : Below w1.heap.size w1 (w1.alloc o).drew := ((Below.refl _ _).alloc (Nat.le_refl _) _).drew
  have hH2 := hH.kept hb1
  have hsz : (w1.alloc o).drew.heap.size = w1.heap.size + 1 := by simp
  have hlow := h.fr hF
  refine ⟨hH2.grown hg hs.1 (fun k e => hs.2 k e), hO, ?_, ?_, ?_, by have := h.t0; omega, by have := h.t1; omega, by have := h.len; simp; omega, ?_, ?_, ?_, h.b0, ?_⟩
  · refine hp.trans ((h.perm.cons _).trans ?_)
    rw [List.map_append]
    exact List.perm_append_comm (l₁ := [⟨r, q, tn, .int .i64 j⟩]) (l₂ := N.map Th.it)
  · exact h.came.snoc _ (fun b hb => h.lt b hb)
  · intro a ha
    rcases List.mem_append.1 ha with ha | ha
    · have := h.lt a ha; omega
    · rw [List.mem_singleton.1 ha]; simp; omega
  · have e : (N ++ [(⟨r, q, tn, j⟩ : Th)]).length = N.length + 1 := by simp
    rw [e, fl3_append]
    exact hown
  · refine ⟨fun e => ?_, fun k hk e => ?_⟩
    · have e' : g = p := by simpa [Value.ownBlock] using e
      rcases hat with ha | ha
      · exact hs.1 (by rw [ha, e'])
      · have := hH.lt; omega
    · have e' : g = k := by simpa [Value.ownBlock] using hk
      rcases hat with ha | ha
      · exact hs.2 g ha (by rw [e, e'])
      · have := (hH.own_lt k e).2; omega
  · refine hlow.trans ((hb1.mono hlow.size).trans ⟨hg.os, hg.tape, hg.output, hg.size, fun k hk => hg.block k (by have := hlow.size; omega) (fun e => ?_)⟩)
    have := (h.row.lt k e.symm).1
    have := h.b0
    omega
  · have := h.b1; have := hF.size; have := hg.size; omega

theorem PlayAt.popped {w : World} {base p j : Nat} {nv v v' nv' : Value} {tn : Int} {l l' : List It} {N : List Th} {wr w2 w4 : World} (h : PlayAt w base p j nv v tn l N wr) (k : Nat) (hk : k < N.length) (hH : HAt 82 86 base p v' tn l' w2) (hO : Hp l') (hp : l'.Perm ((N.eraseIdx k).map Th.it)) (hF : Fr p v wr w2)
    (hb : Below w2.heap.size w2 w4) (hrow : w4.ownsRow base 31 3 nv' (N.eraseIdx k).length (fl3 (N.eraseIdx k))) (hnew : ∀ g, nv'.ownBlock = some g → w2.heap.size ≤ g) :
    PlayAt w base p (j + 1) nv' v' tn l' (N.eraseIdx k) w4 := by
  have hlow := h.fr hF
  refine ⟨hH.kept hb, hO, hp, h.came.erase k, fun a ha => ?_, h.t0, by have := h.t1; omega, ?_, hrow, ⟨fun e => ?_, fun g hg e => ?_⟩, hlow.trans (hb.mono hlow.size), h.b0, ?_⟩
  · have := h.lt a (List.mem_of_mem_eraseIdx ha); omega
  · have h1 := h.len; rw [List.length_eraseIdx]; split <;> omega
  · have := hnew p e; have := hH.lt; omega
  · have := hnew g hg; have := (hH.own_lt g e).2; omega
  · have := h.b1; have := hF.size; have := hb.size; omega

end Go.Proofs.Ytdeenhmcifopfaa
