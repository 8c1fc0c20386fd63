/- HeapSorts: the walk. -/
import Derived.Test.YtdeenhmcifopfaaHpU
import Derived.Test.YtdeenhmcifopfaaHpV0
import Derived.Test.YtdeenhmcifopfaaHpN
import Derived.Laws.MakeOwn
namespace Go.Proofs.Ytdeenhmcifopfaa
open Go.RowKit
set_option linter.unusedVariables false
set_option linter.unusedSimpArgs false
attribute [local go_sem ↓] Go.wp_at_zero Go.wp_at_succ

theorem info_bool : (Try.prog.info? 4).map (fun i => (i.zero, i.size, i.bytes)) = some (some (.bool false), 1, 1) := by kernel_rfl

/-- What holds ahead of act number j, while acts are pushed. -/
structure Pushed (w : World) (A : List Th) (base p j : Nat) (v : Value) (l : List It) (wr : World) : Prop where
  hp : HAt 82 86 base p v j l wr
  ord : Hp l
  perm : l.Perm (actIts A j)
  low : Below w.heap.size w wr
  b0 : w.heap.size ≤ base
  b1 : base ≤ wr.heap.size

theorem Pushed.next {w : World} {A : List Th} {base p j : Nat} {v v' : Value} {l l' : List It} {wr w' : World} (h : Pushed w A base p j v l wr) (hH : HAt 82 86 base p v' ((j : Int) + 1) l' w') (hO : Hp l') (hP : l'.Perm (actIt A j :: l)) (hF : Fr p v wr w') : Pushed w A base p (j + 1) v' l' w' := by
  refine ⟨by simpa using hH, hO, ?_, h.low.trans (hF.below h.low.size (Nat.le_trans h.b0 h.hp.bp) (fun g e => Nat.le_trans h.b0 (h.hp.own_lt g e).1)), h.b0, Nat.le_trans h.b1 hF.size⟩
  rw [actIts_succ]
  exact hP.trans ((h.perm.cons _).trans (List.perm_append_comm (l₁ := [actIt A j])))

theorem Pushed.len {w : World} {A : List Th} {base p j : Nat} {v : Value} {l : List It} {wr : World} (h : Pushed w A base p j v l wr) : l.length = j := by rw [h.perm.length_eq, actIts_len]

/-- What holds ahead of pop number j. -/
structure Popping (w : World) (base p j n : Nat) (v1 v : Value) (l L : List It) (B2 : Nat) (nv : Value) (gs : Nat) (rr pp : Int) (wr : World) : Prop where
  hp : HAt 82 86 base p v n l wr
  ord : Hp l
  perm : l.Perm (L.drop j)
  own : v.ownBlock = v1.ownBlock
  dr : wr.ownsRow B2 3 1 nv n (L.map It.x)
  sn : wr.ownsRow gs 4 1 (.slice (some ⟨gs, 0, none⟩) n n) n (seenL n (L.take j))
  last : 0 < j → rr = (gi L (j - 1)).r ∧ pp = (gi L (j - 1)).p
  low : Below w.heap.size w wr
  b0 : w.heap.size ≤ base
  p1 : p < B2
  p2 : ∀ k, v1.ownBlock = some k → k < B2
  p3 : B2 ≤ gs
  p4 : ∀ k, nv.ownBlock = some k → k < gs

theorem Popping.sepD {w : World} {base p j n : Nat} {v1 v : Value} {l L : List It} {B2 : Nat} {nv : Value} {gs : Nat} {rr pp : Int} {wr : World} (h : Popping w base p j n v1 v l L B2 nv gs rr pp wr) : Sep p v nv := by
  refine ⟨fun e => ?_, fun k hk e => ?_⟩
  · have := (h.dr.lt p e).1; have := h.p1; omega
  · have := (h.dr.lt k hk).1; rw [h.own] at e; have := h.p2 k e; omega
theorem Popping.sepS {w : World} {base p j n : Nat} {v1 v : Value} {l L : List It} {B2 : Nat} {nv : Value} {gs : Nat} {rr pp : Int} {wr : World} (h : Popping w base p j n v1 v l L B2 nv gs rr pp wr) : Sep p v (.slice (some ⟨gs, 0, none⟩) n n) := by
  have h3 := h.p3
  refine ⟨fun e => ?_, fun k hk e => ?_⟩
  · have := h.p1; simp [Value.ownBlock] at e; omega
  · simp [Value.ownBlock] at hk; rw [h.own] at e; have := h.p2 k e; omega

theorem Popping.next {w : World} {A : List Th} {base p j n : Nat} {v1 v v' : Value} {l l' L : List It} {B2 : Nat} {nv : Value} {gs : Nat} {rr pp : Int} {wr w2 : World} (h : Popping w base p j n v1 v l L B2 nv gs rr pp wr) (hD : Drained A n L) (hj : j < n) (x : Nat) (hx : x < n) (hxe : gi L j = actIt A x)
    (hH : HAt 82 86 base p v' n l' w2) (hO : Hp l') (hP : l'.Perm (L.drop (j + 1))) (hF : Fr p v wr w2) (hv : v'.ownBlock = v.ownBlock) :
    Popping w base p (j + 1) n v1 v' l' L B2 nv gs (gi L j).r (gi L j).p (w2.setCell ⟨gs, x, none⟩ (.bool true)) := by
  have hs := row_fr h.sn hF h.sepS
  have hd := row_fr h.dr hF h.sepD
  obtain ⟨hs2, hg⟩ := hs.stored x (.bool true)
  have hp3 := h.p3
  have hp1 := h.p1
  have hlow : Below w.heap.size w w2 := h.low.trans (hF.below h.low.size (Nat.le_trans h.b0 h.hp.bp) (fun g e => Nat.le_trans h.b0 (h.hp.own_lt g e).1))
  refine ⟨hH.grown hg (by simp; omega) (fun k e1 e2 => ?_), hO, hP, hv.trans h.own, ?_, ?_, fun _ => ⟨rfl, rfl⟩, hlow.trans ⟨hg.os, hg.tape, hg.output, hg.size, fun k hk => hg.block k (Nat.lt_of_lt_of_le hk hlow.size) (fun e => ?_)⟩, h.b0, h.p1, h.p2, h.p3, h.p4⟩
  · simp at e1
    rw [hv, h.own] at e2
    have := h.p2 k e2
    omega
  · exact hd.kept hg (by
      cases e : nv.ownBlock with
      | none => exact Or.inl rfl
      | some k => right; intro e2; have := h.p4 k e; simp at e2; omega)
  · rw [take_gi (by rw [hD.len]; exact hj), ← seenL_set hx (by rw [hxe]; rfl)]
    exact hs2
  · simp at e
    have := h.b0
    have := h.hp.bp
    omega

end Go.Proofs.Ytdeenhmcifopfaa
