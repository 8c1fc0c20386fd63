/- EncodeItems: the walk. EncodeTexts: the walk. Made by mkej.py. -/
import Derived.Test.YtdpmjaelbjjanaaGreatQa39
import Derived.Test.YtdpmjaelbjjanaaGreatQa41
import Derived.Deep.RegionHeld3
namespace Go.Proofs.YtdpmjaelbjjanaaGreat
open Go.RowKit Go.Maps
set_option linter.unusedVariables false
set_option linter.unusedSimpArgs false

/-- Where a law stands: the vocabulary, and the document's in a box. -/
structure LwS (w : World) (B q qd : Nat) (z : VV) (s : Wf.Sp) (vb vm : Value) (a4 : Option Addr) (n4 c4 : Nat) (a5 : Option Addr) (n5 c5 : Nat) (a3 : Option Addr) (n3 c3 : Nat) (u : Int) (W : World) : Prop where
  bel : Below w.heap.size w W
  ve : Ve B q z s u W
  dv : DvP s vb vm a4 n4 a5 n5 a3 n3 W
  box : W.heap[qd]? = some (.cells #[vb, vm, .slice a4 n4 c4, .slice a5 n5 c5, .slice a3 n3 c3] 38 (0, 0))
section
variable {w W W' : World} {B q qd : Nat} {z : VV} {s : Wf.Sp} {vb vm : Value} {a4 a5 a3 : Option Addr} {n4 c4 n5 c5 n3 c3 : Nat} {u u' : Int}
theorem LwS.low (h : LwS w B q qd z s vb vm a4 n4 c4 a5 n5 c5 a3 n3 c3 u W) (hb : Below W.heap.size W W') : LwS w B q qd z s vb vm a4 n4 c4 a5 n5 c5 a3 n3 c3 u W' :=
  ⟨below_step h.bel hb, h.ve.low hb, h.dv.kept hb, by rw [hb.block _ (Array.getElem?_eq_some_iff.1 h.box).1]; exact h.box⟩
theorem LwS.cells (h : LwS w B q qd z s vb vm a4 n4 c4 a5 n5 c5 a3 n3 c3 u W) : W.cell? ⟨qd, 0, none⟩ = some vb ∧ W.cell? ⟨qd, 1, none⟩ = some vm ∧ W.cell? ⟨qd, 2, none⟩ = some (.slice a4 n4 c4) ∧ W.cell? ⟨qd, 3, none⟩ = some (.slice a5 n5 c5) ∧ W.cell? ⟨qd, 4, none⟩ = some (.slice a3 n3 c3) :=
  ⟨Lib.cell_of_heap h.box 0, Lib.cell_of_heap h.box 1, Lib.cell_of_heap h.box 2, Lib.cell_of_heap h.box 3, Lib.cell_of_heap h.box 4⟩
end
/-- The document's Encode. -/
theorem renc_any {s : Wf.Sp} {vb vm : Value} {a4 a5 a3 : Option Addr} {n4 c4 n5 c5 n3 c3 : Nat} {W : World} (h : DvP s vb vm a4 n4 a5 n5 a3 n3 W) {ai : Option Addr} {ni ci : Nat} {I : List Int} (hI : Mk.RdI W ai ni I) (hni : ni ≤ 50000) (hok : ∀ j, j < ni → okE s.specials (Mk.gI I j)) :
    Calls Tryz.prog 57 #[.agg #[vb, vm, .slice a4 n4 c4, .slice a5 n5 c5, .slice a3 n3 c3], .slice ai ni ci] W fun e w' => (∃ a2 c2, e = .returned (.slice a2 (enS s I).length c2) ∧ EnR W.heap.size (.slice a2 (enS s I).length c2) (enS s I) w') ∧ Below W.heap.size W w' := by
  have K := rencode10_any (ci := ci) (c4 := c4) (c5 := c5) (cap := c3) h.rt (tokT s) h.rc h.rj h.rd hI (by have := h.l4; omega) (by have := h.l5; omega) (by have := h.l3; omega) hni hok
  have e := encF_eq (cuE s) (mgT s) (tE s) s.specials I [] (fun x hx => by
    obtain ⟨j, hj, rfl⟩ := List.mem_iff_getElem.1 hx
    have := (hok j (by rw [← hI.1]; exact hj)).1
    simpa [Mk.gI, hj] using this)
  rw [e] at K
  simp only [itE, List.map_nil, List.nil_append] at K
  exact K
/-- Pieces of items that aren't right. -/
theorem epieces_bad {B q : Nat} {z : VV} {s : Wf.Sp} {u : Int} {w : World} (h : Ve B q z s u w) (hl : s.specials.length ≤ 1000) {ai : Option Addr} {ni ci : Nat} {I : List Int} (hI : Mk.RdI w ai ni I) (hni : ni ≤ 1000000000) (hw : ∀ j, j < ni → Mk.wfI (Mk.gI I j)) (hbad : ¬ ∀ j, j < I.length → okE s.specials (Mk.gI I j)) :
    Calls Tryz.prog 13 #[.pointer (some ⟨q, 0, none⟩), .slice ai ni ci] w fun e w' => e = .returned (.slice none 0 0) ∧ Below w.heap.size w w' := by
  have K := hide (right_any (ci := ci) h hl hI hni hw)
  have HBD := hide hbad
  clear h hl hI hni hw hbad
  refine (callsIn_wide (n := 10)).1 ?_
  refine callsIn_of_wp Tryz.func13 rfl trivial ?_ rfl
  simp only [Tryz.ntmps13, List.size_toArray, List.length_cons, List.length_nil, Nat.reduceAdd, Nat.reduceSub, Array.replicate_succ, Array.replicate_zero, List.push_toArray, List.append_toArray, List.nil_append, List.cons_append]
  gi_wp2_with fail
  refine ⟨trivial, (callsIn_wide.2 (unhide K)).mono ?_⟩
  rintro e w1 ⟨⟨b, rfl, hb1⟩, hb⟩
  cases b with
  | true => exact absurd (hb1.1 rfl) HBD.out
  | false =>
    have HB := hide hb
    clear hb K hb1
    gi_wp2
    (try simp only [Exit.inBlock, Exit.then])
    refine bodyPost_ret (v := .slice none 0 0) (by simp [results, Tryz.results13, go_sem]) rfl ?_
    exact ⟨rfl, HB.out⟩

end Go.Proofs.YtdpmjaelbjjanaaGreat

namespace Go.Proofs.YtdpmjaelbjjanaaGreat
open Go.RowKit Go.Maps
set_option linter.unusedVariables false
set_option linter.unusedSimpArgs false

section
variable {w W W' : World} {B q qd : Nat} {z : VV} {s : Wf.Sp} {vb vm : Value} {a4 a5 a3 : Option Addr} {n4 c4 n5 c5 n3 c3 : Nat} {u u' : Int}
end
end Go.Proofs.YtdpmjaelbjjanaaGreat
