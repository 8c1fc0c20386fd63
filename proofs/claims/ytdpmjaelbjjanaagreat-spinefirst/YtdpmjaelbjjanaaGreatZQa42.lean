/- EncodeItems: the walk. EncodeTexts: the walk. Made by mkej.py. -/
import Derived.Test.YtdpmjaelbjjanaaGreatZQa39
import Derived.Test.YtdpmjaelbjjanaaGreatZQa41
import Derived.Deep.RegionHeld3
namespace Go.Proofs.YtdpmjaelbjjanaaGreat
open Go.RowKit Go.Maps
set_option linter.unusedVariables false
set_option linter.unusedSimpArgs false

section
variable {w W W' : World} {B q qd : Nat} {z : VV} {s : Wf.Sp} {vb vm : Value} {a4 a5 a3 : Option Addr} {n4 c4 n5 c5 n3 c3 : Nat} {u u' : Int}
end
/-- The document's Encode. -/
theorem renc_any {s : Wf.Sp} {vb vm : Value} {a4 a5 a3 : Option Addr} {n4 c4 n5 c5 n3 c3 : Nat} {W : World} (h : DvP s vb vm a4 n4 a5 n5 a3 n3 W) {ai : Option Addr} {ni ci : Nat} {I : List Int} (hI : Mk.RdI W ai ni I) (hni : ni ≤ 50000) (hok : ∀ j, j < ni → okE s.specials (Mk.gI I j)) :
    Calls Tryz.prog 57 #[.agg #[vb, vm, .slice a4 n4 c4, .slice a5 n5 c5, .slice a3 n3 c3], .slice ai ni ci] W fun e w' => (∃ a2 c2, e = .returned (.slice a2 (enS s I).length c2) ∧ EnR W.heap.size (.slice a2 (enS s I).length c2) (enS s I) w') ∧ Below W.heap.size W w' := by
  have K := rencode10_any (ci := ci) (c4 := c4) (c5 := c5) (cap := c3) h.rt (tokT s) h.rc h.rj h.rd hI (by have := h.l4; omega) (by have := h.l5; omega) (by have := h.l3; omega) hni hok
  have e := encF_eq (cuE s) (mgT s) (tE s) s.specials I [] (fun x hx => by
    obtain ⟨j, hj, rfl⟩ := List.mem_iff_getElem.1 hx
    have := (hok j (by rw [← hI.1]; exact hj)).1
    simpa [Mk.gI, hj] using this)
  rw [e] at K
  simp only [itE, List.map_nil, List.nil_append] at K
  exact K
end Go.Proofs.YtdpmjaelbjjanaaGreat

namespace Go.Proofs.YtdpmjaelbjjanaaGreat
open Go.RowKit Go.Maps
set_option linter.unusedVariables false
set_option linter.unusedSimpArgs false

section
variable {w W W' : World} {B q qd : Nat} {z : VV} {s : Wf.Sp} {vb vm : Value} {a4 a5 a3 : Option Addr} {n4 c4 n5 c5 n3 c3 : Nat} {u u' : Int}
end
end Go.Proofs.YtdpmjaelbjjanaaGreat
