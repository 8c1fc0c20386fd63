/- What is made of items: made. slices.Clone of a piece; rows of rows that are new. Contracts of package encode: Items, Text, Plain, Made; of no vocabulary. The pieces of right items: encode.Pieces. Pieces and what is made of them: pure facts. Pieces as they lie in memory, read; numbers put behind others while other rows stay. The laws' case: what a vocabulary is made of; Great and Of. The example of the laws of layer 12. -/
import Derived.Sort.CutIn
import Derived.Test.YtdpmjaelbjjanaaGreatZQa37
import Derived.Test.YtdpmjaelbjjanaaGreatZQa30
import Derived.Test.YtdpmjaelbjjanaaGreatZQa31
import Derived.Test.YtdpmjaelbjjanaaGreatZQa38
import Derived.Test.YtdpmjaelbjjanaaGreatZQa35
import Derived.Test.YtdpmjaelbjjanaaGreatZQa33
namespace Go.Proofs.YtdpmjaelbjjanaaGreat
open Go.RowKit Go.Maps
set_option linter.unusedVariables false
set_option linter.unusedSimpArgs false
attribute [local go_sem] Oper.semAt_some

/-- What is made of a piece; of pieces. -/
abbrev tE (s : Wf.Sp) : Int := (txT s).length
def mkE1 (s : Wf.Sp) (p : List Int) : List Int := mk1E (mgT s) (tE s) s.specials p
section
variable {w W W' : World} {Bo Bm Bt Bv pm p q : Nat} {L : List Int}
end

end Go.Proofs.YtdpmjaelbjjanaaGreat

namespace Go.Proofs.YtdpmjaelbjjanaaGreat
open Go.RowKit Go.Maps
set_option linter.unusedVariables false
set_option linter.unusedSimpArgs false

section
variable {w W W' : World} {Bo Bv q : Nat} {Ls : List (List Int)}
end
end Go.Proofs.YtdpmjaelbjjanaaGreat

namespace Go.Proofs.YtdpmjaelbjjanaaGreat
open Go.RowKit Go.Maps
set_option linter.unusedVariables false
set_option linter.unusedSimpArgs false

/-- What is made of items by a vocabulary. -/
abbrev enS (s : Wf.Sp) (I : List Int) : List Int := encG (cuE s) (mgT s) (tE s) s.specials I
/-- A row that is made of them. -/
def EnR (B : Nat) (v : Value) (A : List Int) (W : World) : Prop := W.ownsRow B 3 1 v A.length (Mk.iv A)
end Go.Proofs.YtdpmjaelbjjanaaGreat

namespace Go.Proofs.YtdpmjaelbjjanaaGreat
open Go.RowKit Go.Maps
set_option linter.unusedVariables false
set_option linter.unusedSimpArgs false
attribute [local go_sem] Oper.semAt_some

section
variable {w W W' : World} {Bo Bv q : Nat} {Ls : List (List Int)}
end
/-- The pieces so far. -/
def pcs {s : Wf.Sp} {I : List Int} (pre : List (PcT s I)) : List (List Int) := pre.map pcL

end Go.Proofs.YtdpmjaelbjjanaaGreat

namespace Go.Proofs.YtdpmjaelbjjanaaGreat
set_option linter.unusedVariables false
set_option linter.unusedSimpArgs false

section
variable {α : Type} {c : α → α → Bool}
end
end Go.Proofs.YtdpmjaelbjjanaaGreat

namespace Go.Proofs.YtdpmjaelbjjanaaGreat
open Go.RowKit Go.Maps
set_option linter.unusedVariables false
set_option linter.unusedSimpArgs false

end Go.Proofs.YtdpmjaelbjjanaaGreat

namespace Go.Proofs.YtdpmjaelbjjanaaGreat
open Go.RowKit Go.Maps
set_option linter.unusedVariables false
set_option linter.unusedSimpArgs false

/-- A case as it is handed in. -/
structure CsR where
  au : Option Addr
  nu : Nat
  cu : Nat
  U : List Int
  ac : Option Addr
  nc : Nat
  cc : Nat
  C : List (Int × Int × Int)
  aj : Option Addr
  nj : Nat
  cj : Nat
  J : List (Int × Int)
  ax : Option Addr
  nx : Nat
  cx : Nat
  X : List (Int × ByteArray)
abbrev CsR.cells (c : CsR) : Array Value := #[.slice c.au c.nu c.cu, .slice c.ac c.nc c.cc, .slice c.aj c.nj c.cj, .slice c.ax c.nx c.cx]
structure CsAt (c : CsR) (w : World) : Prop where
  hU : ReadsH w c.au c.nu c.U
  hC : Wf.Bq.RdC w c.ac c.nc c.C
  q2 : c.nc ≤ c.cc
  hJ : Wf.Bq.RdJ w c.aj c.nj c.J
  q3 : c.nj ≤ c.cj
  hX : Mk.RdS w c.ax c.nx c.X
  hn : c.nx ≤ 9223372036854775807
theorem CsAt.kept {c : CsR} {w w' : World} (h : CsAt c w) (hb : Below w.heap.size w w') : CsAt c w' := ⟨h.hU.kept hb, h.hC.kept hb, h.q2, h.hJ.kept hb, h.q3, h.hX.kept hb, h.hn⟩
/-- It is no greater than is asked. -/
structure CsF (c : CsR) : Prop where
  fu : c.nu ≤ 60
  fc : c.nc ≤ 20
  fj : c.nj ≤ 20
  fx : c.nx ≤ 40
def CgP (c : CsR) (e : Ending) : Prop := e = .returned (.int .i64 1) ∨ (e = .returned (.int .i64 0) ∧ CsF c)

set_option maxRecDepth 20000 in
set_option maxHeartbeats 4000000 in
theorem cgreat_any (c : CsR) (w : World) (h : CsAt c w) : Calls Tryz.prog 9 #[.agg c.cells] w fun e w' => CgP c e ∧ Below w.heap.size w w' := by
  have hlo := Wf.low_alloc w (.cells c.cells 27)
  have HB0 := hide hlo
  have hbx := heap_alloc_new w (.cells c.cells 27)
  have HX := hide h.hX.1
  have HG := hide (rgreat10_any c.au c.nu c.cu c.ac c.nc c.cc c.aj c.nj c.cj c.ax c.nx c.cx c.X _ (h.hX.kept hlo) h.hn)
  clear h hlo
  obtain ⟨au, nu, cu, U, ac, nc, cc, C, aj, nj, cj, J, ax, nx, cx, X⟩ := c
  simp only [CsR.cells] at *
  have y0 := Lib.cell_of_heap hbx 0
  have y1 := Lib.cell_of_heap hbx 1
  have y2 := Lib.cell_of_heap hbx 2
  have y3 := Lib.cell_of_heap hbx 3
  clear hbx
  go_enter Tryz.func9, Tryz.ntmps9
  go_wp2_with fail
  refine (unhide HG).mono ?_
  rintro e w1 ⟨⟨b, rfl, hb⟩, hb1⟩
  have HB1 := hide (below_step HB0.out hb1)
  clear hb1 HG y0 y1 y2 y3
  cases b with
  | true =>
    clear hb
    go_wp2
    (try simp only [Exit.inBlock, Exit.then])
    refine bodyPost_ret (v := .int .i64 1) (by simp [results, Tryz.results9, go_sem]) rfl ?_
    exact ⟨Or.inl rfl, HB1.out⟩
  | false =>
    obtain ⟨m1, m2, m3, m4⟩ := hb rfl
    have hf : CsF ⟨au, nu, cu, U, ac, nc, cc, C, aj, nj, cj, J, ax, nx, cx, X⟩ := ⟨m1, m2, m3, by have h4 := m4.1; have h5 := HX.out; dsimp only at h4 h5 ⊢; omega⟩
    have HF := hide hf
    clear hb m1 m2 m3 m4 hf
    go_wp2
    (try simp only [Exit.inBlock, Exit.then])
    refine bodyPost_ret (v := .int .i64 0) (by simp [results, Tryz.results9, go_sem]) rfl ?_
    exact ⟨Or.inr ⟨rfl, HF.out⟩, HB1.out⟩

/-- The document's vocabulary as it is read. -/
structure DvP (s : Wf.Sp) (vb vm : Value) (a4 : Option Addr) (n4 : Nat) (a5 : Option Addr) (n5 : Nat) (a3 : Option Addr) (n3 : Nat) (W : World) : Prop where
  rt : RT vb vm (txT s) (mgT s) W
  rc : Wf.Bq.RdC W a4 n4 s.classes
  rj : Wf.Bq.RdJ W a5 n5 s.joins
  rd : Mk.RdS W a3 n3 s.specials
  l4 : n4 ≤ 1000
  l5 : n5 ≤ 1000
  l3 : n3 ≤ 1000
theorem DvP.kept {s : Wf.Sp} {vb vm : Value} {a4 : Option Addr} {n4 : Nat} {a5 : Option Addr} {n5 : Nat} {a3 : Option Addr} {n3 : Nat} {W W' : World} (h : DvP s vb vm a4 n4 a5 n5 a3 n3 W) (hb : Below W.heap.size W W') : DvP s vb vm a4 n4 a5 n5 a3 n3 W' :=
  ⟨h.rt.kept hb, h.rc.kept hb, h.rj.kept hb, h.rd.kept hb, h.l4, h.l5, h.l3⟩
theorem smg_okb {s : Wf.Sp} {mg : List (Int × Int)} {ci ji si : Nat} (h : SmG mg ci ji si s) : okB s := ⟨h.cs, h.js⟩
theorem isV_rz {r : Nat} {W : World} (h : W.heap[r]? = some (.cells rz5 38 (0, 0))) : IsV r W := by
  refine ⟨_, _, h, ⟨by decide, by decide, by decide, by decide, by decide, by decide⟩, fun j v hj => ?_, by simp⟩
  have hm := Array.mem_of_getElem? hj
  simp only [List.mem_toArray, List.mem_cons, List.not_mem_nil, or_false] at hm
  rcases hm with rfl | rfl | rfl | rfl | rfl <;> exact ⟨fun _ e => (by cases e), fun _ e => (by cases e)⟩
end Go.Proofs.YtdpmjaelbjjanaaGreat

namespace Go.Proofs.YtdpmjaelbjjanaaGreat
open Go.RowKit Go.Maps
set_option linter.unusedVariables false
set_option linter.unusedSimpArgs false

end Go.Proofs.YtdpmjaelbjjanaaGreat
