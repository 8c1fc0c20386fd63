/- ChainEncodes: by any table what is made of any bytes. -/
import Derived.Test.YtblbbenfaafcoabChK
import Derived.Deep.RegionHeld3
namespace Go.Proofs.Ytblbbenfaafcoab
open Go.RowKit Go.Maps
set_option linter.unusedVariables false
set_option linter.unusedSimpArgs false
attribute [local go_sem ↓] Go.wp_at_zero Go.wp_at_succ

/-- A table and the document's, that in a box too. -/
structure TbS (w : World) (q : Nat) (a1 : Option Addr) (c1 : Nat) (a2 : Option Addr) (c2 : Nat) (tx : List ByteArray) (mg : List (Int × Int)) (p : Nat) (F : List Nat) (v0 v1 : Value) (b2 b3 : Nat) (W : World) : Prop where
  k : Rch tx mg
  R : RT (.slice a1 tx.length c1) (.slice a2 mg.length c2) tx mg W
  T : TAt F p v0 v1 b2 b3 tx mg (lgs tx) W
  X : Box2 q (.slice a1 tx.length c1) (.slice a2 mg.length c2) W
  B : Below w.heap.size w W
theorem TbS.next {w : World} {q : Nat} {a1 : Option Addr} {c1 : Nat} {a2 : Option Addr} {c2 : Nat} {tx : List ByteArray} {mg : List (Int × Int)} {p : Nat} {F : List Nat} {v0 v1 : Value} {b2 b3 : Nat} {W W' : World} (h : TbS w q a1 c1 a2 c2 tx mg p F v0 v1 b2 b3 W) (hb : Below W.heap.size W W') : TbS w q a1 c1 a2 c2 tx mg p F v0 v1 b2 b3 W' :=
  ⟨h.k, h.R.kept hb, h.T.keptB hb, h.X.kept hb, h.B.trans (hb.mono h.B.size)⟩
theorem undrew {W W' : World} (hb : Below W.drew.heap.size W.drew W') : Below W.heap.size W W' := ⟨hb.os, hb.tape, hb.output, hb.size, hb.block⟩

end Go.Proofs.Ytblbbenfaafcoab
