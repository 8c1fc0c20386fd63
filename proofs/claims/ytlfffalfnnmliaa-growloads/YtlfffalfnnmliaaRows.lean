/-
  No cell of these rows narrows 'for every input' (looked for: loops, veiled, ifaces, maps, wideKeys, modest, calm, conditions, laid).
  DERIVED. THE GIVEN ROWS OF THIS SEAT. 6 by the template 'for every input the law returns true; each argument reads behind the call as it read before'; 0 by the template 'total and deterministic' (their statements: YtlfffalfnnmliaaTotals.lean).
  GIVEN WITH THE SEED: the statements are not yours to turn. If you find one false, say at which input.
  Laid BY PROGRAM, IN A SANDBOX (cutbox-rows.mjs): the forced cells as the released guide's own fill.sh prints them over the translation 48a1a6cfb93b26fb… (all of the seat's roots in one cut). By AI agents, Wed Nov 11 2026. No macro, syntax, notation, axiom, sorry.
-/
import Derived.Test.YtlfffalfnnmliaaChecked
import GoSem.Claim
import GoSem.ClaimJoined
import GoSem.ClaimMapViews
import Derived.JoinedTies
import Derived.KernelRfl
namespace Go.Proofs.Ytlfffalfnnmliaa
/- THE CELL 'sum', in the pinned program and in every row, IS THE sha256 OF THE DUMP (.gsa) THAT YtlfffalfnnmliaaProg.lean LOADS. Nothing in Lean hashes anything: it is a label: what it is worth is what the hold of that sum in a sandbox is worth. -/
noncomputable def Try.pinned : Pinned := { name := "ytlfffalfnnmliaa", sum := "48a1a6cfb93b26fb2af232ae0aea606ab541fedbaa9a432f0b58f3a680567742", checked := Try.checked }
namespace Rows
def none {H : Type} : Left H := { results := [], args := [] }

/-- 'ligaturelaw07.GrowImports': WHATEVER THE INPUT: true; the input reads as it did. -/
def growImportsSpec : ChangeSpec := { name := "growImports", fn := fun _ => fun
  | [d] => { results := [.lit (.bool true)], args := [d] }
  | _ => none }
def growImportsRow : OpenClaim := { program := "ytlfffalfnnmliaa", sum := "48a1a6cfb93b26fb2af232ae0aea606ab541fedbaa9a432f0b58f3a680567742", func := "ligature/ligaturelaw07.GrowImports", spec := "growImports", plainKeys := false, apart := false }
def GrowImportsSaid : Prop := growImportsRow.holds Try.pinned (OpenSpec.ofChange growImportsSpec)

/-- ITS FALSE NEIGHBOUR: 'it returns false'. Refute it at one input. -/
def growImportsWrong : ChangeSpec := { name := "growImports", fn := fun _ => fun
  | [d] => { results := [.lit (.bool false)], args := [d] }
  | _ => none }
def GrowImportsWrongFalsely : Prop := growImportsRow.holds Try.pinned (OpenSpec.ofChange growImportsWrong)

/-- 'ligaturelaw07.GrowLoads': WHATEVER THE INPUT: true; the input reads as it did. -/
def growLoadsSpec : ChangeSpec := { name := "growLoads", fn := fun _ => fun
  | [d] => { results := [.lit (.bool true)], args := [d] }
  | _ => none }
def growLoadsRow : OpenClaim := { program := "ytlfffalfnnmliaa", sum := "48a1a6cfb93b26fb2af232ae0aea606ab541fedbaa9a432f0b58f3a680567742", func := "ligature/ligaturelaw07.GrowLoads", spec := "growLoads", plainKeys := false, apart := false }
def GrowLoadsSaid : Prop := growLoadsRow.holds Try.pinned (OpenSpec.ofChange growLoadsSpec)

/-- ITS FALSE NEIGHBOUR: 'it returns false'. Refute it at one input. -/
def growLoadsWrong : ChangeSpec := { name := "growLoads", fn := fun _ => fun
  | [d] => { results := [.lit (.bool false)], args := [d] }
  | _ => none }
def GrowLoadsWrongFalsely : Prop := growLoadsRow.holds Try.pinned (OpenSpec.ofChange growLoadsWrong)

/-- 'ligaturelaw07.GrowPlain': WHATEVER THE INPUT: true; the input reads as it did. -/
def growPlainSpec : ChangeSpec := { name := "growPlain", fn := fun _ => fun
  | [d] => { results := [.lit (.bool true)], args := [d] }
  | _ => none }
def growPlainRow : OpenClaim := { program := "ytlfffalfnnmliaa", sum := "48a1a6cfb93b26fb2af232ae0aea606ab541fedbaa9a432f0b58f3a680567742", func := "ligature/ligaturelaw07.GrowPlain", spec := "growPlain", plainKeys := false, apart := false }
def GrowPlainSaid : Prop := growPlainRow.holds Try.pinned (OpenSpec.ofChange growPlainSpec)

/-- ITS FALSE NEIGHBOUR: 'it returns false'. Refute it at one input. -/
def growPlainWrong : ChangeSpec := { name := "growPlain", fn := fun _ => fun
  | [d] => { results := [.lit (.bool false)], args := [d] }
  | _ => none }
def GrowPlainWrongFalsely : Prop := growPlainRow.holds Try.pinned (OpenSpec.ofChange growPlainWrong)

/-- 'ligaturelaw07.GrowNone': WHATEVER THE INPUT: true; the input reads as it did. -/
def growNoneSpec : ChangeSpec := { name := "growNone", fn := fun _ => fun
  | [d] => { results := [.lit (.bool true)], args := [d] }
  | _ => none }
def growNoneRow : OpenClaim := { program := "ytlfffalfnnmliaa", sum := "48a1a6cfb93b26fb2af232ae0aea606ab541fedbaa9a432f0b58f3a680567742", func := "ligature/ligaturelaw07.GrowNone", spec := "growNone", plainKeys := false, apart := false }
def GrowNoneSaid : Prop := growNoneRow.holds Try.pinned (OpenSpec.ofChange growNoneSpec)

/-- ITS FALSE NEIGHBOUR: 'it returns false'. Refute it at one input. -/
def growNoneWrong : ChangeSpec := { name := "growNone", fn := fun _ => fun
  | [d] => { results := [.lit (.bool false)], args := [d] }
  | _ => none }
def GrowNoneWrongFalsely : Prop := growNoneRow.holds Try.pinned (OpenSpec.ofChange growNoneWrong)

/-- 'ligaturelaw08.BoundTables': WHATEVER THE INPUT: true; the input reads as it did. -/
def boundTablesSpec : ChangeSpec := { name := "boundTables", fn := fun _ => fun
  | [d1, d2, d3, d4] => { results := [.lit (.bool true)], args := [d1, d2, d3, d4] }
  | _ => none }
def boundTablesRow : OpenClaim := { program := "ytlfffalfnnmliaa", sum := "48a1a6cfb93b26fb2af232ae0aea606ab541fedbaa9a432f0b58f3a680567742", func := "ligature/ligaturelaw08.BoundTables", spec := "boundTables", plainKeys := false, apart := false }
def BoundTablesSaid : Prop := boundTablesRow.holds Try.pinned (OpenSpec.ofChange boundTablesSpec)

/-- ITS FALSE NEIGHBOUR: 'it returns false'. Refute it at one input. -/
def boundTablesWrong : ChangeSpec := { name := "boundTables", fn := fun _ => fun
  | [d1, d2, d3, d4] => { results := [.lit (.bool false)], args := [d1, d2, d3, d4] }
  | _ => none }
def BoundTablesWrongFalsely : Prop := boundTablesRow.holds Try.pinned (OpenSpec.ofChange boundTablesWrong)

/-- 'ligaturelaw08.BoundPieces': WHATEVER THE INPUT: true; the input reads as it did. -/
def boundPiecesSpec : ChangeSpec := { name := "boundPieces", fn := fun _ => fun
  | [d1, d2, d3, d4] => { results := [.lit (.bool true)], args := [d1, d2, d3, d4] }
  | _ => none }
def boundPiecesRow : OpenClaim := { program := "ytlfffalfnnmliaa", sum := "48a1a6cfb93b26fb2af232ae0aea606ab541fedbaa9a432f0b58f3a680567742", func := "ligature/ligaturelaw08.BoundPieces", spec := "boundPieces", plainKeys := false, apart := false }
def BoundPiecesSaid : Prop := boundPiecesRow.holds Try.pinned (OpenSpec.ofChange boundPiecesSpec)

/-- ITS FALSE NEIGHBOUR: 'it returns false'. Refute it at one input. -/
def boundPiecesWrong : ChangeSpec := { name := "boundPieces", fn := fun _ => fun
  | [d1, d2, d3, d4] => { results := [.lit (.bool false)], args := [d1, d2, d3, d4] }
  | _ => none }
def BoundPiecesWrongFalsely : Prop := boundPiecesRow.holds Try.pinned (OpenSpec.ofChange boundPiecesWrong)

/- THE SECOND FORM. 'bulk': how many values and letters a reading holds, each counted each time it is reached (what is shared counts as often as it is met; a slice's spare places count too). A statement '..UptoSaid' is the law's where the arguments, and the package variables that the reading takes, are together of bulk at most 1048576: NARROWER than '..Said'. Prove '..Said' where nothing that the law and all that it calls make is longer than what came in: it says more and counts as full. Else prove '..UptoSaid'. A law counts once. -/
mutual
def uptoBulk {H : Type} : DataW H → Nat
  | .lit (.string bytes) => bytes.length + 1
  | .lit _ => 1
  | .nil => 1
  | .ptr d => uptoBulk d + 1
  | .slice elems spare => uptoBulkAll elems + uptoBulkAll spare + 1
  | .agg parts => uptoBulkAll parts + 1
  | .iface _ d => uptoBulk d + 1
  | .map entries => uptoBulkEntries entries + 1
  | .held _ => 1
def uptoBulkAll {H : Type} : List (DataW H) → Nat
  | [] => 0
  | d :: r => uptoBulk d + uptoBulkAll r
def uptoBulkEntries {H : Type} : List (Lit × DataW H) → Nat
  | [] => 0
  | x :: r => uptoBulkEntry x + uptoBulkEntries r
def uptoBulkEntry {H : Type} : Lit × DataW H → Nat
  | (.string bytes, d) => bytes.length + uptoBulk d + 1
  | (_, d) => uptoBulk d + 1
 end
def uptoSmall : (H : Type) → List (DataW H) → Bool := fun _ ds => decide (uptoBulkAll ds ≤ 1048576)
def OpenSpec.upto (s : _root_.Go.ChangeSpec) : _root_.Go.OpenSpec := { _root_.Go.OpenSpec.ofChange s with cond := some uptoSmall }

/-- 'ligaturelaw07.GrowImports', WHERE WHAT IT READS IS OF BULK AT MOST 1048576: true; the input reads as it did. -/
def growImportsUptoRow : OpenClaim := { program := "ytlfffalfnnmliaa", sum := "48a1a6cfb93b26fb2af232ae0aea606ab541fedbaa9a432f0b58f3a680567742", func := "ligature/ligaturelaw07.GrowImports", spec := "growImports", plainKeys := false, apart := false, narrowed := true }
def GrowImportsUptoSaid : Prop := growImportsUptoRow.holds Try.pinned (OpenSpec.upto growImportsSpec)

/-- 'ligaturelaw07.GrowLoads', WHERE WHAT IT READS IS OF BULK AT MOST 1048576: true; the input reads as it did. -/
def growLoadsUptoRow : OpenClaim := { program := "ytlfffalfnnmliaa", sum := "48a1a6cfb93b26fb2af232ae0aea606ab541fedbaa9a432f0b58f3a680567742", func := "ligature/ligaturelaw07.GrowLoads", spec := "growLoads", plainKeys := false, apart := false, narrowed := true }
def GrowLoadsUptoSaid : Prop := growLoadsUptoRow.holds Try.pinned (OpenSpec.upto growLoadsSpec)

/-- 'ligaturelaw07.GrowPlain', WHERE WHAT IT READS IS OF BULK AT MOST 1048576: true; the input reads as it did. -/
def growPlainUptoRow : OpenClaim := { program := "ytlfffalfnnmliaa", sum := "48a1a6cfb93b26fb2af232ae0aea606ab541fedbaa9a432f0b58f3a680567742", func := "ligature/ligaturelaw07.GrowPlain", spec := "growPlain", plainKeys := false, apart := false, narrowed := true }
def GrowPlainUptoSaid : Prop := growPlainUptoRow.holds Try.pinned (OpenSpec.upto growPlainSpec)

/-- 'ligaturelaw07.GrowNone', WHERE WHAT IT READS IS OF BULK AT MOST 1048576: true; the input reads as it did. -/
def growNoneUptoRow : OpenClaim := { program := "ytlfffalfnnmliaa", sum := "48a1a6cfb93b26fb2af232ae0aea606ab541fedbaa9a432f0b58f3a680567742", func := "ligature/ligaturelaw07.GrowNone", spec := "growNone", plainKeys := false, apart := false, narrowed := true }
def GrowNoneUptoSaid : Prop := growNoneUptoRow.holds Try.pinned (OpenSpec.upto growNoneSpec)

/-- 'ligaturelaw08.BoundTables', WHERE WHAT IT READS IS OF BULK AT MOST 1048576: true; the input reads as it did. -/
def boundTablesUptoRow : OpenClaim := { program := "ytlfffalfnnmliaa", sum := "48a1a6cfb93b26fb2af232ae0aea606ab541fedbaa9a432f0b58f3a680567742", func := "ligature/ligaturelaw08.BoundTables", spec := "boundTables", plainKeys := false, apart := false, narrowed := true }
def BoundTablesUptoSaid : Prop := boundTablesUptoRow.holds Try.pinned (OpenSpec.upto boundTablesSpec)

/-- 'ligaturelaw08.BoundPieces', WHERE WHAT IT READS IS OF BULK AT MOST 1048576: true; the input reads as it did. -/
def boundPiecesUptoRow : OpenClaim := { program := "ytlfffalfnnmliaa", sum := "48a1a6cfb93b26fb2af232ae0aea606ab541fedbaa9a432f0b58f3a680567742", func := "ligature/ligaturelaw08.BoundPieces", spec := "boundPieces", plainKeys := false, apart := false, narrowed := true }
def BoundPiecesUptoSaid : Prop := boundPiecesUptoRow.holds Try.pinned (OpenSpec.upto boundPiecesSpec)

end Rows
end Go.Proofs.Ytlfffalfnnmliaa
