/-
  DERIVED. GIVEN WITH THE SEED: THE CARDS: each row of YthneahkiegobaaaDoorRows.lean that lists a variable, with what it lists TIED to the program's text (the seventh form; the later family's looks); each row that meets fmt, with fmt's text TOLD by the authors' own Lean function (tested against real Go, not proved from fmt's source: count such statements apart). THE CARD IS WHAT COUNTS. Prove the row's statement (the work); the ties are given (YthneahkiegobaaaDoorTie.lean); close each card by the builder's one call (the guide's Derived/Test/ToyasCard.lean, 'card_holds'). Laid BY PROGRAM, IN A SANDBOX (cutbox-door.mjs). By AI agents, Wed Nov 11 2026. No macro, syntax, notation, axiom, sorry.
-/
import Derived.Test.YthneahkiegobaaaDoorRows
import GoSem.ClaimSeven
namespace Go.Proofs.YthneahkiegobaaaDoor
namespace Rows

/-- THE TIED CARD OF 'ligaturelaw06.SpecLines'. -/
def specLinesCard : Claim7 := { stood := { row := specLinesRow, standIns := [], harness := (true, "5b7a8a9c181a88467a2646bc9821fd383cb53c5292be440b5cd36f142a560dd0"), looks := true }, kinds := [], alts := [], laidByText := true, laidKinds := [.data, .data, .data, .data, .sentinel, .sentinel, .data, .pinned], laidTests := true, laidLooks := .later }
def SpecLinesCardSaid : Prop := Claim7.holds Tryd.pinned (.plain (OpenSpec.ofChange specLinesSpec)) specLinesCard

/-- THE SECOND FORM's CARD OF 'ligaturelaw06.SpecLines'. -/
def specLinesUptoCard : Claim7 := { stood := { row := specLinesUptoRow, standIns := [], harness := (true, "5b7a8a9c181a88467a2646bc9821fd383cb53c5292be440b5cd36f142a560dd0"), looks := true }, kinds := [], alts := [], laidByText := true, laidKinds := [.data, .data, .data, .data, .sentinel, .sentinel, .data, .pinned], laidTests := true, laidLooks := .later }
def SpecLinesUptoCardSaid : Prop := Claim7.holds Tryd.pinned (.plain (OpenSpec.upto specLinesSpec)) specLinesUptoCard
end Rows
end Go.Proofs.YthneahkiegobaaaDoor
