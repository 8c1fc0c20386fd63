/-
  DERIVED. GIVEN WITH THE SEED: THE CARDS: each row of YteiinkhdgppgbaaGreatDoorRows.lean that lists a variable, with what it lists TIED to the program's text (the seventh form; the later family's looks); each row that meets fmt, with fmt's text TOLD by the authors' own Lean function (tested against real Go, not proved from fmt's source: count such statements apart). THE CARD IS WHAT COUNTS. Prove the row's statement (the work); the ties are given (YteiinkhdgppgbaaGreatDoorTie.lean); close each card by the builder's one call (the guide's Derived/Test/ToyasCard.lean, 'card_holds'). Laid BY PROGRAM, IN A SANDBOX (cutbox-door.mjs). By AI agents, Wed Nov 11 2026. No macro, syntax, notation, axiom, sorry.
-/
import Derived.Test.YteiinkhdgppgbaaGreatDoorRows
import GoSem.ClaimSeven
namespace Go.Proofs.YteiinkhdgppgbaaGreatDoor
namespace Rows

/-- THE TIED CARD OF 'ligaturelaw06.SpecPrints'. -/
def specPrintsCard : Claim7 := { stood := { row := specPrintsRow, standIns := [], harness := (true, "980cad9ca9edaa2c36f4de577e91b1e2e5d76f48755f3b284423a6975c4ef83e"), looks := true }, kinds := [], alts := [], laidByText := true, laidKinds := [.data, .data, .data, .data, .sentinel, .sentinel, .data, .pinned], laidTests := true, laidLooks := .later }
def SpecPrintsCardSaid : Prop := Claim7.holds Tryz.pinned (.plain (OpenSpec.ofChange specPrintsSpec)) specPrintsCard

/-- THE TIED CARD OF 'ligaturelaw06.SpecParses'. -/
def specParsesCard : Claim7 := { stood := { row := specParsesRow, standIns := [], harness := (true, "980cad9ca9edaa2c36f4de577e91b1e2e5d76f48755f3b284423a6975c4ef83e"), looks := true }, kinds := [], alts := [], laidByText := true, laidKinds := [.data, .data, .data, .data, .sentinel, .sentinel, .data, .pinned], laidTests := true, laidLooks := .later }
def SpecParsesCardSaid : Prop := Claim7.holds Tryz.pinned (.plain (OpenSpec.ofChange specParsesSpec)) specParsesCard

/-- THE TIED CARD OF 'ligaturelaw06.SpecBack'. -/
def specBackCard : Claim7 := { stood := { row := specBackRow, standIns := [], harness := (true, "980cad9ca9edaa2c36f4de577e91b1e2e5d76f48755f3b284423a6975c4ef83e"), looks := true }, kinds := [], alts := [], laidByText := true, laidKinds := [.data, .data, .data, .data, .sentinel, .sentinel, .data, .pinned], laidTests := true, laidLooks := .later }
def SpecBackCardSaid : Prop := Claim7.holds Tryz.pinned (.plain (OpenSpec.ofChange specBackSpec)) specBackCard

/-- THE SECOND FORM's CARD OF 'ligaturelaw06.SpecPrints'. -/
def specPrintsUptoCard : Claim7 := { stood := { row := specPrintsUptoRow, standIns := [], harness := (true, "980cad9ca9edaa2c36f4de577e91b1e2e5d76f48755f3b284423a6975c4ef83e"), looks := true }, kinds := [], alts := [], laidByText := true, laidKinds := [.data, .data, .data, .data, .sentinel, .sentinel, .data, .pinned], laidTests := true, laidLooks := .later }
def SpecPrintsUptoCardSaid : Prop := Claim7.holds Tryz.pinned (.plain (OpenSpec.upto specPrintsSpec)) specPrintsUptoCard

/-- THE SECOND FORM's CARD OF 'ligaturelaw06.SpecParses'. -/
def specParsesUptoCard : Claim7 := { stood := { row := specParsesUptoRow, standIns := [], harness := (true, "980cad9ca9edaa2c36f4de577e91b1e2e5d76f48755f3b284423a6975c4ef83e"), looks := true }, kinds := [], alts := [], laidByText := true, laidKinds := [.data, .data, .data, .data, .sentinel, .sentinel, .data, .pinned], laidTests := true, laidLooks := .later }
def SpecParsesUptoCardSaid : Prop := Claim7.holds Tryz.pinned (.plain (OpenSpec.upto specParsesSpec)) specParsesUptoCard

/-- THE SECOND FORM's CARD OF 'ligaturelaw06.SpecBack'. -/
def specBackUptoCard : Claim7 := { stood := { row := specBackUptoRow, standIns := [], harness := (true, "980cad9ca9edaa2c36f4de577e91b1e2e5d76f48755f3b284423a6975c4ef83e"), looks := true }, kinds := [], alts := [], laidByText := true, laidKinds := [.data, .data, .data, .data, .sentinel, .sentinel, .data, .pinned], laidTests := true, laidLooks := .later }
def SpecBackUptoCardSaid : Prop := Claim7.holds Tryz.pinned (.plain (OpenSpec.upto specBackSpec)) specBackUptoCard
end Rows
end Go.Proofs.YteiinkhdgppgbaaGreatDoor
