/-
  DERIVED. GIVEN WITH THE SEED: THE CARDS: each row of YteonoccefpkcgaaGreatDoorRows.lean that lists a variable, with what it lists TIED to the program's text (the seventh form; the later family's looks); each row that meets fmt, with fmt's text TOLD by the authors' own Lean function (tested against real Go, not proved from fmt's source: count such statements apart). THE CARD IS WHAT COUNTS. Prove the row's statement (the work); the ties are given (YteonoccefpkcgaaGreatDoorTie.lean); close each card by the builder's one call (the guide's Derived/Test/ToyasCard.lean, 'card_holds'). Laid BY PROGRAM, IN A SANDBOX (cutbox-door.mjs). By AI agents, Wed Nov 11 2026. No macro, syntax, notation, axiom, sorry.
-/
import Derived.Test.YteonoccefpkcgaaGreatDoorRows
import GoSem.ClaimSeven
namespace Go.Proofs.YteonoccefpkcgaaGreatDoor
namespace Rows

/-- THE TIED CARD OF 'ligaturelaw10.VocabItems'. -/
def vocabItemsCard : Claim7 := { stood := { row := vocabItemsRow, standIns := [], harness := (true, "edb95509f22d41bc7e1ed3564f1876e337185c537bf3ce92cb5bb41fbdb1216b"), looks := true }, kinds := [], alts := [], laidByText := true, laidKinds := [.data, .data, .data, .data, .sentinel, .sentinel, .data, .pinned], laidTests := true, laidLooks := .later }
def VocabItemsCardSaid : Prop := Claim7.holds Tryz.pinned (.plain (OpenSpec.ofChange vocabItemsSpec)) vocabItemsCard

/-- THE TIED CARD OF 'ligaturelaw10.VocabAlone'. -/
def vocabAloneCard : Claim7 := { stood := { row := vocabAloneRow, standIns := [], harness := (true, "edb95509f22d41bc7e1ed3564f1876e337185c537bf3ce92cb5bb41fbdb1216b"), looks := true }, kinds := [], alts := [], laidByText := true, laidKinds := [.data, .data, .data, .data, .sentinel, .sentinel, .data, .pinned], laidTests := true, laidLooks := .later }
def VocabAloneCardSaid : Prop := Claim7.holds Tryz.pinned (.plain (OpenSpec.ofChange vocabAloneSpec)) vocabAloneCard

/-- THE SECOND FORM's CARD OF 'ligaturelaw10.VocabItems'. -/
def vocabItemsUptoCard : Claim7 := { stood := { row := vocabItemsUptoRow, standIns := [], harness := (true, "edb95509f22d41bc7e1ed3564f1876e337185c537bf3ce92cb5bb41fbdb1216b"), looks := true }, kinds := [], alts := [], laidByText := true, laidKinds := [.data, .data, .data, .data, .sentinel, .sentinel, .data, .pinned], laidTests := true, laidLooks := .later }
def VocabItemsUptoCardSaid : Prop := Claim7.holds Tryz.pinned (.plain (OpenSpec.upto vocabItemsSpec)) vocabItemsUptoCard

/-- THE SECOND FORM's CARD OF 'ligaturelaw10.VocabAlone'. -/
def vocabAloneUptoCard : Claim7 := { stood := { row := vocabAloneUptoRow, standIns := [], harness := (true, "edb95509f22d41bc7e1ed3564f1876e337185c537bf3ce92cb5bb41fbdb1216b"), looks := true }, kinds := [], alts := [], laidByText := true, laidKinds := [.data, .data, .data, .data, .sentinel, .sentinel, .data, .pinned], laidTests := true, laidLooks := .later }
def VocabAloneUptoCardSaid : Prop := Claim7.holds Tryz.pinned (.plain (OpenSpec.upto vocabAloneSpec)) vocabAloneUptoCard
end Rows
end Go.Proofs.YteonoccefpkcgaaGreatDoor
