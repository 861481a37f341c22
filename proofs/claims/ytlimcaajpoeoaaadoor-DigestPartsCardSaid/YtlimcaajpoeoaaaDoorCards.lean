/-
  DERIVED. GIVEN WITH THE SEED: THE CARDS: each row of YtlimcaajpoeoaaaDoorRows.lean that lists a variable, with what it lists TIED to the program's text (the seventh form; the later family's looks); each row that meets fmt, with fmt's text TOLD by the authors' own Lean function (tested against real Go, not proved from fmt's source: count such statements apart). THE CARD IS WHAT COUNTS. Prove the row's statement (the work); the ties are given (YtlimcaajpoeoaaaDoorTie.lean); close each card by the builder's one call (the guide's Derived/Test/ToyasCard.lean, 'card_holds'). Laid BY PROGRAM, IN A SANDBOX (cutbox-door.mjs). By AI agents, Wed Nov 11 2026. No macro, syntax, notation, axiom, sorry.
-/
import Derived.Test.YtlimcaajpoeoaaaDoorRows
import GoSem.ClaimSeven
namespace Go.Proofs.YtlimcaajpoeoaaaDoor
namespace Rows

/-- THE TIED CARD OF 'nightjarlaw02.DigestTells'. -/
def digestTellsCard : Claim7 := { stood := { row := digestTellsRow, standIns := [], harness := (true, "9272fd23569e1c2a90afae17fbbca04a0dc0da878134b5c6a0ab86606fcb421f"), looks := false }, kinds := [], alts := [], laidByText := true, laidKinds := [.data], laidTests := true, laidLooks := .later }
def DigestTellsCardSaid : Prop := Claim7.holds Tryd.pinned (.plain (OpenSpec.ofChange digestTellsSpec)) digestTellsCard

/-- THE TIED CARD OF 'nightjarlaw02.DigestParts'. -/
def digestPartsCard : Claim7 := { stood := { row := digestPartsRow, standIns := [], harness := (true, "9272fd23569e1c2a90afae17fbbca04a0dc0da878134b5c6a0ab86606fcb421f"), looks := false }, kinds := [], alts := [], laidByText := true, laidKinds := [.data], laidTests := true, laidLooks := .later }
def DigestPartsCardSaid : Prop := Claim7.holds Tryd.pinned (.plain (OpenSpec.ofChange digestPartsSpec)) digestPartsCard

/-- THE TIED CARD OF 'nightjarlaw02.DigestRows'. -/
def digestRowsCard : Claim7 := { stood := { row := digestRowsRow, standIns := [], harness := (true, "9272fd23569e1c2a90afae17fbbca04a0dc0da878134b5c6a0ab86606fcb421f"), looks := false }, kinds := [], alts := [], laidByText := true, laidKinds := [.data], laidTests := true, laidLooks := .later }
def DigestRowsCardSaid : Prop := Claim7.holds Tryd.pinned (.plain (OpenSpec.ofChange digestRowsSpec)) digestRowsCard

/-- THE SECOND FORM's CARD OF 'nightjarlaw02.DigestTells'. -/
def digestTellsUptoCard : Claim7 := { stood := { row := digestTellsUptoRow, standIns := [], harness := (true, "9272fd23569e1c2a90afae17fbbca04a0dc0da878134b5c6a0ab86606fcb421f"), looks := false }, kinds := [], alts := [], laidByText := true, laidKinds := [.data], laidTests := true, laidLooks := .later }
def DigestTellsUptoCardSaid : Prop := Claim7.holds Tryd.pinned (.plain (OpenSpec.upto digestTellsSpec)) digestTellsUptoCard

/-- THE SECOND FORM's CARD OF 'nightjarlaw02.DigestParts'. -/
def digestPartsUptoCard : Claim7 := { stood := { row := digestPartsUptoRow, standIns := [], harness := (true, "9272fd23569e1c2a90afae17fbbca04a0dc0da878134b5c6a0ab86606fcb421f"), looks := false }, kinds := [], alts := [], laidByText := true, laidKinds := [.data], laidTests := true, laidLooks := .later }
def DigestPartsUptoCardSaid : Prop := Claim7.holds Tryd.pinned (.plain (OpenSpec.upto digestPartsSpec)) digestPartsUptoCard

/-- THE SECOND FORM's CARD OF 'nightjarlaw02.DigestRows'. -/
def digestRowsUptoCard : Claim7 := { stood := { row := digestRowsUptoRow, standIns := [], harness := (true, "9272fd23569e1c2a90afae17fbbca04a0dc0da878134b5c6a0ab86606fcb421f"), looks := false }, kinds := [], alts := [], laidByText := true, laidKinds := [.data], laidTests := true, laidLooks := .later }
def DigestRowsUptoCardSaid : Prop := Claim7.holds Tryd.pinned (.plain (OpenSpec.upto digestRowsSpec)) digestRowsUptoCard
end Rows
end Go.Proofs.YtlimcaajpoeoaaaDoor
