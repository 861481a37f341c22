/-
  DERIVED. GIVEN WITH THE SEED: THE CARDS: each row of YtocibmjiailbgaaDoorRows.lean that lists a variable, with what it lists TIED to the program's text (the seventh form; the later family's looks); each row that meets fmt, with fmt's text TOLD by the authors' own Lean function (tested against real Go, not proved from fmt's source: count such statements apart). THE CARD IS WHAT COUNTS. Prove the row's statement (the work); the ties are given (YtocibmjiailbgaaDoorTie.lean); close each card by the builder's one call (the guide's Derived/Test/ToyasCard.lean, 'card_holds'). Laid BY PROGRAM, IN A SANDBOX (cutbox-door.mjs). By AI agents, Wed Nov 11 2026. No macro, syntax, notation, axiom, sorry.
-/
import Derived.Test.YtocibmjiailbgaaDoorRows
import GoSem.ClaimSeven
namespace Go.Proofs.YtocibmjiailbgaaDoor
namespace Rows

/-- THE TIED CARD OF 'nightjarlaw16.SubTells'. -/
def subTellsCard : Claim7 := { stood := { row := subTellsRow, standIns := [], harness := (true, "86a03212fe696189412199c33f125d00c7a5951b67f742dced27a5f7927cbc1c"), looks := false }, kinds := [], alts := [], laidByText := true, laidKinds := [.data, .data], laidTests := true, laidLooks := .later }
def SubTellsCardSaid : Prop := Claim7.holds Tryd.pinned (.plain (OpenSpec.ofChange subTellsSpec)) subTellsCard

/-- THE TIED CARD OF 'nightjarlaw16.SubMay'. -/
def subMayCard : Claim7 := { stood := { row := subMayRow, standIns := [], harness := (true, "86a03212fe696189412199c33f125d00c7a5951b67f742dced27a5f7927cbc1c"), looks := false }, kinds := [], alts := [], laidByText := true, laidKinds := [.data, .data], laidTests := true, laidLooks := .later }
def SubMayCardSaid : Prop := Claim7.holds Tryd.pinned (.plain (OpenSpec.ofChange subMaySpec)) subMayCard

/-- THE TIED CARD OF 'nightjarlaw16.SubChanges'. -/
def subChangesCard : Claim7 := { stood := { row := subChangesRow, standIns := [], harness := (true, "86a03212fe696189412199c33f125d00c7a5951b67f742dced27a5f7927cbc1c"), looks := false }, kinds := [], alts := [], laidByText := true, laidKinds := [.data, .data], laidTests := true, laidLooks := .later }
def SubChangesCardSaid : Prop := Claim7.holds Tryd.pinned (.plain (OpenSpec.ofChange subChangesSpec)) subChangesCard

/-- THE TIED CARD OF 'nightjarlaw16.SubBlocks'. -/
def subBlocksCard : Claim7 := { stood := { row := subBlocksRow, standIns := [], harness := (true, "86a03212fe696189412199c33f125d00c7a5951b67f742dced27a5f7927cbc1c"), looks := false }, kinds := [], alts := [], laidByText := true, laidKinds := [.data, .data], laidTests := true, laidLooks := .later }
def SubBlocksCardSaid : Prop := Claim7.holds Tryd.pinned (.plain (OpenSpec.ofChange subBlocksSpec)) subBlocksCard

/-- THE SECOND FORM's CARD OF 'nightjarlaw16.SubTells'. -/
def subTellsUptoCard : Claim7 := { stood := { row := subTellsUptoRow, standIns := [], harness := (true, "86a03212fe696189412199c33f125d00c7a5951b67f742dced27a5f7927cbc1c"), looks := false }, kinds := [], alts := [], laidByText := true, laidKinds := [.data, .data], laidTests := true, laidLooks := .later }
def SubTellsUptoCardSaid : Prop := Claim7.holds Tryd.pinned (.plain (OpenSpec.upto subTellsSpec)) subTellsUptoCard

/-- THE SECOND FORM's CARD OF 'nightjarlaw16.SubMay'. -/
def subMayUptoCard : Claim7 := { stood := { row := subMayUptoRow, standIns := [], harness := (true, "86a03212fe696189412199c33f125d00c7a5951b67f742dced27a5f7927cbc1c"), looks := false }, kinds := [], alts := [], laidByText := true, laidKinds := [.data, .data], laidTests := true, laidLooks := .later }
def SubMayUptoCardSaid : Prop := Claim7.holds Tryd.pinned (.plain (OpenSpec.upto subMaySpec)) subMayUptoCard

/-- THE SECOND FORM's CARD OF 'nightjarlaw16.SubChanges'. -/
def subChangesUptoCard : Claim7 := { stood := { row := subChangesUptoRow, standIns := [], harness := (true, "86a03212fe696189412199c33f125d00c7a5951b67f742dced27a5f7927cbc1c"), looks := false }, kinds := [], alts := [], laidByText := true, laidKinds := [.data, .data], laidTests := true, laidLooks := .later }
def SubChangesUptoCardSaid : Prop := Claim7.holds Tryd.pinned (.plain (OpenSpec.upto subChangesSpec)) subChangesUptoCard

/-- THE SECOND FORM's CARD OF 'nightjarlaw16.SubBlocks'. -/
def subBlocksUptoCard : Claim7 := { stood := { row := subBlocksUptoRow, standIns := [], harness := (true, "86a03212fe696189412199c33f125d00c7a5951b67f742dced27a5f7927cbc1c"), looks := false }, kinds := [], alts := [], laidByText := true, laidKinds := [.data, .data], laidTests := true, laidLooks := .later }
def SubBlocksUptoCardSaid : Prop := Claim7.holds Tryd.pinned (.plain (OpenSpec.upto subBlocksSpec)) subBlocksUptoCard
end Rows
end Go.Proofs.YtocibmjiailbgaaDoor
