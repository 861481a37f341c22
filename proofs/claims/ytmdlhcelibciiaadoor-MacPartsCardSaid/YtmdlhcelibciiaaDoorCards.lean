/-
  DERIVED. GIVEN WITH THE SEED: THE CARDS: each row of YtmdlhcelibciiaaDoorRows.lean that lists a variable, with what it lists TIED to the program's text (the seventh form; the later family's looks); each row that meets fmt, with fmt's text TOLD by the authors' own Lean function (tested against real Go, not proved from fmt's source: count such statements apart). THE CARD IS WHAT COUNTS. Prove the row's statement (the work); the ties are given (YtmdlhcelibciiaaDoorTie.lean); close each card by the builder's one call (the guide's Derived/Test/ToyasCard.lean, 'card_holds'). Laid BY PROGRAM, IN A SANDBOX (cutbox-door.mjs). By AI agents, Wed Nov 11 2026. No macro, syntax, notation, axiom, sorry.
-/
import Derived.Test.YtmdlhcelibciiaaDoorRows
import GoSem.ClaimSeven
namespace Go.Proofs.YtmdlhcelibciiaaDoor
namespace Rows

/-- THE TIED CARD OF 'nightjarlaw03.MacTells'. -/
def macTellsCard : Claim7 := { stood := { row := macTellsRow, standIns := [], harness := (true, "5c17184cddcb2dbdd031366b2b1156dfbdb479ae8fc2dc600f832884b4e648ae"), looks := false }, kinds := [], alts := [], laidByText := true, laidKinds := [.data], laidTests := true, laidLooks := .later }
def MacTellsCardSaid : Prop := Claim7.holds Tryd.pinned (.plain (OpenSpec.ofChange macTellsSpec)) macTellsCard

/-- THE TIED CARD OF 'nightjarlaw03.MacParts'. -/
def macPartsCard : Claim7 := { stood := { row := macPartsRow, standIns := [], harness := (true, "5c17184cddcb2dbdd031366b2b1156dfbdb479ae8fc2dc600f832884b4e648ae"), looks := false }, kinds := [], alts := [], laidByText := true, laidKinds := [.data], laidTests := true, laidLooks := .later }
def MacPartsCardSaid : Prop := Claim7.holds Tryd.pinned (.plain (OpenSpec.ofChange macPartsSpec)) macPartsCard

/-- THE TIED CARD OF 'nightjarlaw03.MacEqual'. -/
def macEqualCard : Claim7 := { stood := { row := macEqualRow, standIns := [], harness := (true, "5c17184cddcb2dbdd031366b2b1156dfbdb479ae8fc2dc600f832884b4e648ae"), looks := false }, kinds := [], alts := [], laidByText := true, laidKinds := [.data], laidTests := true, laidLooks := .later }
def MacEqualCardSaid : Prop := Claim7.holds Tryd.pinned (.plain (OpenSpec.ofChange macEqualSpec)) macEqualCard

/-- THE TIED CARD OF 'nightjarlaw03.MacNested'. -/
def macNestedCard : Claim7 := { stood := { row := macNestedRow, standIns := [], harness := (true, "5c17184cddcb2dbdd031366b2b1156dfbdb479ae8fc2dc600f832884b4e648ae"), looks := false }, kinds := [], alts := [], laidByText := true, laidKinds := [.data], laidTests := true, laidLooks := .later }
def MacNestedCardSaid : Prop := Claim7.holds Tryd.pinned (.plain (OpenSpec.ofChange macNestedSpec)) macNestedCard

/-- THE TIED CARD OF 'nightjarlaw03.MacRows'. -/
def macRowsCard : Claim7 := { stood := { row := macRowsRow, standIns := [], harness := (true, "5c17184cddcb2dbdd031366b2b1156dfbdb479ae8fc2dc600f832884b4e648ae"), looks := false }, kinds := [], alts := [], laidByText := true, laidKinds := [.data], laidTests := true, laidLooks := .later }
def MacRowsCardSaid : Prop := Claim7.holds Tryd.pinned (.plain (OpenSpec.ofChange macRowsSpec)) macRowsCard

/-- THE SECOND FORM's CARD OF 'nightjarlaw03.MacTells'. -/
def macTellsUptoCard : Claim7 := { stood := { row := macTellsUptoRow, standIns := [], harness := (true, "5c17184cddcb2dbdd031366b2b1156dfbdb479ae8fc2dc600f832884b4e648ae"), looks := false }, kinds := [], alts := [], laidByText := true, laidKinds := [.data], laidTests := true, laidLooks := .later }
def MacTellsUptoCardSaid : Prop := Claim7.holds Tryd.pinned (.plain (OpenSpec.upto macTellsSpec)) macTellsUptoCard

/-- THE SECOND FORM's CARD OF 'nightjarlaw03.MacParts'. -/
def macPartsUptoCard : Claim7 := { stood := { row := macPartsUptoRow, standIns := [], harness := (true, "5c17184cddcb2dbdd031366b2b1156dfbdb479ae8fc2dc600f832884b4e648ae"), looks := false }, kinds := [], alts := [], laidByText := true, laidKinds := [.data], laidTests := true, laidLooks := .later }
def MacPartsUptoCardSaid : Prop := Claim7.holds Tryd.pinned (.plain (OpenSpec.upto macPartsSpec)) macPartsUptoCard

/-- THE SECOND FORM's CARD OF 'nightjarlaw03.MacEqual'. -/
def macEqualUptoCard : Claim7 := { stood := { row := macEqualUptoRow, standIns := [], harness := (true, "5c17184cddcb2dbdd031366b2b1156dfbdb479ae8fc2dc600f832884b4e648ae"), looks := false }, kinds := [], alts := [], laidByText := true, laidKinds := [.data], laidTests := true, laidLooks := .later }
def MacEqualUptoCardSaid : Prop := Claim7.holds Tryd.pinned (.plain (OpenSpec.upto macEqualSpec)) macEqualUptoCard

/-- THE SECOND FORM's CARD OF 'nightjarlaw03.MacNested'. -/
def macNestedUptoCard : Claim7 := { stood := { row := macNestedUptoRow, standIns := [], harness := (true, "5c17184cddcb2dbdd031366b2b1156dfbdb479ae8fc2dc600f832884b4e648ae"), looks := false }, kinds := [], alts := [], laidByText := true, laidKinds := [.data], laidTests := true, laidLooks := .later }
def MacNestedUptoCardSaid : Prop := Claim7.holds Tryd.pinned (.plain (OpenSpec.upto macNestedSpec)) macNestedUptoCard

/-- THE SECOND FORM's CARD OF 'nightjarlaw03.MacRows'. -/
def macRowsUptoCard : Claim7 := { stood := { row := macRowsUptoRow, standIns := [], harness := (true, "5c17184cddcb2dbdd031366b2b1156dfbdb479ae8fc2dc600f832884b4e648ae"), looks := false }, kinds := [], alts := [], laidByText := true, laidKinds := [.data], laidTests := true, laidLooks := .later }
def MacRowsUptoCardSaid : Prop := Claim7.holds Tryd.pinned (.plain (OpenSpec.upto macRowsSpec)) macRowsUptoCard
end Rows
end Go.Proofs.YtmdlhcelibciiaaDoor
