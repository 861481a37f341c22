/-
  DERIVED. GIVEN WITH THE SEED: THE CARDS: each row of YthppbklbamakcaaDoorRows.lean that lists a variable, with what it lists TIED to the program's text (the seventh form; the later family's looks); each row that meets fmt, with fmt's text TOLD by the authors' own Lean function (tested against real Go, not proved from fmt's source: count such statements apart). THE CARD IS WHAT COUNTS. Prove the row's statement (the work); the ties are given (YthppbklbamakcaaDoorTie.lean); close each card by the builder's one call (the guide's Derived/Test/ToyasCard.lean, 'card_holds'). Laid BY PROGRAM, IN A SANDBOX (cutbox-door.mjs). By AI agents, Wed Nov 11 2026. No macro, syntax, notation, axiom, sorry.
-/
import Derived.Test.YthppbklbamakcaaDoorRows
import GoSem.ClaimSeven
namespace Go.Proofs.YthppbklbamakcaaDoor
namespace Rows

/-- THE TIED CARD OF 'nightjarlaw06.CookieTells'. -/
def cookieTellsCard : Claim7 := { stood := { row := cookieTellsRow, standIns := [], harness := (true, "8a23c9b7e1e3fe7b65856c17b0acd3ee123fcb3caf3f04152f6caaf05f0398a8"), looks := false }, kinds := [], alts := [], laidByText := true, laidKinds := [.data], laidTests := true, laidLooks := .later }
def CookieTellsCardSaid : Prop := Claim7.holds Tryd.pinned (.plain (OpenSpec.ofChange cookieTellsSpec)) cookieTellsCard

/-- THE TIED CARD OF 'nightjarlaw06.CookieBack'. -/
def cookieBackCard : Claim7 := { stood := { row := cookieBackRow, standIns := [], harness := (true, "8a23c9b7e1e3fe7b65856c17b0acd3ee123fcb3caf3f04152f6caaf05f0398a8"), looks := false }, kinds := [], alts := [], laidByText := true, laidKinds := [.data], laidTests := true, laidLooks := .later }
def CookieBackCardSaid : Prop := Claim7.holds Tryd.pinned (.plain (OpenSpec.ofChange cookieBackSpec)) cookieBackCard

/-- THE TIED CARD OF 'nightjarlaw06.CookieOnce'. -/
def cookieOnceCard : Claim7 := { stood := { row := cookieOnceRow, standIns := [], harness := (true, "8a23c9b7e1e3fe7b65856c17b0acd3ee123fcb3caf3f04152f6caaf05f0398a8"), looks := false }, kinds := [], alts := [], laidByText := true, laidKinds := [.data], laidTests := true, laidLooks := .later }
def CookieOnceCardSaid : Prop := Claim7.holds Tryd.pinned (.plain (OpenSpec.ofChange cookieOnceSpec)) cookieOnceCard

/-- THE TIED CARD OF 'nightjarlaw06.CookieWraps'. -/
def cookieWrapsCard : Claim7 := { stood := { row := cookieWrapsRow, standIns := [], harness := (true, "8a23c9b7e1e3fe7b65856c17b0acd3ee123fcb3caf3f04152f6caaf05f0398a8"), looks := false }, kinds := [], alts := [], laidByText := true, laidKinds := [.data], laidTests := true, laidLooks := .later }
def CookieWrapsCardSaid : Prop := Claim7.holds Tryd.pinned (.plain (OpenSpec.ofChange cookieWrapsSpec)) cookieWrapsCard

/-- THE TIED CARD OF 'nightjarlaw06.CookieAges'. -/
def cookieAgesCard : Claim7 := { stood := { row := cookieAgesRow, standIns := [], harness := (true, "8a23c9b7e1e3fe7b65856c17b0acd3ee123fcb3caf3f04152f6caaf05f0398a8"), looks := false }, kinds := [], alts := [], laidByText := true, laidKinds := [.data], laidTests := true, laidLooks := .later }
def CookieAgesCardSaid : Prop := Claim7.holds Tryd.pinned (.plain (OpenSpec.ofChange cookieAgesSpec)) cookieAgesCard

/-- THE SECOND FORM's CARD OF 'nightjarlaw06.CookieTells'. -/
def cookieTellsUptoCard : Claim7 := { stood := { row := cookieTellsUptoRow, standIns := [], harness := (true, "8a23c9b7e1e3fe7b65856c17b0acd3ee123fcb3caf3f04152f6caaf05f0398a8"), looks := false }, kinds := [], alts := [], laidByText := true, laidKinds := [.data], laidTests := true, laidLooks := .later }
def CookieTellsUptoCardSaid : Prop := Claim7.holds Tryd.pinned (.plain (OpenSpec.upto cookieTellsSpec)) cookieTellsUptoCard

/-- THE SECOND FORM's CARD OF 'nightjarlaw06.CookieBack'. -/
def cookieBackUptoCard : Claim7 := { stood := { row := cookieBackUptoRow, standIns := [], harness := (true, "8a23c9b7e1e3fe7b65856c17b0acd3ee123fcb3caf3f04152f6caaf05f0398a8"), looks := false }, kinds := [], alts := [], laidByText := true, laidKinds := [.data], laidTests := true, laidLooks := .later }
def CookieBackUptoCardSaid : Prop := Claim7.holds Tryd.pinned (.plain (OpenSpec.upto cookieBackSpec)) cookieBackUptoCard

/-- THE SECOND FORM's CARD OF 'nightjarlaw06.CookieOnce'. -/
def cookieOnceUptoCard : Claim7 := { stood := { row := cookieOnceUptoRow, standIns := [], harness := (true, "8a23c9b7e1e3fe7b65856c17b0acd3ee123fcb3caf3f04152f6caaf05f0398a8"), looks := false }, kinds := [], alts := [], laidByText := true, laidKinds := [.data], laidTests := true, laidLooks := .later }
def CookieOnceUptoCardSaid : Prop := Claim7.holds Tryd.pinned (.plain (OpenSpec.upto cookieOnceSpec)) cookieOnceUptoCard

/-- THE SECOND FORM's CARD OF 'nightjarlaw06.CookieWraps'. -/
def cookieWrapsUptoCard : Claim7 := { stood := { row := cookieWrapsUptoRow, standIns := [], harness := (true, "8a23c9b7e1e3fe7b65856c17b0acd3ee123fcb3caf3f04152f6caaf05f0398a8"), looks := false }, kinds := [], alts := [], laidByText := true, laidKinds := [.data], laidTests := true, laidLooks := .later }
def CookieWrapsUptoCardSaid : Prop := Claim7.holds Tryd.pinned (.plain (OpenSpec.upto cookieWrapsSpec)) cookieWrapsUptoCard

/-- THE SECOND FORM's CARD OF 'nightjarlaw06.CookieAges'. -/
def cookieAgesUptoCard : Claim7 := { stood := { row := cookieAgesUptoRow, standIns := [], harness := (true, "8a23c9b7e1e3fe7b65856c17b0acd3ee123fcb3caf3f04152f6caaf05f0398a8"), looks := false }, kinds := [], alts := [], laidByText := true, laidKinds := [.data], laidTests := true, laidLooks := .later }
def CookieAgesUptoCardSaid : Prop := Claim7.holds Tryd.pinned (.plain (OpenSpec.upto cookieAgesSpec)) cookieAgesUptoCard
end Rows
end Go.Proofs.YthppbklbamakcaaDoor
