/-
  DERIVED. GIVEN WITH THE SEED: THE CARDS: each row of YtpglhkjgcahdbaaDoorRows.lean that lists a variable, with what it lists TIED to the program's text (the seventh form; the later family's looks); each row that meets fmt, with fmt's text TOLD by the authors' own Lean function (tested against real Go, not proved from fmt's source: count such statements apart). THE CARD IS WHAT COUNTS. Prove the row's statement (the work); the ties are given (YtpglhkjgcahdbaaDoorTie.lean); close each card by the builder's one call (the guide's Derived/Test/ToyasCard.lean, 'card_holds'). Laid BY PROGRAM, IN A SANDBOX (cutbox-door.mjs). By AI agents, Wed Nov 11 2026. No macro, syntax, notation, axiom, sorry.
-/
import Derived.Test.YtpglhkjgcahdbaaDoorRows
import GoSem.ClaimSeven
namespace Go.Proofs.YtpglhkjgcahdbaaDoor
namespace Rows

/-- THE TIED CARD OF 'nightjarlaw07.TagTells'. -/
def tagTellsCard : Claim7 := { stood := { row := tagTellsRow, standIns := [], harness := (true, "5748aeab321607617f02e20aee442d20b784aeb1edc4f74bf1d7952acccda849"), looks := false }, kinds := [], alts := [], laidByText := true, laidKinds := [.data], laidTests := true, laidLooks := .later }
def TagTellsCardSaid : Prop := Claim7.holds Tryd.pinned (.plain (OpenSpec.ofChange tagTellsSpec)) tagTellsCard

/-- THE TIED CARD OF 'nightjarlaw07.TagBack'. -/
def tagBackCard : Claim7 := { stood := { row := tagBackRow, standIns := [], harness := (true, "5748aeab321607617f02e20aee442d20b784aeb1edc4f74bf1d7952acccda849"), looks := false }, kinds := [], alts := [], laidByText := true, laidKinds := [.data], laidTests := true, laidLooks := .later }
def TagBackCardSaid : Prop := Claim7.holds Tryd.pinned (.plain (OpenSpec.ofChange tagBackSpec)) tagBackCard

/-- THE TIED CARD OF 'nightjarlaw07.TagOnce'. -/
def tagOnceCard : Claim7 := { stood := { row := tagOnceRow, standIns := [], harness := (true, "5748aeab321607617f02e20aee442d20b784aeb1edc4f74bf1d7952acccda849"), looks := false }, kinds := [], alts := [], laidByText := true, laidKinds := [.data], laidTests := true, laidLooks := .later }
def TagOnceCardSaid : Prop := Claim7.holds Tryd.pinned (.plain (OpenSpec.ofChange tagOnceSpec)) tagOnceCard

/-- THE TIED CARD OF 'nightjarlaw07.TagMay'. -/
def tagMayCard : Claim7 := { stood := { row := tagMayRow, standIns := [], harness := (true, "5748aeab321607617f02e20aee442d20b784aeb1edc4f74bf1d7952acccda849"), looks := false }, kinds := [], alts := [], laidByText := true, laidKinds := [.data], laidTests := true, laidLooks := .later }
def TagMayCardSaid : Prop := Claim7.holds Tryd.pinned (.plain (OpenSpec.ofChange tagMaySpec)) tagMayCard

/-- THE TIED CARD OF 'nightjarlaw07.TagKeys'. -/
def tagKeysCard : Claim7 := { stood := { row := tagKeysRow, standIns := [], harness := (true, "5748aeab321607617f02e20aee442d20b784aeb1edc4f74bf1d7952acccda849"), looks := false }, kinds := [], alts := [], laidByText := true, laidKinds := [.data], laidTests := true, laidLooks := .later }
def TagKeysCardSaid : Prop := Claim7.holds Tryd.pinned (.plain (OpenSpec.ofChange tagKeysSpec)) tagKeysCard

/-- THE SECOND FORM's CARD OF 'nightjarlaw07.TagTells'. -/
def tagTellsUptoCard : Claim7 := { stood := { row := tagTellsUptoRow, standIns := [], harness := (true, "5748aeab321607617f02e20aee442d20b784aeb1edc4f74bf1d7952acccda849"), looks := false }, kinds := [], alts := [], laidByText := true, laidKinds := [.data], laidTests := true, laidLooks := .later }
def TagTellsUptoCardSaid : Prop := Claim7.holds Tryd.pinned (.plain (OpenSpec.upto tagTellsSpec)) tagTellsUptoCard

/-- THE SECOND FORM's CARD OF 'nightjarlaw07.TagBack'. -/
def tagBackUptoCard : Claim7 := { stood := { row := tagBackUptoRow, standIns := [], harness := (true, "5748aeab321607617f02e20aee442d20b784aeb1edc4f74bf1d7952acccda849"), looks := false }, kinds := [], alts := [], laidByText := true, laidKinds := [.data], laidTests := true, laidLooks := .later }
def TagBackUptoCardSaid : Prop := Claim7.holds Tryd.pinned (.plain (OpenSpec.upto tagBackSpec)) tagBackUptoCard

/-- THE SECOND FORM's CARD OF 'nightjarlaw07.TagOnce'. -/
def tagOnceUptoCard : Claim7 := { stood := { row := tagOnceUptoRow, standIns := [], harness := (true, "5748aeab321607617f02e20aee442d20b784aeb1edc4f74bf1d7952acccda849"), looks := false }, kinds := [], alts := [], laidByText := true, laidKinds := [.data], laidTests := true, laidLooks := .later }
def TagOnceUptoCardSaid : Prop := Claim7.holds Tryd.pinned (.plain (OpenSpec.upto tagOnceSpec)) tagOnceUptoCard

/-- THE SECOND FORM's CARD OF 'nightjarlaw07.TagMay'. -/
def tagMayUptoCard : Claim7 := { stood := { row := tagMayUptoRow, standIns := [], harness := (true, "5748aeab321607617f02e20aee442d20b784aeb1edc4f74bf1d7952acccda849"), looks := false }, kinds := [], alts := [], laidByText := true, laidKinds := [.data], laidTests := true, laidLooks := .later }
def TagMayUptoCardSaid : Prop := Claim7.holds Tryd.pinned (.plain (OpenSpec.upto tagMaySpec)) tagMayUptoCard

/-- THE SECOND FORM's CARD OF 'nightjarlaw07.TagKeys'. -/
def tagKeysUptoCard : Claim7 := { stood := { row := tagKeysUptoRow, standIns := [], harness := (true, "5748aeab321607617f02e20aee442d20b784aeb1edc4f74bf1d7952acccda849"), looks := false }, kinds := [], alts := [], laidByText := true, laidKinds := [.data], laidTests := true, laidLooks := .later }
def TagKeysUptoCardSaid : Prop := Claim7.holds Tryd.pinned (.plain (OpenSpec.upto tagKeysSpec)) tagKeysUptoCard
end Rows
end Go.Proofs.YtpglhkjgcahdbaaDoor
