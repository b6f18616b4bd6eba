/-
  DERIVED. GIVEN WITH THE SEED: THE CARDS: each row of YtcapifhmmkmboaaDoorRows.lean that lists a variable, with what it lists TIED to the program's text (the seventh form; the later family's looks); each row that meets fmt, with fmt's text TOLD by the authors' own Lean function (tested against real Go, not proved from fmt's source: count such statements apart). THE CARD IS WHAT COUNTS. Prove the row's statement (the work); the ties are given (YtcapifhmmkmboaaDoorTie.lean); close each card by the builder's one call (the guide's Derived/Test/ToyasCard.lean, 'card_holds'). Laid BY PROGRAM, IN A SANDBOX (cutbox-door.mjs). By AI agents, Wed Nov 11 2026. No macro, syntax, notation, axiom, sorry.
-/
import Derived.Test.YtcapifhmmkmboaaDoorRows
import GoSem.ClaimSeven
namespace Go.Proofs.YtcapifhmmkmboaaDoor
namespace Rows

/-- THE TIED CARD OF 'remitlaw09.AreaNumbers'. -/
def areaNumbersCard : Claim7 := { stood := { row := areaNumbersRow, standIns := [], harness := (true, "b7400cc8c63758618be1b9a98afc8888fd511ba34806e54360e49cb6e9ee2c9d"), looks := true }, kinds := [], alts := [], laidByText := true, laidKinds := [.sentinel, .sentinel, .sentinel, .sentinel, .sentinel, .sentinel, .sentinel, .sentinel, .sentinel, .sentinel, .sentinel, .sentinel, .sentinel, .sentinel, .sentinel, .sentinel, .sentinel, .sentinel, .sentinel, .sentinel, .sentinel, .sentinel, .sentinel, .sentinel, .sentinel, .sentinel, .sentinel, .sentinel, .sentinel, .sentinel, .sentinel, .sentinel, .sentinel, .sentinel, .sentinel, .sentinel, .sentinel, .data], laidTests := true, laidLooks := .later }
def AreaNumbersCardSaid : Prop := Claim7.holds Tryd.pinned (.plain (OpenSpec.ofChange areaNumbersSpec)) areaNumbersCard

/-- THE TIED CARD OF 'remitlaw09.AreaPlays'. -/
def areaPlaysCard : Claim7 := { stood := { row := areaPlaysRow, standIns := [], harness := (true, "b7400cc8c63758618be1b9a98afc8888fd511ba34806e54360e49cb6e9ee2c9d"), looks := true }, kinds := [], alts := [], laidByText := true, laidKinds := [.sentinel, .sentinel, .sentinel, .sentinel, .sentinel, .sentinel, .sentinel, .sentinel, .sentinel, .sentinel, .sentinel, .sentinel, .sentinel, .sentinel, .sentinel, .sentinel, .sentinel, .sentinel, .sentinel, .sentinel, .sentinel, .sentinel, .sentinel, .sentinel, .sentinel, .sentinel, .sentinel, .sentinel, .sentinel, .sentinel, .sentinel, .sentinel, .sentinel, .sentinel, .sentinel, .sentinel, .sentinel, .data], laidTests := true, laidLooks := .later }
def AreaPlaysCardSaid : Prop := Claim7.holds Tryd.pinned (.plain (OpenSpec.ofChange areaPlaysSpec)) areaPlaysCard

/-- THE TIED CARD OF 'remitlaw09.AreaCrashes'. -/
def areaCrashesCard : Claim7 := { stood := { row := areaCrashesRow, standIns := [], harness := (true, "b7400cc8c63758618be1b9a98afc8888fd511ba34806e54360e49cb6e9ee2c9d"), looks := true }, kinds := [], alts := [], laidByText := true, laidKinds := [.sentinel, .sentinel, .sentinel, .sentinel, .sentinel, .sentinel, .sentinel, .sentinel, .sentinel, .sentinel, .sentinel, .sentinel, .sentinel, .sentinel, .sentinel, .sentinel, .sentinel, .sentinel, .sentinel, .sentinel, .sentinel, .sentinel, .sentinel, .sentinel, .sentinel, .sentinel, .sentinel, .sentinel, .sentinel, .sentinel, .sentinel, .sentinel, .sentinel, .sentinel, .sentinel, .sentinel, .sentinel, .data], laidTests := true, laidLooks := .later }
def AreaCrashesCardSaid : Prop := Claim7.holds Tryd.pinned (.plain (OpenSpec.ofChange areaCrashesSpec)) areaCrashesCard

/-- THE TIED CARD OF 'remitlaw09.AreaBack'. -/
def areaBackCard : Claim7 := { stood := { row := areaBackRow, standIns := [], harness := (true, "b7400cc8c63758618be1b9a98afc8888fd511ba34806e54360e49cb6e9ee2c9d"), looks := true }, kinds := [], alts := [], laidByText := true, laidKinds := [.sentinel, .sentinel, .sentinel, .sentinel, .sentinel, .sentinel, .sentinel, .sentinel, .sentinel, .sentinel, .sentinel, .sentinel, .sentinel, .sentinel, .sentinel, .sentinel, .sentinel, .sentinel, .sentinel, .sentinel, .sentinel, .sentinel, .sentinel, .sentinel, .sentinel, .sentinel, .sentinel, .sentinel, .sentinel, .sentinel, .sentinel, .sentinel, .sentinel, .sentinel, .sentinel, .sentinel, .sentinel, .data], laidTests := true, laidLooks := .later }
def AreaBackCardSaid : Prop := Claim7.holds Tryd.pinned (.plain (OpenSpec.ofChange areaBackSpec)) areaBackCard

/-- THE SECOND FORM's CARD OF 'remitlaw09.AreaNumbers'. -/
def areaNumbersUptoCard : Claim7 := { stood := { row := areaNumbersUptoRow, standIns := [], harness := (true, "b7400cc8c63758618be1b9a98afc8888fd511ba34806e54360e49cb6e9ee2c9d"), looks := true }, kinds := [], alts := [], laidByText := true, laidKinds := [.sentinel, .sentinel, .sentinel, .sentinel, .sentinel, .sentinel, .sentinel, .sentinel, .sentinel, .sentinel, .sentinel, .sentinel, .sentinel, .sentinel, .sentinel, .sentinel, .sentinel, .sentinel, .sentinel, .sentinel, .sentinel, .sentinel, .sentinel, .sentinel, .sentinel, .sentinel, .sentinel, .sentinel, .sentinel, .sentinel, .sentinel, .sentinel, .sentinel, .sentinel, .sentinel, .sentinel, .sentinel, .data], laidTests := true, laidLooks := .later }
def AreaNumbersUptoCardSaid : Prop := Claim7.holds Tryd.pinned (.plain (OpenSpec.upto areaNumbersSpec)) areaNumbersUptoCard

/-- THE SECOND FORM's CARD OF 'remitlaw09.AreaPlays'. -/
def areaPlaysUptoCard : Claim7 := { stood := { row := areaPlaysUptoRow, standIns := [], harness := (true, "b7400cc8c63758618be1b9a98afc8888fd511ba34806e54360e49cb6e9ee2c9d"), looks := true }, kinds := [], alts := [], laidByText := true, laidKinds := [.sentinel, .sentinel, .sentinel, .sentinel, .sentinel, .sentinel, .sentinel, .sentinel, .sentinel, .sentinel, .sentinel, .sentinel, .sentinel, .sentinel, .sentinel, .sentinel, .sentinel, .sentinel, .sentinel, .sentinel, .sentinel, .sentinel, .sentinel, .sentinel, .sentinel, .sentinel, .sentinel, .sentinel, .sentinel, .sentinel, .sentinel, .sentinel, .sentinel, .sentinel, .sentinel, .sentinel, .sentinel, .data], laidTests := true, laidLooks := .later }
def AreaPlaysUptoCardSaid : Prop := Claim7.holds Tryd.pinned (.plain (OpenSpec.upto areaPlaysSpec)) areaPlaysUptoCard

/-- THE SECOND FORM's CARD OF 'remitlaw09.AreaCrashes'. -/
def areaCrashesUptoCard : Claim7 := { stood := { row := areaCrashesUptoRow, standIns := [], harness := (true, "b7400cc8c63758618be1b9a98afc8888fd511ba34806e54360e49cb6e9ee2c9d"), looks := true }, kinds := [], alts := [], laidByText := true, laidKinds := [.sentinel, .sentinel, .sentinel, .sentinel, .sentinel, .sentinel, .sentinel, .sentinel, .sentinel, .sentinel, .sentinel, .sentinel, .sentinel, .sentinel, .sentinel, .sentinel, .sentinel, .sentinel, .sentinel, .sentinel, .sentinel, .sentinel, .sentinel, .sentinel, .sentinel, .sentinel, .sentinel, .sentinel, .sentinel, .sentinel, .sentinel, .sentinel, .sentinel, .sentinel, .sentinel, .sentinel, .sentinel, .data], laidTests := true, laidLooks := .later }
def AreaCrashesUptoCardSaid : Prop := Claim7.holds Tryd.pinned (.plain (OpenSpec.upto areaCrashesSpec)) areaCrashesUptoCard

/-- THE SECOND FORM's CARD OF 'remitlaw09.AreaBack'. -/
def areaBackUptoCard : Claim7 := { stood := { row := areaBackUptoRow, standIns := [], harness := (true, "b7400cc8c63758618be1b9a98afc8888fd511ba34806e54360e49cb6e9ee2c9d"), looks := true }, kinds := [], alts := [], laidByText := true, laidKinds := [.sentinel, .sentinel, .sentinel, .sentinel, .sentinel, .sentinel, .sentinel, .sentinel, .sentinel, .sentinel, .sentinel, .sentinel, .sentinel, .sentinel, .sentinel, .sentinel, .sentinel, .sentinel, .sentinel, .sentinel, .sentinel, .sentinel, .sentinel, .sentinel, .sentinel, .sentinel, .sentinel, .sentinel, .sentinel, .sentinel, .sentinel, .sentinel, .sentinel, .sentinel, .sentinel, .sentinel, .sentinel, .data], laidTests := true, laidLooks := .later }
def AreaBackUptoCardSaid : Prop := Claim7.holds Tryd.pinned (.plain (OpenSpec.upto areaBackSpec)) areaBackUptoCard
end Rows
end Go.Proofs.YtcapifhmmkmboaaDoor
