/-
  DERIVED. GIVEN WITH THE SEED: THE CARDS: each row of YtojcpegdbnnmdaaDoorRows.lean that lists a variable, with what it lists TIED to the program's text (the seventh form; the later family's looks); each row that meets fmt, with fmt's text TOLD by the authors' own Lean function (tested against real Go, not proved from fmt's source: count such statements apart). THE CARD IS WHAT COUNTS. Prove the row's statement (the work); the ties are given (YtojcpegdbnnmdaaDoorTie.lean); close each card by the builder's one call (the guide's Derived/Test/ToyasCard.lean, 'card_holds'). Laid BY PROGRAM, IN A SANDBOX (cutbox-door.mjs). By AI agents, Wed Nov 11 2026. No macro, syntax, notation, axiom, sorry.
-/
import Derived.Test.YtojcpegdbnnmdaaDoorRows
import GoSem.ClaimSeven
namespace Go.Proofs.YtojcpegdbnnmdaaDoor
namespace Rows

/-- THE TIED CARD OF 'remitlaw07.SectorPlays'. -/
def sectorPlaysCard : Claim7 := { stood := { row := sectorPlaysRow, standIns := [], harness := (true, "423dba4c6228941a9b99bd724ffac1c180bfe2df95d243290c1eb8a8b5af6367"), looks := true }, kinds := [], alts := [], laidByText := true, laidKinds := [.sentinel, .sentinel, .sentinel, .sentinel, .sentinel, .sentinel, .sentinel, .sentinel, .sentinel, .sentinel, .sentinel, .sentinel, .sentinel, .sentinel, .sentinel, .sentinel, .sentinel, .sentinel, .sentinel, .sentinel, .sentinel, .sentinel, .sentinel, .sentinel, .sentinel, .sentinel, .sentinel, .sentinel, .sentinel, .sentinel, .sentinel, .sentinel, .sentinel, .sentinel, .sentinel, .sentinel, .sentinel, .data], laidTests := true, laidLooks := .later }
def SectorPlaysCardSaid : Prop := Claim7.holds Tryd.pinned (.plain (OpenSpec.ofChange sectorPlaysSpec)) sectorPlaysCard

/-- THE TIED CARD OF 'remitlaw07.SectorOneForm'. -/
def sectorOneFormCard : Claim7 := { stood := { row := sectorOneFormRow, standIns := [], harness := (true, "423dba4c6228941a9b99bd724ffac1c180bfe2df95d243290c1eb8a8b5af6367"), looks := true }, kinds := [], alts := [], laidByText := true, laidKinds := [.sentinel, .sentinel, .sentinel, .sentinel, .sentinel, .sentinel, .sentinel, .sentinel, .sentinel, .sentinel, .sentinel, .sentinel, .sentinel, .sentinel, .sentinel, .sentinel, .sentinel, .sentinel, .sentinel, .sentinel, .sentinel, .sentinel, .sentinel, .sentinel, .sentinel, .sentinel, .sentinel, .sentinel, .sentinel, .sentinel, .sentinel, .sentinel, .sentinel, .sentinel, .sentinel, .sentinel, .sentinel, .data], laidTests := true, laidLooks := .later }
def SectorOneFormCardSaid : Prop := Claim7.holds Tryd.pinned (.plain (OpenSpec.ofChange sectorOneFormSpec)) sectorOneFormCard

/-- THE TIED CARD OF 'remitlaw07.SectorTear'. -/
def sectorTearCard : Claim7 := { stood := { row := sectorTearRow, standIns := [], harness := (true, "423dba4c6228941a9b99bd724ffac1c180bfe2df95d243290c1eb8a8b5af6367"), looks := true }, kinds := [], alts := [], laidByText := true, laidKinds := [.sentinel, .sentinel, .sentinel, .data], laidTests := true, laidLooks := .later }
def SectorTearCardSaid : Prop := Claim7.holds Tryd.pinned (.plain (OpenSpec.ofChange sectorTearSpec)) sectorTearCard

/-- THE TIED CARD OF 'remitlaw07.SectorTears'. -/
def sectorTearsCard : Claim7 := { stood := { row := sectorTearsRow, standIns := [], harness := (true, "423dba4c6228941a9b99bd724ffac1c180bfe2df95d243290c1eb8a8b5af6367"), looks := true }, kinds := [], alts := [], laidByText := true, laidKinds := [.sentinel, .sentinel, .sentinel, .data], laidTests := true, laidLooks := .later }
def SectorTearsCardSaid : Prop := Claim7.holds Tryd.pinned (.plain (OpenSpec.ofChange sectorTearsSpec)) sectorTearsCard

/-- THE TIED CARD OF 'remitlaw07.SectorStamps'. -/
def sectorStampsCard : Claim7 := { stood := { row := sectorStampsRow, standIns := [], harness := (true, "423dba4c6228941a9b99bd724ffac1c180bfe2df95d243290c1eb8a8b5af6367"), looks := true }, kinds := [], alts := [], laidByText := true, laidKinds := [.sentinel, .sentinel, .sentinel, .sentinel, .sentinel, .sentinel, .sentinel, .sentinel, .sentinel, .sentinel, .sentinel, .sentinel, .sentinel, .sentinel, .sentinel, .sentinel, .sentinel, .sentinel, .sentinel, .sentinel, .sentinel, .sentinel, .sentinel, .sentinel, .sentinel, .sentinel, .sentinel, .sentinel, .sentinel, .sentinel, .sentinel, .sentinel, .sentinel, .sentinel, .sentinel, .sentinel, .sentinel, .data], laidTests := true, laidLooks := .later }
def SectorStampsCardSaid : Prop := Claim7.holds Tryd.pinned (.plain (OpenSpec.ofChange sectorStampsSpec)) sectorStampsCard

/-- THE SECOND FORM's CARD OF 'remitlaw07.SectorPlays'. -/
def sectorPlaysUptoCard : Claim7 := { stood := { row := sectorPlaysUptoRow, standIns := [], harness := (true, "423dba4c6228941a9b99bd724ffac1c180bfe2df95d243290c1eb8a8b5af6367"), looks := true }, kinds := [], alts := [], laidByText := true, laidKinds := [.sentinel, .sentinel, .sentinel, .sentinel, .sentinel, .sentinel, .sentinel, .sentinel, .sentinel, .sentinel, .sentinel, .sentinel, .sentinel, .sentinel, .sentinel, .sentinel, .sentinel, .sentinel, .sentinel, .sentinel, .sentinel, .sentinel, .sentinel, .sentinel, .sentinel, .sentinel, .sentinel, .sentinel, .sentinel, .sentinel, .sentinel, .sentinel, .sentinel, .sentinel, .sentinel, .sentinel, .sentinel, .data], laidTests := true, laidLooks := .later }
def SectorPlaysUptoCardSaid : Prop := Claim7.holds Tryd.pinned (.plain (OpenSpec.upto sectorPlaysSpec)) sectorPlaysUptoCard

/-- THE SECOND FORM's CARD OF 'remitlaw07.SectorOneForm'. -/
def sectorOneFormUptoCard : Claim7 := { stood := { row := sectorOneFormUptoRow, standIns := [], harness := (true, "423dba4c6228941a9b99bd724ffac1c180bfe2df95d243290c1eb8a8b5af6367"), looks := true }, kinds := [], alts := [], laidByText := true, laidKinds := [.sentinel, .sentinel, .sentinel, .sentinel, .sentinel, .sentinel, .sentinel, .sentinel, .sentinel, .sentinel, .sentinel, .sentinel, .sentinel, .sentinel, .sentinel, .sentinel, .sentinel, .sentinel, .sentinel, .sentinel, .sentinel, .sentinel, .sentinel, .sentinel, .sentinel, .sentinel, .sentinel, .sentinel, .sentinel, .sentinel, .sentinel, .sentinel, .sentinel, .sentinel, .sentinel, .sentinel, .sentinel, .data], laidTests := true, laidLooks := .later }
def SectorOneFormUptoCardSaid : Prop := Claim7.holds Tryd.pinned (.plain (OpenSpec.upto sectorOneFormSpec)) sectorOneFormUptoCard

/-- THE SECOND FORM's CARD OF 'remitlaw07.SectorTear'. -/
def sectorTearUptoCard : Claim7 := { stood := { row := sectorTearUptoRow, standIns := [], harness := (true, "423dba4c6228941a9b99bd724ffac1c180bfe2df95d243290c1eb8a8b5af6367"), looks := true }, kinds := [], alts := [], laidByText := true, laidKinds := [.sentinel, .sentinel, .sentinel, .data], laidTests := true, laidLooks := .later }
def SectorTearUptoCardSaid : Prop := Claim7.holds Tryd.pinned (.plain (OpenSpec.upto sectorTearSpec)) sectorTearUptoCard

/-- THE SECOND FORM's CARD OF 'remitlaw07.SectorTears'. -/
def sectorTearsUptoCard : Claim7 := { stood := { row := sectorTearsUptoRow, standIns := [], harness := (true, "423dba4c6228941a9b99bd724ffac1c180bfe2df95d243290c1eb8a8b5af6367"), looks := true }, kinds := [], alts := [], laidByText := true, laidKinds := [.sentinel, .sentinel, .sentinel, .data], laidTests := true, laidLooks := .later }
def SectorTearsUptoCardSaid : Prop := Claim7.holds Tryd.pinned (.plain (OpenSpec.upto sectorTearsSpec)) sectorTearsUptoCard

/-- THE SECOND FORM's CARD OF 'remitlaw07.SectorStamps'. -/
def sectorStampsUptoCard : Claim7 := { stood := { row := sectorStampsUptoRow, standIns := [], harness := (true, "423dba4c6228941a9b99bd724ffac1c180bfe2df95d243290c1eb8a8b5af6367"), looks := true }, kinds := [], alts := [], laidByText := true, laidKinds := [.sentinel, .sentinel, .sentinel, .sentinel, .sentinel, .sentinel, .sentinel, .sentinel, .sentinel, .sentinel, .sentinel, .sentinel, .sentinel, .sentinel, .sentinel, .sentinel, .sentinel, .sentinel, .sentinel, .sentinel, .sentinel, .sentinel, .sentinel, .sentinel, .sentinel, .sentinel, .sentinel, .sentinel, .sentinel, .sentinel, .sentinel, .sentinel, .sentinel, .sentinel, .sentinel, .sentinel, .sentinel, .data], laidTests := true, laidLooks := .later }
def SectorStampsUptoCardSaid : Prop := Claim7.holds Tryd.pinned (.plain (OpenSpec.upto sectorStampsSpec)) sectorStampsUptoCard
end Rows
end Go.Proofs.YtojcpegdbnnmdaaDoor
