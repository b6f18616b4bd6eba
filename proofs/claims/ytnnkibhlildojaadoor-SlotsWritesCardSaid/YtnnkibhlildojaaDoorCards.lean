/-
  DERIVED. GIVEN WITH THE SEED: THE CARDS: each row of YtnnkibhlildojaaDoorRows.lean that lists a variable, with what it lists TIED to the program's text (the seventh form; the later family's looks); each row that meets fmt, with fmt's text TOLD by the authors' own Lean function (tested against real Go, not proved from fmt's source: count such statements apart). THE CARD IS WHAT COUNTS. Prove the row's statement (the work); the ties are given (YtnnkibhlildojaaDoorTie.lean); close each card by the builder's one call (the guide's Derived/Test/ToyasCard.lean, 'card_holds'). Laid BY PROGRAM, IN A SANDBOX (cutbox-door.mjs). By AI agents, Wed Nov 11 2026. No macro, syntax, notation, axiom, sorry.
-/
import Derived.Test.YtnnkibhlildojaaDoorRows
import GoSem.ClaimSeven
namespace Go.Proofs.YtnnkibhlildojaaDoor
namespace Rows

/-- THE TIED CARD OF 'remitlaw08.SlotsReads'. -/
def slotsReadsCard : Claim7 := { stood := { row := slotsReadsRow, standIns := [], harness := (true, "d45263db5ec17bf4b3eaf57f85cdea39c14f470e75f2cfa94fff6ce5a783ec88"), looks := true }, kinds := [], alts := [], laidByText := true, laidKinds := [.sentinel, .sentinel, .sentinel, .sentinel, .sentinel, .sentinel, .sentinel, .sentinel, .sentinel, .sentinel, .sentinel, .sentinel, .sentinel, .sentinel, .sentinel, .sentinel, .sentinel, .sentinel, .sentinel, .sentinel, .sentinel, .sentinel, .sentinel, .sentinel, .sentinel, .sentinel, .sentinel, .sentinel, .sentinel, .sentinel, .sentinel, .sentinel, .sentinel, .sentinel, .sentinel, .sentinel, .sentinel, .data], laidTests := true, laidLooks := .later }
def SlotsReadsCardSaid : Prop := Claim7.holds Tryd.pinned (.plain (OpenSpec.ofChange slotsReadsSpec)) slotsReadsCard

/-- THE TIED CARD OF 'remitlaw08.SlotsWrites'. -/
def slotsWritesCard : Claim7 := { stood := { row := slotsWritesRow, standIns := [], harness := (true, "d45263db5ec17bf4b3eaf57f85cdea39c14f470e75f2cfa94fff6ce5a783ec88"), looks := true }, kinds := [], alts := [], laidByText := true, laidKinds := [.sentinel, .sentinel, .sentinel, .sentinel, .sentinel, .sentinel, .sentinel, .sentinel, .sentinel, .sentinel, .sentinel, .sentinel, .sentinel, .sentinel, .sentinel, .sentinel, .sentinel, .sentinel, .sentinel, .sentinel, .sentinel, .sentinel, .sentinel, .sentinel, .sentinel, .sentinel, .sentinel, .sentinel, .sentinel, .sentinel, .sentinel, .sentinel, .sentinel, .sentinel, .sentinel, .sentinel, .sentinel, .data], laidTests := true, laidLooks := .later }
def SlotsWritesCardSaid : Prop := Claim7.holds Tryd.pinned (.plain (OpenSpec.ofChange slotsWritesSpec)) slotsWritesCard

/-- THE TIED CARD OF 'remitlaw08.SlotsKeeps'. -/
def slotsKeepsCard : Claim7 := { stood := { row := slotsKeepsRow, standIns := [], harness := (true, "d45263db5ec17bf4b3eaf57f85cdea39c14f470e75f2cfa94fff6ce5a783ec88"), looks := true }, kinds := [], alts := [], laidByText := true, laidKinds := [.sentinel, .sentinel, .sentinel, .sentinel, .sentinel, .data], laidTests := true, laidLooks := .later }
def SlotsKeepsCardSaid : Prop := Claim7.holds Tryd.pinned (.plain (OpenSpec.ofChange slotsKeepsSpec)) slotsKeepsCard

/-- THE TIED CARD OF 'remitlaw08.SlotsApart'. -/
def slotsApartCard : Claim7 := { stood := { row := slotsApartRow, standIns := [], harness := (true, "d45263db5ec17bf4b3eaf57f85cdea39c14f470e75f2cfa94fff6ce5a783ec88"), looks := true }, kinds := [], alts := [], laidByText := true, laidKinds := [.sentinel, .sentinel, .sentinel, .sentinel, .sentinel, .data], laidTests := true, laidLooks := .later }
def SlotsApartCardSaid : Prop := Claim7.holds Tryd.pinned (.plain (OpenSpec.ofChange slotsApartSpec)) slotsApartCard

/-- THE SECOND FORM's CARD OF 'remitlaw08.SlotsReads'. -/
def slotsReadsUptoCard : Claim7 := { stood := { row := slotsReadsUptoRow, standIns := [], harness := (true, "d45263db5ec17bf4b3eaf57f85cdea39c14f470e75f2cfa94fff6ce5a783ec88"), looks := true }, kinds := [], alts := [], laidByText := true, laidKinds := [.sentinel, .sentinel, .sentinel, .sentinel, .sentinel, .sentinel, .sentinel, .sentinel, .sentinel, .sentinel, .sentinel, .sentinel, .sentinel, .sentinel, .sentinel, .sentinel, .sentinel, .sentinel, .sentinel, .sentinel, .sentinel, .sentinel, .sentinel, .sentinel, .sentinel, .sentinel, .sentinel, .sentinel, .sentinel, .sentinel, .sentinel, .sentinel, .sentinel, .sentinel, .sentinel, .sentinel, .sentinel, .data], laidTests := true, laidLooks := .later }
def SlotsReadsUptoCardSaid : Prop := Claim7.holds Tryd.pinned (.plain (OpenSpec.upto slotsReadsSpec)) slotsReadsUptoCard

/-- THE SECOND FORM's CARD OF 'remitlaw08.SlotsWrites'. -/
def slotsWritesUptoCard : Claim7 := { stood := { row := slotsWritesUptoRow, standIns := [], harness := (true, "d45263db5ec17bf4b3eaf57f85cdea39c14f470e75f2cfa94fff6ce5a783ec88"), looks := true }, kinds := [], alts := [], laidByText := true, laidKinds := [.sentinel, .sentinel, .sentinel, .sentinel, .sentinel, .sentinel, .sentinel, .sentinel, .sentinel, .sentinel, .sentinel, .sentinel, .sentinel, .sentinel, .sentinel, .sentinel, .sentinel, .sentinel, .sentinel, .sentinel, .sentinel, .sentinel, .sentinel, .sentinel, .sentinel, .sentinel, .sentinel, .sentinel, .sentinel, .sentinel, .sentinel, .sentinel, .sentinel, .sentinel, .sentinel, .sentinel, .sentinel, .data], laidTests := true, laidLooks := .later }
def SlotsWritesUptoCardSaid : Prop := Claim7.holds Tryd.pinned (.plain (OpenSpec.upto slotsWritesSpec)) slotsWritesUptoCard

/-- THE SECOND FORM's CARD OF 'remitlaw08.SlotsKeeps'. -/
def slotsKeepsUptoCard : Claim7 := { stood := { row := slotsKeepsUptoRow, standIns := [], harness := (true, "d45263db5ec17bf4b3eaf57f85cdea39c14f470e75f2cfa94fff6ce5a783ec88"), looks := true }, kinds := [], alts := [], laidByText := true, laidKinds := [.sentinel, .sentinel, .sentinel, .sentinel, .sentinel, .data], laidTests := true, laidLooks := .later }
def SlotsKeepsUptoCardSaid : Prop := Claim7.holds Tryd.pinned (.plain (OpenSpec.upto slotsKeepsSpec)) slotsKeepsUptoCard

/-- THE SECOND FORM's CARD OF 'remitlaw08.SlotsApart'. -/
def slotsApartUptoCard : Claim7 := { stood := { row := slotsApartUptoRow, standIns := [], harness := (true, "d45263db5ec17bf4b3eaf57f85cdea39c14f470e75f2cfa94fff6ce5a783ec88"), looks := true }, kinds := [], alts := [], laidByText := true, laidKinds := [.sentinel, .sentinel, .sentinel, .sentinel, .sentinel, .data], laidTests := true, laidLooks := .later }
def SlotsApartUptoCardSaid : Prop := Claim7.holds Tryd.pinned (.plain (OpenSpec.upto slotsApartSpec)) slotsApartUptoCard
end Rows
end Go.Proofs.YtnnkibhlildojaaDoor
