/-
  DERIVED. GIVEN WITH THE SEED: THE CARDS: each row of YtfhfbpjhjigbnaaDoorRows.lean that lists a variable, with what it lists TIED to the program's text (the seventh form; the later family's looks); each row that meets fmt, with fmt's text TOLD by the authors' own Lean function (tested against real Go, not proved from fmt's source: count such statements apart). THE CARD IS WHAT COUNTS. Prove the row's statement (the work); the ties are given (YtfhfbpjhjigbnaaDoorTie.lean); close each card by the builder's one call (the guide's Derived/Test/ToyasCard.lean, 'card_holds'). Laid BY PROGRAM, IN A SANDBOX (cutbox-door.mjs). By AI agents, Wed Nov 11 2026. No macro, syntax, notation, axiom, sorry.
-/
import Derived.Test.YtfhfbpjhjigbnaaDoorRows
import GoSem.ClaimSeven
namespace Go.Proofs.YtfhfbpjhjigbnaaDoor
namespace Rows

/-- THE TIED CARD OF 'remitlaw02.KeysJoins'. -/
def keysJoinsCard : Claim7 := { stood := { row := keysJoinsRow, standIns := [], harness := (true, "0a64415141749605a0e375524798999a1a4dd7c715c8060df1d0559666271046"), looks := true }, kinds := [], alts := [], laidByText := true, laidKinds := [.data, .pinned], laidTests := true, laidLooks := .later }
def KeysJoinsCardSaid : Prop := Claim7.holds Tryd.pinned (.plain (OpenSpec.ofChange keysJoinsSpec)) keysJoinsCard

/-- THE TIED CARD OF 'remitlaw02.KeysSplits'. -/
def keysSplitsCard : Claim7 := { stood := { row := keysSplitsRow, standIns := [], harness := (true, "0a64415141749605a0e375524798999a1a4dd7c715c8060df1d0559666271046"), looks := true }, kinds := [], alts := [], laidByText := true, laidKinds := [.data, .sentinel, .sentinel, .sentinel, .sentinel, .sentinel, .sentinel, .sentinel, .sentinel, .sentinel, .sentinel, .sentinel, .sentinel, .sentinel, .sentinel, .sentinel, .sentinel, .sentinel, .sentinel, .sentinel, .sentinel, .sentinel, .sentinel, .sentinel, .sentinel, .sentinel, .sentinel, .sentinel, .sentinel, .sentinel, .sentinel, .sentinel, .sentinel, .sentinel, .sentinel, .sentinel, .sentinel, .sentinel, .pinned], laidTests := true, laidLooks := .later }
def KeysSplitsCardSaid : Prop := Claim7.holds Tryd.pinned (.plain (OpenSpec.ofChange keysSplitsSpec)) keysSplitsCard

/-- THE TIED CARD OF 'remitlaw02.KeysOrder'. -/
def keysOrderCard : Claim7 := { stood := { row := keysOrderRow, standIns := [], harness := (true, "0a64415141749605a0e375524798999a1a4dd7c715c8060df1d0559666271046"), looks := true }, kinds := [], alts := [], laidByText := true, laidKinds := [.data, .pinned], laidTests := true, laidLooks := .later }
def KeysOrderCardSaid : Prop := Claim7.holds Tryd.pinned (.plain (OpenSpec.ofChange keysOrderSpec)) keysOrderCard

/-- THE TIED CARD OF 'remitlaw02.KeysBack'. -/
def keysBackCard : Claim7 := { stood := { row := keysBackRow, standIns := [], harness := (true, "0a64415141749605a0e375524798999a1a4dd7c715c8060df1d0559666271046"), looks := true }, kinds := [], alts := [], laidByText := true, laidKinds := [.data, .sentinel, .pinned], laidTests := true, laidLooks := .later }
def KeysBackCardSaid : Prop := Claim7.holds Tryd.pinned (.plain (OpenSpec.ofChange keysBackSpec)) keysBackCard

/-- THE TIED CARD OF 'remitlaw02.KeysHeads'. -/
def keysHeadsCard : Claim7 := { stood := { row := keysHeadsRow, standIns := [], harness := (true, "0a64415141749605a0e375524798999a1a4dd7c715c8060df1d0559666271046"), looks := true }, kinds := [], alts := [], laidByText := true, laidKinds := [.data, .pinned], laidTests := true, laidLooks := .later }
def KeysHeadsCardSaid : Prop := Claim7.holds Tryd.pinned (.plain (OpenSpec.ofChange keysHeadsSpec)) keysHeadsCard

/-- THE TIED CARD OF 'remitlaw02.KeysMemory'. -/
def keysMemoryCard : Claim7 := { stood := { row := keysMemoryRow, standIns := [], harness := (true, "0a64415141749605a0e375524798999a1a4dd7c715c8060df1d0559666271046"), looks := true }, kinds := [], alts := [], laidByText := true, laidKinds := [.data, .sentinel, .pinned], laidTests := true, laidLooks := .later }
def KeysMemoryCardSaid : Prop := Claim7.holds Tryd.pinned (.plain (OpenSpec.ofChange keysMemorySpec)) keysMemoryCard

/-- THE SECOND FORM's CARD OF 'remitlaw02.KeysJoins'. -/
def keysJoinsUptoCard : Claim7 := { stood := { row := keysJoinsUptoRow, standIns := [], harness := (true, "0a64415141749605a0e375524798999a1a4dd7c715c8060df1d0559666271046"), looks := true }, kinds := [], alts := [], laidByText := true, laidKinds := [.data, .pinned], laidTests := true, laidLooks := .later }
def KeysJoinsUptoCardSaid : Prop := Claim7.holds Tryd.pinned (.plain (OpenSpec.upto keysJoinsSpec)) keysJoinsUptoCard

/-- THE SECOND FORM's CARD OF 'remitlaw02.KeysSplits'. -/
def keysSplitsUptoCard : Claim7 := { stood := { row := keysSplitsUptoRow, standIns := [], harness := (true, "0a64415141749605a0e375524798999a1a4dd7c715c8060df1d0559666271046"), looks := true }, kinds := [], alts := [], laidByText := true, laidKinds := [.data, .sentinel, .sentinel, .sentinel, .sentinel, .sentinel, .sentinel, .sentinel, .sentinel, .sentinel, .sentinel, .sentinel, .sentinel, .sentinel, .sentinel, .sentinel, .sentinel, .sentinel, .sentinel, .sentinel, .sentinel, .sentinel, .sentinel, .sentinel, .sentinel, .sentinel, .sentinel, .sentinel, .sentinel, .sentinel, .sentinel, .sentinel, .sentinel, .sentinel, .sentinel, .sentinel, .sentinel, .sentinel, .pinned], laidTests := true, laidLooks := .later }
def KeysSplitsUptoCardSaid : Prop := Claim7.holds Tryd.pinned (.plain (OpenSpec.upto keysSplitsSpec)) keysSplitsUptoCard

/-- THE SECOND FORM's CARD OF 'remitlaw02.KeysOrder'. -/
def keysOrderUptoCard : Claim7 := { stood := { row := keysOrderUptoRow, standIns := [], harness := (true, "0a64415141749605a0e375524798999a1a4dd7c715c8060df1d0559666271046"), looks := true }, kinds := [], alts := [], laidByText := true, laidKinds := [.data, .pinned], laidTests := true, laidLooks := .later }
def KeysOrderUptoCardSaid : Prop := Claim7.holds Tryd.pinned (.plain (OpenSpec.upto keysOrderSpec)) keysOrderUptoCard

/-- THE SECOND FORM's CARD OF 'remitlaw02.KeysBack'. -/
def keysBackUptoCard : Claim7 := { stood := { row := keysBackUptoRow, standIns := [], harness := (true, "0a64415141749605a0e375524798999a1a4dd7c715c8060df1d0559666271046"), looks := true }, kinds := [], alts := [], laidByText := true, laidKinds := [.data, .sentinel, .pinned], laidTests := true, laidLooks := .later }
def KeysBackUptoCardSaid : Prop := Claim7.holds Tryd.pinned (.plain (OpenSpec.upto keysBackSpec)) keysBackUptoCard

/-- THE SECOND FORM's CARD OF 'remitlaw02.KeysHeads'. -/
def keysHeadsUptoCard : Claim7 := { stood := { row := keysHeadsUptoRow, standIns := [], harness := (true, "0a64415141749605a0e375524798999a1a4dd7c715c8060df1d0559666271046"), looks := true }, kinds := [], alts := [], laidByText := true, laidKinds := [.data, .pinned], laidTests := true, laidLooks := .later }
def KeysHeadsUptoCardSaid : Prop := Claim7.holds Tryd.pinned (.plain (OpenSpec.upto keysHeadsSpec)) keysHeadsUptoCard

/-- THE SECOND FORM's CARD OF 'remitlaw02.KeysMemory'. -/
def keysMemoryUptoCard : Claim7 := { stood := { row := keysMemoryUptoRow, standIns := [], harness := (true, "0a64415141749605a0e375524798999a1a4dd7c715c8060df1d0559666271046"), looks := true }, kinds := [], alts := [], laidByText := true, laidKinds := [.data, .sentinel, .pinned], laidTests := true, laidLooks := .later }
def KeysMemoryUptoCardSaid : Prop := Claim7.holds Tryd.pinned (.plain (OpenSpec.upto keysMemorySpec)) keysMemoryUptoCard
end Rows
end Go.Proofs.YtfhfbpjhjigbnaaDoor
