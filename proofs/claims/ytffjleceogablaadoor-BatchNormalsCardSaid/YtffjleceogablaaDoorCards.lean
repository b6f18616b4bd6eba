/-
  DERIVED. GIVEN WITH THE SEED: THE CARDS: each row of YtffjleceogablaaDoorRows.lean that lists a variable, with what it lists TIED to the program's text (the seventh form; the later family's looks); each row that meets fmt, with fmt's text TOLD by the authors' own Lean function (tested against real Go, not proved from fmt's source: count such statements apart). THE CARD IS WHAT COUNTS. Prove the row's statement (the work); the ties are given (YtffjleceogablaaDoorTie.lean); close each card by the builder's one call (the guide's Derived/Test/ToyasCard.lean, 'card_holds'). Laid BY PROGRAM, IN A SANDBOX (cutbox-door.mjs). By AI agents, Wed Nov 11 2026. No macro, syntax, notation, axiom, sorry.
-/
import Derived.Test.YtffjleceogablaaDoorRows
import GoSem.ClaimSeven
namespace Go.Proofs.YtffjleceogablaaDoor
namespace Rows

/-- THE TIED CARD OF 'remitlaw12.BatchNormals'. -/
def batchNormalsCard : Claim7 := { stood := { row := batchNormalsRow, standIns := [], harness := (true, "422c4d8a73467074c5172089b6e91db37a93c7113364d36411b998d8cb698bdc"), looks := true }, kinds := [], alts := [], laidByText := true, laidKinds := [.sentinel, .sentinel], laidTests := true, laidLooks := .later }
def BatchNormalsCardSaid : Prop := Claim7.holds Tryd.pinned (.plain (OpenSpec.ofChange batchNormalsSpec)) batchNormalsCard

/-- THE TIED CARD OF 'remitlaw12.BatchEncodes'. -/
def batchEncodesCard : Claim7 := { stood := { row := batchEncodesRow, standIns := [], harness := (true, "422c4d8a73467074c5172089b6e91db37a93c7113364d36411b998d8cb698bdc"), looks := true }, kinds := [], alts := [], laidByText := true, laidKinds := [.sentinel, .sentinel, .sentinel, .sentinel, .sentinel, .sentinel, .sentinel, .sentinel, .sentinel, .sentinel, .sentinel, .sentinel, .sentinel, .sentinel, .sentinel, .sentinel, .sentinel, .sentinel, .sentinel, .sentinel, .sentinel, .sentinel, .sentinel, .sentinel, .sentinel, .sentinel, .sentinel, .sentinel, .sentinel, .sentinel, .sentinel, .sentinel, .sentinel, .sentinel, .sentinel, .sentinel, .sentinel], laidTests := true, laidLooks := .later }
def BatchEncodesCardSaid : Prop := Claim7.holds Tryd.pinned (.plain (OpenSpec.ofChange batchEncodesSpec)) batchEncodesCard

/-- THE TIED CARD OF 'remitlaw12.BatchDecodes'. -/
def batchDecodesCard : Claim7 := { stood := { row := batchDecodesRow, standIns := [], harness := (true, "422c4d8a73467074c5172089b6e91db37a93c7113364d36411b998d8cb698bdc"), looks := true }, kinds := [], alts := [], laidByText := true, laidKinds := [.sentinel, .sentinel, .sentinel, .sentinel, .sentinel, .sentinel, .sentinel, .sentinel, .sentinel, .sentinel, .sentinel, .sentinel, .sentinel, .sentinel, .sentinel, .sentinel, .sentinel, .sentinel, .sentinel, .sentinel, .sentinel, .sentinel, .sentinel, .sentinel, .sentinel, .sentinel, .sentinel, .sentinel, .sentinel, .sentinel, .sentinel, .sentinel, .sentinel, .sentinel, .sentinel, .sentinel, .sentinel], laidTests := true, laidLooks := .later }
def BatchDecodesCardSaid : Prop := Claim7.holds Tryd.pinned (.plain (OpenSpec.ofChange batchDecodesSpec)) batchDecodesCard

/-- THE TIED CARD OF 'remitlaw12.BatchBack'. -/
def batchBackCard : Claim7 := { stood := { row := batchBackRow, standIns := [], harness := (true, "422c4d8a73467074c5172089b6e91db37a93c7113364d36411b998d8cb698bdc"), looks := true }, kinds := [], alts := [], laidByText := true, laidKinds := [.sentinel, .sentinel, .sentinel, .sentinel, .sentinel, .sentinel, .sentinel, .sentinel, .sentinel, .sentinel, .sentinel, .sentinel, .sentinel, .sentinel, .sentinel, .sentinel, .sentinel, .sentinel, .sentinel, .sentinel, .sentinel, .sentinel, .sentinel, .sentinel, .sentinel, .sentinel, .sentinel, .sentinel, .sentinel, .sentinel, .sentinel, .sentinel, .sentinel, .sentinel, .sentinel, .sentinel, .sentinel], laidTests := true, laidLooks := .later }
def BatchBackCardSaid : Prop := Claim7.holds Tryd.pinned (.plain (OpenSpec.ofChange batchBackSpec)) batchBackCard

/-- THE TIED CARD OF 'remitlaw12.BatchApplies'. -/
def batchAppliesCard : Claim7 := { stood := { row := batchAppliesRow, standIns := [], harness := (true, "422c4d8a73467074c5172089b6e91db37a93c7113364d36411b998d8cb698bdc"), looks := true }, kinds := [], alts := [], laidByText := true, laidKinds := [.sentinel, .sentinel], laidTests := true, laidLooks := .later }
def BatchAppliesCardSaid : Prop := Claim7.holds Tryd.pinned (.plain (OpenSpec.ofChange batchAppliesSpec)) batchAppliesCard

/-- THE TIED CARD OF 'remitlaw12.BatchBetween'. -/
def batchBetweenCard : Claim7 := { stood := { row := batchBetweenRow, standIns := [], harness := (true, "422c4d8a73467074c5172089b6e91db37a93c7113364d36411b998d8cb698bdc"), looks := true }, kinds := [], alts := [], laidByText := true, laidKinds := [.sentinel, .sentinel], laidTests := true, laidLooks := .later }
def BatchBetweenCardSaid : Prop := Claim7.holds Tryd.pinned (.plain (OpenSpec.ofChange batchBetweenSpec)) batchBetweenCard

/-- THE TIED CARD OF 'remitlaw12.BatchJoins'. -/
def batchJoinsCard : Claim7 := { stood := { row := batchJoinsRow, standIns := [], harness := (true, "422c4d8a73467074c5172089b6e91db37a93c7113364d36411b998d8cb698bdc"), looks := true }, kinds := [], alts := [], laidByText := true, laidKinds := [.sentinel, .sentinel], laidTests := true, laidLooks := .later }
def BatchJoinsCardSaid : Prop := Claim7.holds Tryd.pinned (.plain (OpenSpec.ofChange batchJoinsSpec)) batchJoinsCard

/-- THE SECOND FORM's CARD OF 'remitlaw12.BatchNormals'. -/
def batchNormalsUptoCard : Claim7 := { stood := { row := batchNormalsUptoRow, standIns := [], harness := (true, "422c4d8a73467074c5172089b6e91db37a93c7113364d36411b998d8cb698bdc"), looks := true }, kinds := [], alts := [], laidByText := true, laidKinds := [.sentinel, .sentinel], laidTests := true, laidLooks := .later }
def BatchNormalsUptoCardSaid : Prop := Claim7.holds Tryd.pinned (.plain (OpenSpec.upto batchNormalsSpec)) batchNormalsUptoCard

/-- THE SECOND FORM's CARD OF 'remitlaw12.BatchEncodes'. -/
def batchEncodesUptoCard : Claim7 := { stood := { row := batchEncodesUptoRow, standIns := [], harness := (true, "422c4d8a73467074c5172089b6e91db37a93c7113364d36411b998d8cb698bdc"), looks := true }, kinds := [], alts := [], laidByText := true, laidKinds := [.sentinel, .sentinel, .sentinel, .sentinel, .sentinel, .sentinel, .sentinel, .sentinel, .sentinel, .sentinel, .sentinel, .sentinel, .sentinel, .sentinel, .sentinel, .sentinel, .sentinel, .sentinel, .sentinel, .sentinel, .sentinel, .sentinel, .sentinel, .sentinel, .sentinel, .sentinel, .sentinel, .sentinel, .sentinel, .sentinel, .sentinel, .sentinel, .sentinel, .sentinel, .sentinel, .sentinel, .sentinel], laidTests := true, laidLooks := .later }
def BatchEncodesUptoCardSaid : Prop := Claim7.holds Tryd.pinned (.plain (OpenSpec.upto batchEncodesSpec)) batchEncodesUptoCard

/-- THE SECOND FORM's CARD OF 'remitlaw12.BatchDecodes'. -/
def batchDecodesUptoCard : Claim7 := { stood := { row := batchDecodesUptoRow, standIns := [], harness := (true, "422c4d8a73467074c5172089b6e91db37a93c7113364d36411b998d8cb698bdc"), looks := true }, kinds := [], alts := [], laidByText := true, laidKinds := [.sentinel, .sentinel, .sentinel, .sentinel, .sentinel, .sentinel, .sentinel, .sentinel, .sentinel, .sentinel, .sentinel, .sentinel, .sentinel, .sentinel, .sentinel, .sentinel, .sentinel, .sentinel, .sentinel, .sentinel, .sentinel, .sentinel, .sentinel, .sentinel, .sentinel, .sentinel, .sentinel, .sentinel, .sentinel, .sentinel, .sentinel, .sentinel, .sentinel, .sentinel, .sentinel, .sentinel, .sentinel], laidTests := true, laidLooks := .later }
def BatchDecodesUptoCardSaid : Prop := Claim7.holds Tryd.pinned (.plain (OpenSpec.upto batchDecodesSpec)) batchDecodesUptoCard

/-- THE SECOND FORM's CARD OF 'remitlaw12.BatchBack'. -/
def batchBackUptoCard : Claim7 := { stood := { row := batchBackUptoRow, standIns := [], harness := (true, "422c4d8a73467074c5172089b6e91db37a93c7113364d36411b998d8cb698bdc"), looks := true }, kinds := [], alts := [], laidByText := true, laidKinds := [.sentinel, .sentinel, .sentinel, .sentinel, .sentinel, .sentinel, .sentinel, .sentinel, .sentinel, .sentinel, .sentinel, .sentinel, .sentinel, .sentinel, .sentinel, .sentinel, .sentinel, .sentinel, .sentinel, .sentinel, .sentinel, .sentinel, .sentinel, .sentinel, .sentinel, .sentinel, .sentinel, .sentinel, .sentinel, .sentinel, .sentinel, .sentinel, .sentinel, .sentinel, .sentinel, .sentinel, .sentinel], laidTests := true, laidLooks := .later }
def BatchBackUptoCardSaid : Prop := Claim7.holds Tryd.pinned (.plain (OpenSpec.upto batchBackSpec)) batchBackUptoCard

/-- THE SECOND FORM's CARD OF 'remitlaw12.BatchApplies'. -/
def batchAppliesUptoCard : Claim7 := { stood := { row := batchAppliesUptoRow, standIns := [], harness := (true, "422c4d8a73467074c5172089b6e91db37a93c7113364d36411b998d8cb698bdc"), looks := true }, kinds := [], alts := [], laidByText := true, laidKinds := [.sentinel, .sentinel], laidTests := true, laidLooks := .later }
def BatchAppliesUptoCardSaid : Prop := Claim7.holds Tryd.pinned (.plain (OpenSpec.upto batchAppliesSpec)) batchAppliesUptoCard

/-- THE SECOND FORM's CARD OF 'remitlaw12.BatchBetween'. -/
def batchBetweenUptoCard : Claim7 := { stood := { row := batchBetweenUptoRow, standIns := [], harness := (true, "422c4d8a73467074c5172089b6e91db37a93c7113364d36411b998d8cb698bdc"), looks := true }, kinds := [], alts := [], laidByText := true, laidKinds := [.sentinel, .sentinel], laidTests := true, laidLooks := .later }
def BatchBetweenUptoCardSaid : Prop := Claim7.holds Tryd.pinned (.plain (OpenSpec.upto batchBetweenSpec)) batchBetweenUptoCard

/-- THE SECOND FORM's CARD OF 'remitlaw12.BatchJoins'. -/
def batchJoinsUptoCard : Claim7 := { stood := { row := batchJoinsUptoRow, standIns := [], harness := (true, "422c4d8a73467074c5172089b6e91db37a93c7113364d36411b998d8cb698bdc"), looks := true }, kinds := [], alts := [], laidByText := true, laidKinds := [.sentinel, .sentinel], laidTests := true, laidLooks := .later }
def BatchJoinsUptoCardSaid : Prop := Claim7.holds Tryd.pinned (.plain (OpenSpec.upto batchJoinsSpec)) batchJoinsUptoCard
end Rows
end Go.Proofs.YtffjleceogablaaDoor
