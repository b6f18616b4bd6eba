/-
  NARROWER THAN 'FOR EVERY INPUT', by the rows' own cells (each row's printed sentence says how): BatchNormals: laid · BatchEncodes: laid · BatchDecodes: laid · BatchBack: laid · BatchApplies: laid · BatchBetween: laid · BatchJoins: laid.
  DERIVED. THE GIVEN ROWS OF THIS SEAT. 7 by the template 'for every input the law returns true; each argument reads behind the call as it read before'; 0 by the template 'total and deterministic' (their statements: YtffjleceogablaaDoorTotals.lean).
  GIVEN WITH THE SEED: the statements are not yours to turn. If you find one false, say at which input.
  Laid BY PROGRAM, IN A SANDBOX (cutbox-rows.mjs): the forced cells as the released guide's own fill.sh prints them over the translation 15efb09d1ae22028… (all of the seat's roots in one cut). By AI agents, Wed Nov 11 2026. No macro, syntax, notation, axiom, sorry.
-/
import Derived.Test.YtffjleceogablaaDoorChecked
import GoSem.Claim
import GoSem.ClaimJoined
import GoSem.ClaimMapViews
import Derived.JoinedTies
import Derived.KernelRfl
namespace Go.Proofs.YtffjleceogablaaDoor
/- THE CELL 'sum', in the pinned program and in every row, IS THE sha256 OF THE DUMP (.gsa) THAT YtffjleceogablaaDoorProg.lean LOADS. Nothing in Lean hashes anything: it is a label: what it is worth is what the hold of that sum in a sandbox is worth. -/
noncomputable def Tryd.pinned : Pinned := { name := "ytffjleceogablaadoor", sum := "15efb09d1ae220285f4b3d197065a543fc79bc9c5b437ebcf0f8e712911160ce", checked := Tryd.checked }
namespace Rows
def none {H : Type} : Left H := { results := [], args := [] }

/- WHAT THE LISTED PACKAGE-LEVEL VARIABLES READ AS WHEN THE CALL BEGINS. Each datum BY PROGRAM (the guide's laid-datum.mjs) off the statement by which the dump's own 'gosem.cut.vars' lays the variable. In a bare row this is a premise. The card (YtffjleceogablaaDoorCards.lean) ties it to the program's text. -/
def laid_remit_api_ErrOrder {H : Type} : DataW H := .iface "*errors.errorString" (.ptr (.agg [.lit (.string [114, 101, 109, 105, 116, 58, 32, 111, 114, 100, 101, 114])]))
def laid_remit_api_ErrForm {H : Type} : DataW H := .iface "*errors.errorString" (.ptr (.agg [.lit (.string [114, 101, 109, 105, 116, 58, 32, 102, 111, 114, 109])]))
def laid_remit_api_ErrShort {H : Type} : DataW H := .iface "*errors.errorString" (.ptr (.agg [.lit (.string [114, 101, 109, 105, 116, 58, 32, 116, 111, 111, 32, 115, 104, 111, 114, 116])]))
def laid_remit_api_ErrVarint {H : Type} : DataW H := .iface "*errors.errorString" (.ptr (.agg [.lit (.string [114, 101, 109, 105, 116, 58, 32, 118, 97, 114, 105, 110, 116])]))
def laid_remit_api_ErrLimit {H : Type} : DataW H := .iface "*errors.errorString" (.ptr (.agg [.lit (.string [114, 101, 109, 105, 116, 58, 32, 108, 105, 109, 105, 116])]))
def laid_remit_api_ErrTail {H : Type} : DataW H := .iface "*errors.errorString" (.ptr (.agg [.lit (.string [114, 101, 109, 105, 116, 58, 32, 116, 97, 105, 108])]))
def laid_remit_api_ErrRange {H : Type} : DataW H := .iface "*errors.errorString" (.ptr (.agg [.lit (.string [114, 101, 109, 105, 116, 58, 32, 114, 97, 110, 103, 101])]))
def laid_remit_api_ErrDigits {H : Type} : DataW H := .iface "*errors.errorString" (.ptr (.agg [.lit (.string [114, 101, 109, 105, 116, 58, 32, 99, 104, 101, 99, 107, 32, 100, 105, 103, 105, 116, 115])]))
def laid_remit_api_ErrAmount {H : Type} : DataW H := .iface "*errors.errorString" (.ptr (.agg [.lit (.string [114, 101, 109, 105, 116, 58, 32, 97, 109, 111, 117, 110, 116])]))
def laid_remit_api_ErrOverflow {H : Type} : DataW H := .iface "*errors.errorString" (.ptr (.agg [.lit (.string [114, 101, 109, 105, 116, 58, 32, 111, 118, 101, 114, 102, 108, 111, 119])]))
def laid_remit_api_ErrCurrency {H : Type} : DataW H := .iface "*errors.errorString" (.ptr (.agg [.lit (.string [114, 101, 109, 105, 116, 58, 32, 99, 117, 114, 114, 101, 110, 99, 121])]))
def laid_remit_api_ErrDown {H : Type} : DataW H := .iface "*errors.errorString" (.ptr (.agg [.lit (.string [114, 101, 109, 105, 116, 58, 32, 100, 111, 119, 110])]))
def laid_remit_api_ErrSmall {H : Type} : DataW H := .iface "*errors.errorString" (.ptr (.agg [.lit (.string [114, 101, 109, 105, 116, 58, 32, 115, 109, 97, 108, 108])]))
def laid_remit_api_ErrBlank {H : Type} : DataW H := .iface "*errors.errorString" (.ptr (.agg [.lit (.string [114, 101, 109, 105, 116, 58, 32, 98, 108, 97, 110, 107])]))
def laid_remit_api_ErrCorrupt {H : Type} : DataW H := .iface "*errors.errorString" (.ptr (.agg [.lit (.string [114, 101, 109, 105, 116, 58, 32, 99, 111, 114, 114, 117, 112, 116])]))
def laid_remit_api_ErrWorn {H : Type} : DataW H := .iface "*errors.errorString" (.ptr (.agg [.lit (.string [114, 101, 109, 105, 116, 58, 32, 119, 111, 114, 110])]))
def laid_remit_api_ErrFull {H : Type} : DataW H := .iface "*errors.errorString" (.ptr (.agg [.lit (.string [114, 101, 109, 105, 116, 58, 32, 102, 117, 108, 108])]))
def laid_remit_api_ErrLarge {H : Type} : DataW H := .iface "*errors.errorString" (.ptr (.agg [.lit (.string [114, 101, 109, 105, 116, 58, 32, 108, 97, 114, 103, 101])]))
def laid_remit_api_ErrClosed {H : Type} : DataW H := .iface "*errors.errorString" (.ptr (.agg [.lit (.string [114, 101, 109, 105, 116, 58, 32, 99, 108, 111, 115, 101, 100])]))
def laid_remit_api_ErrAccount {H : Type} : DataW H := .iface "*errors.errorString" (.ptr (.agg [.lit (.string [114, 101, 109, 105, 116, 58, 32, 97, 99, 99, 111, 117, 110, 116])]))
def laid_remit_api_ErrExists {H : Type} : DataW H := .iface "*errors.errorString" (.ptr (.agg [.lit (.string [114, 101, 109, 105, 116, 58, 32, 101, 120, 105, 115, 116, 115])]))
def laid_remit_api_ErrFrozen {H : Type} : DataW H := .iface "*errors.errorString" (.ptr (.agg [.lit (.string [114, 101, 109, 105, 116, 58, 32, 102, 114, 111, 122, 101, 110])]))
def laid_remit_api_ErrFunds {H : Type} : DataW H := .iface "*errors.errorString" (.ptr (.agg [.lit (.string [114, 101, 109, 105, 116, 58, 32, 102, 117, 110, 100, 115])]))
def laid_remit_api_ErrLegs {H : Type} : DataW H := .iface "*errors.errorString" (.ptr (.agg [.lit (.string [114, 101, 109, 105, 116, 58, 32, 108, 101, 103, 115])]))
def laid_remit_api_ErrConflict {H : Type} : DataW H := .iface "*errors.errorString" (.ptr (.agg [.lit (.string [114, 101, 109, 105, 116, 58, 32, 99, 111, 110, 102, 108, 105, 99, 116])]))
def laid_remit_api_ErrId {H : Type} : DataW H := .iface "*errors.errorString" (.ptr (.agg [.lit (.string [114, 101, 109, 105, 116, 58, 32, 105, 100])]))
def laid_remit_api_ErrPayee {H : Type} : DataW H := .iface "*errors.errorString" (.ptr (.agg [.lit (.string [114, 101, 109, 105, 116, 58, 32, 112, 97, 121, 101, 101])]))
def laid_remit_api_ErrRail {H : Type} : DataW H := .iface "*errors.errorString" (.ptr (.agg [.lit (.string [114, 101, 109, 105, 116, 58, 32, 114, 97, 105, 108])]))
def laid_remit_api_ErrBusy {H : Type} : DataW H := .iface "*errors.errorString" (.ptr (.agg [.lit (.string [114, 101, 109, 105, 116, 58, 32, 98, 117, 115, 121])]))
def laid_remit_api_ErrWindow {H : Type} : DataW H := .iface "*errors.errorString" (.ptr (.agg [.lit (.string [114, 101, 109, 105, 116, 58, 32, 119, 105, 110, 100, 111, 119])]))
def laid_remit_api_ErrPhase {H : Type} : DataW H := .iface "*errors.errorString" (.ptr (.agg [.lit (.string [114, 101, 109, 105, 116, 58, 32, 112, 104, 97, 115, 101])]))
def laid_remit_api_ErrToken {H : Type} : DataW H := .iface "*errors.errorString" (.ptr (.agg [.lit (.string [114, 101, 109, 105, 116, 58, 32, 116, 111, 107, 101, 110])]))
def laid_remit_api_ErrTime {H : Type} : DataW H := .iface "*errors.errorString" (.ptr (.agg [.lit (.string [114, 101, 109, 105, 116, 58, 32, 116, 105, 109, 101])]))
def laid_remit_api_ErrUnknown {H : Type} : DataW H := .iface "*errors.errorString" (.ptr (.agg [.lit (.string [114, 101, 109, 105, 116, 58, 32, 117, 110, 107, 110, 111, 119, 110])]))
def laid_remit_api_ErrConfig {H : Type} : DataW H := .iface "*errors.errorString" (.ptr (.agg [.lit (.string [114, 101, 109, 105, 116, 58, 32, 99, 111, 110, 102, 105, 103, 117, 114, 97, 116, 105, 111, 110])]))
def laid_remit_api_ErrCommand {H : Type} : DataW H := .iface "*errors.errorString" (.ptr (.agg [.lit (.string [114, 101, 109, 105, 116, 58, 32, 99, 111, 109, 109, 97, 110, 100])]))
def laid_remit_api_ErrUse {H : Type} : DataW H := .iface "*errors.errorString" (.ptr (.agg [.lit (.string [114, 101, 109, 105, 116, 58, 32, 105, 110, 32, 117, 115, 101])]))

/-- 'remitlaw12.BatchNormals': WHATEVER THE INPUT: true; the input reads as it did. -/
def batchNormalsSpec : ChangeSpec := { name := "batchNormals", fn := fun _ => fun
  | [d] => { results := [.lit (.bool true)], args := [d] }
  | _ => none }
def batchNormalsRow : OpenClaim := { program := "ytffjleceogablaadoor", sum := "15efb09d1ae220285f4b3d197065a543fc79bc9c5b437ebcf0f8e712911160ce", func := "remit/remitlaw12.BatchNormals", spec := "batchNormals", inPlace := ["internal/abi.NoEscape", "internal/bytealg.abigen_runtime_cmpstring"], unfollowed := true, recurses := true, named := ["remit/api.ErrOrder", "remit/api.ErrForm"], apart := false, laid := [("remit/api.ErrOrder", laid_remit_api_ErrOrder), ("remit/api.ErrForm", laid_remit_api_ErrForm)] }
def BatchNormalsSaid : Prop := batchNormalsRow.holds Tryd.pinned (OpenSpec.ofChange batchNormalsSpec)

/-- ITS FALSE NEIGHBOUR: 'it returns false'. Refute it at one input. -/
def batchNormalsWrong : ChangeSpec := { name := "batchNormals", fn := fun _ => fun
  | [d] => { results := [.lit (.bool false)], args := [d] }
  | _ => none }
def BatchNormalsWrongFalsely : Prop := batchNormalsRow.holds Tryd.pinned (OpenSpec.ofChange batchNormalsWrong)

/-- 'remitlaw12.BatchEncodes': WHATEVER THE INPUT: true; the input reads as it did. -/
def batchEncodesSpec : ChangeSpec := { name := "batchEncodes", fn := fun _ => fun
  | [d] => { results := [.lit (.bool true)], args := [d] }
  | _ => none }
def batchEncodesRow : OpenClaim := { program := "ytffjleceogablaadoor", sum := "15efb09d1ae220285f4b3d197065a543fc79bc9c5b437ebcf0f8e712911160ce", func := "remit/remitlaw12.BatchEncodes", spec := "batchEncodes", inPlace := ["internal/abi.NoEscape", "internal/bytealg.abigen_runtime_cmpstring"], unfollowed := true, recurses := true, named := ["remit/api.ErrOrder", "remit/api.ErrForm", "remit/api.ErrShort", "remit/api.ErrVarint", "remit/api.ErrLimit", "remit/api.ErrTail", "remit/api.ErrRange", "remit/api.ErrDigits", "remit/api.ErrAmount", "remit/api.ErrOverflow", "remit/api.ErrCurrency", "remit/api.ErrDown", "remit/api.ErrSmall", "remit/api.ErrBlank", "remit/api.ErrCorrupt", "remit/api.ErrWorn", "remit/api.ErrFull", "remit/api.ErrLarge", "remit/api.ErrClosed", "remit/api.ErrAccount", "remit/api.ErrExists", "remit/api.ErrFrozen", "remit/api.ErrFunds", "remit/api.ErrLegs", "remit/api.ErrConflict", "remit/api.ErrId", "remit/api.ErrPayee", "remit/api.ErrRail", "remit/api.ErrBusy", "remit/api.ErrWindow", "remit/api.ErrPhase", "remit/api.ErrToken", "remit/api.ErrTime", "remit/api.ErrUnknown", "remit/api.ErrConfig", "remit/api.ErrCommand", "remit/api.ErrUse"], apart := false, laid := [("remit/api.ErrShort", laid_remit_api_ErrShort), ("remit/api.ErrVarint", laid_remit_api_ErrVarint), ("remit/api.ErrLimit", laid_remit_api_ErrLimit), ("remit/api.ErrOrder", laid_remit_api_ErrOrder), ("remit/api.ErrTail", laid_remit_api_ErrTail), ("remit/api.ErrRange", laid_remit_api_ErrRange), ("remit/api.ErrForm", laid_remit_api_ErrForm), ("remit/api.ErrDigits", laid_remit_api_ErrDigits), ("remit/api.ErrAmount", laid_remit_api_ErrAmount), ("remit/api.ErrOverflow", laid_remit_api_ErrOverflow), ("remit/api.ErrCurrency", laid_remit_api_ErrCurrency), ("remit/api.ErrDown", laid_remit_api_ErrDown), ("remit/api.ErrSmall", laid_remit_api_ErrSmall), ("remit/api.ErrBlank", laid_remit_api_ErrBlank), ("remit/api.ErrCorrupt", laid_remit_api_ErrCorrupt), ("remit/api.ErrWorn", laid_remit_api_ErrWorn), ("remit/api.ErrFull", laid_remit_api_ErrFull), ("remit/api.ErrLarge", laid_remit_api_ErrLarge), ("remit/api.ErrClosed", laid_remit_api_ErrClosed), ("remit/api.ErrAccount", laid_remit_api_ErrAccount), ("remit/api.ErrExists", laid_remit_api_ErrExists), ("remit/api.ErrFrozen", laid_remit_api_ErrFrozen), ("remit/api.ErrFunds", laid_remit_api_ErrFunds), ("remit/api.ErrLegs", laid_remit_api_ErrLegs), ("remit/api.ErrConflict", laid_remit_api_ErrConflict), ("remit/api.ErrId", laid_remit_api_ErrId), ("remit/api.ErrPayee", laid_remit_api_ErrPayee), ("remit/api.ErrRail", laid_remit_api_ErrRail), ("remit/api.ErrBusy", laid_remit_api_ErrBusy), ("remit/api.ErrWindow", laid_remit_api_ErrWindow), ("remit/api.ErrPhase", laid_remit_api_ErrPhase), ("remit/api.ErrToken", laid_remit_api_ErrToken), ("remit/api.ErrTime", laid_remit_api_ErrTime), ("remit/api.ErrUnknown", laid_remit_api_ErrUnknown), ("remit/api.ErrConfig", laid_remit_api_ErrConfig), ("remit/api.ErrCommand", laid_remit_api_ErrCommand), ("remit/api.ErrUse", laid_remit_api_ErrUse)] }
def BatchEncodesSaid : Prop := batchEncodesRow.holds Tryd.pinned (OpenSpec.ofChange batchEncodesSpec)

/-- ITS FALSE NEIGHBOUR: 'it returns false'. Refute it at one input. -/
def batchEncodesWrong : ChangeSpec := { name := "batchEncodes", fn := fun _ => fun
  | [d] => { results := [.lit (.bool false)], args := [d] }
  | _ => none }
def BatchEncodesWrongFalsely : Prop := batchEncodesRow.holds Tryd.pinned (OpenSpec.ofChange batchEncodesWrong)

/-- 'remitlaw12.BatchDecodes': WHATEVER THE INPUT: true; the input reads as it did. -/
def batchDecodesSpec : ChangeSpec := { name := "batchDecodes", fn := fun _ => fun
  | [d] => { results := [.lit (.bool true)], args := [d] }
  | _ => none }
def batchDecodesRow : OpenClaim := { program := "ytffjleceogablaadoor", sum := "15efb09d1ae220285f4b3d197065a543fc79bc9c5b437ebcf0f8e712911160ce", func := "remit/remitlaw12.BatchDecodes", spec := "batchDecodes", inPlace := ["internal/abi.NoEscape", "internal/bytealg.abigen_runtime_cmpstring"], unfollowed := true, recurses := true, named := ["remit/api.ErrOrder", "remit/api.ErrForm", "remit/api.ErrVarint", "remit/api.ErrShort", "remit/api.ErrLimit", "remit/api.ErrTail", "remit/api.ErrRange", "remit/api.ErrDigits", "remit/api.ErrAmount", "remit/api.ErrOverflow", "remit/api.ErrCurrency", "remit/api.ErrDown", "remit/api.ErrSmall", "remit/api.ErrBlank", "remit/api.ErrCorrupt", "remit/api.ErrWorn", "remit/api.ErrFull", "remit/api.ErrLarge", "remit/api.ErrClosed", "remit/api.ErrAccount", "remit/api.ErrExists", "remit/api.ErrFrozen", "remit/api.ErrFunds", "remit/api.ErrLegs", "remit/api.ErrConflict", "remit/api.ErrId", "remit/api.ErrPayee", "remit/api.ErrRail", "remit/api.ErrBusy", "remit/api.ErrWindow", "remit/api.ErrPhase", "remit/api.ErrToken", "remit/api.ErrTime", "remit/api.ErrUnknown", "remit/api.ErrConfig", "remit/api.ErrCommand", "remit/api.ErrUse"], apart := false, laid := [("remit/api.ErrShort", laid_remit_api_ErrShort), ("remit/api.ErrVarint", laid_remit_api_ErrVarint), ("remit/api.ErrLimit", laid_remit_api_ErrLimit), ("remit/api.ErrOrder", laid_remit_api_ErrOrder), ("remit/api.ErrTail", laid_remit_api_ErrTail), ("remit/api.ErrRange", laid_remit_api_ErrRange), ("remit/api.ErrForm", laid_remit_api_ErrForm), ("remit/api.ErrDigits", laid_remit_api_ErrDigits), ("remit/api.ErrAmount", laid_remit_api_ErrAmount), ("remit/api.ErrOverflow", laid_remit_api_ErrOverflow), ("remit/api.ErrCurrency", laid_remit_api_ErrCurrency), ("remit/api.ErrDown", laid_remit_api_ErrDown), ("remit/api.ErrSmall", laid_remit_api_ErrSmall), ("remit/api.ErrBlank", laid_remit_api_ErrBlank), ("remit/api.ErrCorrupt", laid_remit_api_ErrCorrupt), ("remit/api.ErrWorn", laid_remit_api_ErrWorn), ("remit/api.ErrFull", laid_remit_api_ErrFull), ("remit/api.ErrLarge", laid_remit_api_ErrLarge), ("remit/api.ErrClosed", laid_remit_api_ErrClosed), ("remit/api.ErrAccount", laid_remit_api_ErrAccount), ("remit/api.ErrExists", laid_remit_api_ErrExists), ("remit/api.ErrFrozen", laid_remit_api_ErrFrozen), ("remit/api.ErrFunds", laid_remit_api_ErrFunds), ("remit/api.ErrLegs", laid_remit_api_ErrLegs), ("remit/api.ErrConflict", laid_remit_api_ErrConflict), ("remit/api.ErrId", laid_remit_api_ErrId), ("remit/api.ErrPayee", laid_remit_api_ErrPayee), ("remit/api.ErrRail", laid_remit_api_ErrRail), ("remit/api.ErrBusy", laid_remit_api_ErrBusy), ("remit/api.ErrWindow", laid_remit_api_ErrWindow), ("remit/api.ErrPhase", laid_remit_api_ErrPhase), ("remit/api.ErrToken", laid_remit_api_ErrToken), ("remit/api.ErrTime", laid_remit_api_ErrTime), ("remit/api.ErrUnknown", laid_remit_api_ErrUnknown), ("remit/api.ErrConfig", laid_remit_api_ErrConfig), ("remit/api.ErrCommand", laid_remit_api_ErrCommand), ("remit/api.ErrUse", laid_remit_api_ErrUse)] }
def BatchDecodesSaid : Prop := batchDecodesRow.holds Tryd.pinned (OpenSpec.ofChange batchDecodesSpec)

/-- ITS FALSE NEIGHBOUR: 'it returns false'. Refute it at one input. -/
def batchDecodesWrong : ChangeSpec := { name := "batchDecodes", fn := fun _ => fun
  | [d] => { results := [.lit (.bool false)], args := [d] }
  | _ => none }
def BatchDecodesWrongFalsely : Prop := batchDecodesRow.holds Tryd.pinned (OpenSpec.ofChange batchDecodesWrong)

/-- 'remitlaw12.BatchBack': WHATEVER THE INPUT: true; the input reads as it did. -/
def batchBackSpec : ChangeSpec := { name := "batchBack", fn := fun _ => fun
  | [d1, d2, d3] => { results := [.lit (.bool true)], args := [d1, d2, d3] }
  | _ => none }
def batchBackRow : OpenClaim := { program := "ytffjleceogablaadoor", sum := "15efb09d1ae220285f4b3d197065a543fc79bc9c5b437ebcf0f8e712911160ce", func := "remit/remitlaw12.BatchBack", spec := "batchBack", inPlace := ["internal/abi.NoEscape", "internal/bytealg.abigen_runtime_cmpstring"], unfollowed := true, recurses := true, named := ["remit/api.ErrOrder", "remit/api.ErrForm", "remit/api.ErrVarint", "remit/api.ErrShort", "remit/api.ErrLimit", "remit/api.ErrTail", "remit/api.ErrRange", "remit/api.ErrDigits", "remit/api.ErrAmount", "remit/api.ErrOverflow", "remit/api.ErrCurrency", "remit/api.ErrDown", "remit/api.ErrSmall", "remit/api.ErrBlank", "remit/api.ErrCorrupt", "remit/api.ErrWorn", "remit/api.ErrFull", "remit/api.ErrLarge", "remit/api.ErrClosed", "remit/api.ErrAccount", "remit/api.ErrExists", "remit/api.ErrFrozen", "remit/api.ErrFunds", "remit/api.ErrLegs", "remit/api.ErrConflict", "remit/api.ErrId", "remit/api.ErrPayee", "remit/api.ErrRail", "remit/api.ErrBusy", "remit/api.ErrWindow", "remit/api.ErrPhase", "remit/api.ErrToken", "remit/api.ErrTime", "remit/api.ErrUnknown", "remit/api.ErrConfig", "remit/api.ErrCommand", "remit/api.ErrUse"], apart := false, laid := [("remit/api.ErrShort", laid_remit_api_ErrShort), ("remit/api.ErrVarint", laid_remit_api_ErrVarint), ("remit/api.ErrLimit", laid_remit_api_ErrLimit), ("remit/api.ErrOrder", laid_remit_api_ErrOrder), ("remit/api.ErrTail", laid_remit_api_ErrTail), ("remit/api.ErrRange", laid_remit_api_ErrRange), ("remit/api.ErrForm", laid_remit_api_ErrForm), ("remit/api.ErrDigits", laid_remit_api_ErrDigits), ("remit/api.ErrAmount", laid_remit_api_ErrAmount), ("remit/api.ErrOverflow", laid_remit_api_ErrOverflow), ("remit/api.ErrCurrency", laid_remit_api_ErrCurrency), ("remit/api.ErrDown", laid_remit_api_ErrDown), ("remit/api.ErrSmall", laid_remit_api_ErrSmall), ("remit/api.ErrBlank", laid_remit_api_ErrBlank), ("remit/api.ErrCorrupt", laid_remit_api_ErrCorrupt), ("remit/api.ErrWorn", laid_remit_api_ErrWorn), ("remit/api.ErrFull", laid_remit_api_ErrFull), ("remit/api.ErrLarge", laid_remit_api_ErrLarge), ("remit/api.ErrClosed", laid_remit_api_ErrClosed), ("remit/api.ErrAccount", laid_remit_api_ErrAccount), ("remit/api.ErrExists", laid_remit_api_ErrExists), ("remit/api.ErrFrozen", laid_remit_api_ErrFrozen), ("remit/api.ErrFunds", laid_remit_api_ErrFunds), ("remit/api.ErrLegs", laid_remit_api_ErrLegs), ("remit/api.ErrConflict", laid_remit_api_ErrConflict), ("remit/api.ErrId", laid_remit_api_ErrId), ("remit/api.ErrPayee", laid_remit_api_ErrPayee), ("remit/api.ErrRail", laid_remit_api_ErrRail), ("remit/api.ErrBusy", laid_remit_api_ErrBusy), ("remit/api.ErrWindow", laid_remit_api_ErrWindow), ("remit/api.ErrPhase", laid_remit_api_ErrPhase), ("remit/api.ErrToken", laid_remit_api_ErrToken), ("remit/api.ErrTime", laid_remit_api_ErrTime), ("remit/api.ErrUnknown", laid_remit_api_ErrUnknown), ("remit/api.ErrConfig", laid_remit_api_ErrConfig), ("remit/api.ErrCommand", laid_remit_api_ErrCommand), ("remit/api.ErrUse", laid_remit_api_ErrUse)] }
def BatchBackSaid : Prop := batchBackRow.holds Tryd.pinned (OpenSpec.ofChange batchBackSpec)

/-- ITS FALSE NEIGHBOUR: 'it returns false'. Refute it at one input. -/
def batchBackWrong : ChangeSpec := { name := "batchBack", fn := fun _ => fun
  | [d1, d2, d3] => { results := [.lit (.bool false)], args := [d1, d2, d3] }
  | _ => none }
def BatchBackWrongFalsely : Prop := batchBackRow.holds Tryd.pinned (OpenSpec.ofChange batchBackWrong)

/-- 'remitlaw12.BatchApplies': WHATEVER THE INPUT: true; the input reads as it did. -/
def batchAppliesSpec : ChangeSpec := { name := "batchApplies", fn := fun _ => fun
  | [d1, d2] => { results := [.lit (.bool true)], args := [d1, d2] }
  | _ => none }
def batchAppliesRow : OpenClaim := { program := "ytffjleceogablaadoor", sum := "15efb09d1ae220285f4b3d197065a543fc79bc9c5b437ebcf0f8e712911160ce", func := "remit/remitlaw12.BatchApplies", spec := "batchApplies", inPlace := ["internal/abi.NoEscape", "internal/bytealg.abigen_runtime_cmpstring"], unfollowed := true, recurses := true, named := ["remit/api.ErrOrder", "remit/api.ErrForm"], apart := false, laid := [("remit/api.ErrOrder", laid_remit_api_ErrOrder), ("remit/api.ErrForm", laid_remit_api_ErrForm)] }
def BatchAppliesSaid : Prop := batchAppliesRow.holds Tryd.pinned (OpenSpec.ofChange batchAppliesSpec)

/-- ITS FALSE NEIGHBOUR: 'it returns false'. Refute it at one input. -/
def batchAppliesWrong : ChangeSpec := { name := "batchApplies", fn := fun _ => fun
  | [d1, d2] => { results := [.lit (.bool false)], args := [d1, d2] }
  | _ => none }
def BatchAppliesWrongFalsely : Prop := batchAppliesRow.holds Tryd.pinned (OpenSpec.ofChange batchAppliesWrong)

/-- 'remitlaw12.BatchBetween': WHATEVER THE INPUT: true; the input reads as it did. -/
def batchBetweenSpec : ChangeSpec := { name := "batchBetween", fn := fun _ => fun
  | [d1, d2] => { results := [.lit (.bool true)], args := [d1, d2] }
  | _ => none }
def batchBetweenRow : OpenClaim := { program := "ytffjleceogablaadoor", sum := "15efb09d1ae220285f4b3d197065a543fc79bc9c5b437ebcf0f8e712911160ce", func := "remit/remitlaw12.BatchBetween", spec := "batchBetween", inPlace := ["internal/abi.NoEscape", "internal/bytealg.abigen_runtime_cmpstring"], unfollowed := true, recurses := true, named := ["remit/api.ErrOrder", "remit/api.ErrForm"], apart := false, laid := [("remit/api.ErrOrder", laid_remit_api_ErrOrder), ("remit/api.ErrForm", laid_remit_api_ErrForm)] }
def BatchBetweenSaid : Prop := batchBetweenRow.holds Tryd.pinned (OpenSpec.ofChange batchBetweenSpec)

/-- ITS FALSE NEIGHBOUR: 'it returns false'. Refute it at one input. -/
def batchBetweenWrong : ChangeSpec := { name := "batchBetween", fn := fun _ => fun
  | [d1, d2] => { results := [.lit (.bool false)], args := [d1, d2] }
  | _ => none }
def BatchBetweenWrongFalsely : Prop := batchBetweenRow.holds Tryd.pinned (OpenSpec.ofChange batchBetweenWrong)

/-- 'remitlaw12.BatchJoins': WHATEVER THE INPUT: true; the input reads as it did. -/
def batchJoinsSpec : ChangeSpec := { name := "batchJoins", fn := fun _ => fun
  | [d1, d2, d3] => { results := [.lit (.bool true)], args := [d1, d2, d3] }
  | _ => none }
def batchJoinsRow : OpenClaim := { program := "ytffjleceogablaadoor", sum := "15efb09d1ae220285f4b3d197065a543fc79bc9c5b437ebcf0f8e712911160ce", func := "remit/remitlaw12.BatchJoins", spec := "batchJoins", inPlace := ["internal/abi.NoEscape", "internal/bytealg.abigen_runtime_cmpstring"], unfollowed := true, recurses := true, named := ["remit/api.ErrOrder", "remit/api.ErrForm"], apart := false, laid := [("remit/api.ErrOrder", laid_remit_api_ErrOrder), ("remit/api.ErrForm", laid_remit_api_ErrForm)] }
def BatchJoinsSaid : Prop := batchJoinsRow.holds Tryd.pinned (OpenSpec.ofChange batchJoinsSpec)

/-- ITS FALSE NEIGHBOUR: 'it returns false'. Refute it at one input. -/
def batchJoinsWrong : ChangeSpec := { name := "batchJoins", fn := fun _ => fun
  | [d1, d2, d3] => { results := [.lit (.bool false)], args := [d1, d2, d3] }
  | _ => none }
def BatchJoinsWrongFalsely : Prop := batchJoinsRow.holds Tryd.pinned (OpenSpec.ofChange batchJoinsWrong)

/- THE SECOND FORM. 'bulk': how many values and letters a reading holds, each counted each time it is reached (what is shared counts as often as it is met; a slice's spare places count too). A statement '..UptoSaid' is the law's where the arguments, and the package variables that the reading takes, are together of bulk at most 1048576: NARROWER than '..Said'. Prove '..Said' where nothing that the law and all that it calls make is longer than what came in: it says more and counts as full. Else prove '..UptoSaid'. A law counts once. -/
mutual
def uptoBulk {H : Type} : DataW H → Nat
  | .lit (.string bytes) => bytes.length + 1
  | .lit _ => 1
  | .nil => 1
  | .ptr d => uptoBulk d + 1
  | .slice elems spare => uptoBulkAll elems + uptoBulkAll spare + 1
  | .agg parts => uptoBulkAll parts + 1
  | .iface _ d => uptoBulk d + 1
  | .map entries => uptoBulkEntries entries + 1
  | .held _ => 1
def uptoBulkAll {H : Type} : List (DataW H) → Nat
  | [] => 0
  | d :: r => uptoBulk d + uptoBulkAll r
def uptoBulkEntries {H : Type} : List (Lit × DataW H) → Nat
  | [] => 0
  | x :: r => uptoBulkEntry x + uptoBulkEntries r
def uptoBulkEntry {H : Type} : Lit × DataW H → Nat
  | (.string bytes, d) => bytes.length + uptoBulk d + 1
  | (_, d) => uptoBulk d + 1
 end
def uptoSmall : (H : Type) → List (DataW H) → Bool := fun _ ds => decide (uptoBulkAll ds ≤ 1048576)
def OpenSpec.upto (s : _root_.Go.ChangeSpec) : _root_.Go.OpenSpec := { _root_.Go.OpenSpec.ofChange s with cond := some uptoSmall }

/-- 'remitlaw12.BatchNormals', WHERE WHAT IT READS IS OF BULK AT MOST 1048576: true; the input reads as it did. -/
def batchNormalsUptoRow : OpenClaim := { program := "ytffjleceogablaadoor", sum := "15efb09d1ae220285f4b3d197065a543fc79bc9c5b437ebcf0f8e712911160ce", func := "remit/remitlaw12.BatchNormals", spec := "batchNormals", inPlace := ["internal/abi.NoEscape", "internal/bytealg.abigen_runtime_cmpstring"], unfollowed := true, recurses := true, named := ["remit/api.ErrOrder", "remit/api.ErrForm"], apart := false, laid := [("remit/api.ErrOrder", laid_remit_api_ErrOrder), ("remit/api.ErrForm", laid_remit_api_ErrForm)], narrowed := true }
def BatchNormalsUptoSaid : Prop := batchNormalsUptoRow.holds Tryd.pinned (OpenSpec.upto batchNormalsSpec)

/-- 'remitlaw12.BatchEncodes', WHERE WHAT IT READS IS OF BULK AT MOST 1048576: true; the input reads as it did. -/
def batchEncodesUptoRow : OpenClaim := { program := "ytffjleceogablaadoor", sum := "15efb09d1ae220285f4b3d197065a543fc79bc9c5b437ebcf0f8e712911160ce", func := "remit/remitlaw12.BatchEncodes", spec := "batchEncodes", inPlace := ["internal/abi.NoEscape", "internal/bytealg.abigen_runtime_cmpstring"], unfollowed := true, recurses := true, named := ["remit/api.ErrOrder", "remit/api.ErrForm", "remit/api.ErrShort", "remit/api.ErrVarint", "remit/api.ErrLimit", "remit/api.ErrTail", "remit/api.ErrRange", "remit/api.ErrDigits", "remit/api.ErrAmount", "remit/api.ErrOverflow", "remit/api.ErrCurrency", "remit/api.ErrDown", "remit/api.ErrSmall", "remit/api.ErrBlank", "remit/api.ErrCorrupt", "remit/api.ErrWorn", "remit/api.ErrFull", "remit/api.ErrLarge", "remit/api.ErrClosed", "remit/api.ErrAccount", "remit/api.ErrExists", "remit/api.ErrFrozen", "remit/api.ErrFunds", "remit/api.ErrLegs", "remit/api.ErrConflict", "remit/api.ErrId", "remit/api.ErrPayee", "remit/api.ErrRail", "remit/api.ErrBusy", "remit/api.ErrWindow", "remit/api.ErrPhase", "remit/api.ErrToken", "remit/api.ErrTime", "remit/api.ErrUnknown", "remit/api.ErrConfig", "remit/api.ErrCommand", "remit/api.ErrUse"], apart := false, laid := [("remit/api.ErrShort", laid_remit_api_ErrShort), ("remit/api.ErrVarint", laid_remit_api_ErrVarint), ("remit/api.ErrLimit", laid_remit_api_ErrLimit), ("remit/api.ErrOrder", laid_remit_api_ErrOrder), ("remit/api.ErrTail", laid_remit_api_ErrTail), ("remit/api.ErrRange", laid_remit_api_ErrRange), ("remit/api.ErrForm", laid_remit_api_ErrForm), ("remit/api.ErrDigits", laid_remit_api_ErrDigits), ("remit/api.ErrAmount", laid_remit_api_ErrAmount), ("remit/api.ErrOverflow", laid_remit_api_ErrOverflow), ("remit/api.ErrCurrency", laid_remit_api_ErrCurrency), ("remit/api.ErrDown", laid_remit_api_ErrDown), ("remit/api.ErrSmall", laid_remit_api_ErrSmall), ("remit/api.ErrBlank", laid_remit_api_ErrBlank), ("remit/api.ErrCorrupt", laid_remit_api_ErrCorrupt), ("remit/api.ErrWorn", laid_remit_api_ErrWorn), ("remit/api.ErrFull", laid_remit_api_ErrFull), ("remit/api.ErrLarge", laid_remit_api_ErrLarge), ("remit/api.ErrClosed", laid_remit_api_ErrClosed), ("remit/api.ErrAccount", laid_remit_api_ErrAccount), ("remit/api.ErrExists", laid_remit_api_ErrExists), ("remit/api.ErrFrozen", laid_remit_api_ErrFrozen), ("remit/api.ErrFunds", laid_remit_api_ErrFunds), ("remit/api.ErrLegs", laid_remit_api_ErrLegs), ("remit/api.ErrConflict", laid_remit_api_ErrConflict), ("remit/api.ErrId", laid_remit_api_ErrId), ("remit/api.ErrPayee", laid_remit_api_ErrPayee), ("remit/api.ErrRail", laid_remit_api_ErrRail), ("remit/api.ErrBusy", laid_remit_api_ErrBusy), ("remit/api.ErrWindow", laid_remit_api_ErrWindow), ("remit/api.ErrPhase", laid_remit_api_ErrPhase), ("remit/api.ErrToken", laid_remit_api_ErrToken), ("remit/api.ErrTime", laid_remit_api_ErrTime), ("remit/api.ErrUnknown", laid_remit_api_ErrUnknown), ("remit/api.ErrConfig", laid_remit_api_ErrConfig), ("remit/api.ErrCommand", laid_remit_api_ErrCommand), ("remit/api.ErrUse", laid_remit_api_ErrUse)], narrowed := true }
def BatchEncodesUptoSaid : Prop := batchEncodesUptoRow.holds Tryd.pinned (OpenSpec.upto batchEncodesSpec)

/-- 'remitlaw12.BatchDecodes', WHERE WHAT IT READS IS OF BULK AT MOST 1048576: true; the input reads as it did. -/
def batchDecodesUptoRow : OpenClaim := { program := "ytffjleceogablaadoor", sum := "15efb09d1ae220285f4b3d197065a543fc79bc9c5b437ebcf0f8e712911160ce", func := "remit/remitlaw12.BatchDecodes", spec := "batchDecodes", inPlace := ["internal/abi.NoEscape", "internal/bytealg.abigen_runtime_cmpstring"], unfollowed := true, recurses := true, named := ["remit/api.ErrOrder", "remit/api.ErrForm", "remit/api.ErrVarint", "remit/api.ErrShort", "remit/api.ErrLimit", "remit/api.ErrTail", "remit/api.ErrRange", "remit/api.ErrDigits", "remit/api.ErrAmount", "remit/api.ErrOverflow", "remit/api.ErrCurrency", "remit/api.ErrDown", "remit/api.ErrSmall", "remit/api.ErrBlank", "remit/api.ErrCorrupt", "remit/api.ErrWorn", "remit/api.ErrFull", "remit/api.ErrLarge", "remit/api.ErrClosed", "remit/api.ErrAccount", "remit/api.ErrExists", "remit/api.ErrFrozen", "remit/api.ErrFunds", "remit/api.ErrLegs", "remit/api.ErrConflict", "remit/api.ErrId", "remit/api.ErrPayee", "remit/api.ErrRail", "remit/api.ErrBusy", "remit/api.ErrWindow", "remit/api.ErrPhase", "remit/api.ErrToken", "remit/api.ErrTime", "remit/api.ErrUnknown", "remit/api.ErrConfig", "remit/api.ErrCommand", "remit/api.ErrUse"], apart := false, laid := [("remit/api.ErrShort", laid_remit_api_ErrShort), ("remit/api.ErrVarint", laid_remit_api_ErrVarint), ("remit/api.ErrLimit", laid_remit_api_ErrLimit), ("remit/api.ErrOrder", laid_remit_api_ErrOrder), ("remit/api.ErrTail", laid_remit_api_ErrTail), ("remit/api.ErrRange", laid_remit_api_ErrRange), ("remit/api.ErrForm", laid_remit_api_ErrForm), ("remit/api.ErrDigits", laid_remit_api_ErrDigits), ("remit/api.ErrAmount", laid_remit_api_ErrAmount), ("remit/api.ErrOverflow", laid_remit_api_ErrOverflow), ("remit/api.ErrCurrency", laid_remit_api_ErrCurrency), ("remit/api.ErrDown", laid_remit_api_ErrDown), ("remit/api.ErrSmall", laid_remit_api_ErrSmall), ("remit/api.ErrBlank", laid_remit_api_ErrBlank), ("remit/api.ErrCorrupt", laid_remit_api_ErrCorrupt), ("remit/api.ErrWorn", laid_remit_api_ErrWorn), ("remit/api.ErrFull", laid_remit_api_ErrFull), ("remit/api.ErrLarge", laid_remit_api_ErrLarge), ("remit/api.ErrClosed", laid_remit_api_ErrClosed), ("remit/api.ErrAccount", laid_remit_api_ErrAccount), ("remit/api.ErrExists", laid_remit_api_ErrExists), ("remit/api.ErrFrozen", laid_remit_api_ErrFrozen), ("remit/api.ErrFunds", laid_remit_api_ErrFunds), ("remit/api.ErrLegs", laid_remit_api_ErrLegs), ("remit/api.ErrConflict", laid_remit_api_ErrConflict), ("remit/api.ErrId", laid_remit_api_ErrId), ("remit/api.ErrPayee", laid_remit_api_ErrPayee), ("remit/api.ErrRail", laid_remit_api_ErrRail), ("remit/api.ErrBusy", laid_remit_api_ErrBusy), ("remit/api.ErrWindow", laid_remit_api_ErrWindow), ("remit/api.ErrPhase", laid_remit_api_ErrPhase), ("remit/api.ErrToken", laid_remit_api_ErrToken), ("remit/api.ErrTime", laid_remit_api_ErrTime), ("remit/api.ErrUnknown", laid_remit_api_ErrUnknown), ("remit/api.ErrConfig", laid_remit_api_ErrConfig), ("remit/api.ErrCommand", laid_remit_api_ErrCommand), ("remit/api.ErrUse", laid_remit_api_ErrUse)], narrowed := true }
def BatchDecodesUptoSaid : Prop := batchDecodesUptoRow.holds Tryd.pinned (OpenSpec.upto batchDecodesSpec)

/-- 'remitlaw12.BatchBack', WHERE WHAT IT READS IS OF BULK AT MOST 1048576: true; the input reads as it did. -/
def batchBackUptoRow : OpenClaim := { program := "ytffjleceogablaadoor", sum := "15efb09d1ae220285f4b3d197065a543fc79bc9c5b437ebcf0f8e712911160ce", func := "remit/remitlaw12.BatchBack", spec := "batchBack", inPlace := ["internal/abi.NoEscape", "internal/bytealg.abigen_runtime_cmpstring"], unfollowed := true, recurses := true, named := ["remit/api.ErrOrder", "remit/api.ErrForm", "remit/api.ErrVarint", "remit/api.ErrShort", "remit/api.ErrLimit", "remit/api.ErrTail", "remit/api.ErrRange", "remit/api.ErrDigits", "remit/api.ErrAmount", "remit/api.ErrOverflow", "remit/api.ErrCurrency", "remit/api.ErrDown", "remit/api.ErrSmall", "remit/api.ErrBlank", "remit/api.ErrCorrupt", "remit/api.ErrWorn", "remit/api.ErrFull", "remit/api.ErrLarge", "remit/api.ErrClosed", "remit/api.ErrAccount", "remit/api.ErrExists", "remit/api.ErrFrozen", "remit/api.ErrFunds", "remit/api.ErrLegs", "remit/api.ErrConflict", "remit/api.ErrId", "remit/api.ErrPayee", "remit/api.ErrRail", "remit/api.ErrBusy", "remit/api.ErrWindow", "remit/api.ErrPhase", "remit/api.ErrToken", "remit/api.ErrTime", "remit/api.ErrUnknown", "remit/api.ErrConfig", "remit/api.ErrCommand", "remit/api.ErrUse"], apart := false, laid := [("remit/api.ErrShort", laid_remit_api_ErrShort), ("remit/api.ErrVarint", laid_remit_api_ErrVarint), ("remit/api.ErrLimit", laid_remit_api_ErrLimit), ("remit/api.ErrOrder", laid_remit_api_ErrOrder), ("remit/api.ErrTail", laid_remit_api_ErrTail), ("remit/api.ErrRange", laid_remit_api_ErrRange), ("remit/api.ErrForm", laid_remit_api_ErrForm), ("remit/api.ErrDigits", laid_remit_api_ErrDigits), ("remit/api.ErrAmount", laid_remit_api_ErrAmount), ("remit/api.ErrOverflow", laid_remit_api_ErrOverflow), ("remit/api.ErrCurrency", laid_remit_api_ErrCurrency), ("remit/api.ErrDown", laid_remit_api_ErrDown), ("remit/api.ErrSmall", laid_remit_api_ErrSmall), ("remit/api.ErrBlank", laid_remit_api_ErrBlank), ("remit/api.ErrCorrupt", laid_remit_api_ErrCorrupt), ("remit/api.ErrWorn", laid_remit_api_ErrWorn), ("remit/api.ErrFull", laid_remit_api_ErrFull), ("remit/api.ErrLarge", laid_remit_api_ErrLarge), ("remit/api.ErrClosed", laid_remit_api_ErrClosed), ("remit/api.ErrAccount", laid_remit_api_ErrAccount), ("remit/api.ErrExists", laid_remit_api_ErrExists), ("remit/api.ErrFrozen", laid_remit_api_ErrFrozen), ("remit/api.ErrFunds", laid_remit_api_ErrFunds), ("remit/api.ErrLegs", laid_remit_api_ErrLegs), ("remit/api.ErrConflict", laid_remit_api_ErrConflict), ("remit/api.ErrId", laid_remit_api_ErrId), ("remit/api.ErrPayee", laid_remit_api_ErrPayee), ("remit/api.ErrRail", laid_remit_api_ErrRail), ("remit/api.ErrBusy", laid_remit_api_ErrBusy), ("remit/api.ErrWindow", laid_remit_api_ErrWindow), ("remit/api.ErrPhase", laid_remit_api_ErrPhase), ("remit/api.ErrToken", laid_remit_api_ErrToken), ("remit/api.ErrTime", laid_remit_api_ErrTime), ("remit/api.ErrUnknown", laid_remit_api_ErrUnknown), ("remit/api.ErrConfig", laid_remit_api_ErrConfig), ("remit/api.ErrCommand", laid_remit_api_ErrCommand), ("remit/api.ErrUse", laid_remit_api_ErrUse)], narrowed := true }
def BatchBackUptoSaid : Prop := batchBackUptoRow.holds Tryd.pinned (OpenSpec.upto batchBackSpec)

/-- 'remitlaw12.BatchApplies', WHERE WHAT IT READS IS OF BULK AT MOST 1048576: true; the input reads as it did. -/
def batchAppliesUptoRow : OpenClaim := { program := "ytffjleceogablaadoor", sum := "15efb09d1ae220285f4b3d197065a543fc79bc9c5b437ebcf0f8e712911160ce", func := "remit/remitlaw12.BatchApplies", spec := "batchApplies", inPlace := ["internal/abi.NoEscape", "internal/bytealg.abigen_runtime_cmpstring"], unfollowed := true, recurses := true, named := ["remit/api.ErrOrder", "remit/api.ErrForm"], apart := false, laid := [("remit/api.ErrOrder", laid_remit_api_ErrOrder), ("remit/api.ErrForm", laid_remit_api_ErrForm)], narrowed := true }
def BatchAppliesUptoSaid : Prop := batchAppliesUptoRow.holds Tryd.pinned (OpenSpec.upto batchAppliesSpec)

/-- 'remitlaw12.BatchBetween', WHERE WHAT IT READS IS OF BULK AT MOST 1048576: true; the input reads as it did. -/
def batchBetweenUptoRow : OpenClaim := { program := "ytffjleceogablaadoor", sum := "15efb09d1ae220285f4b3d197065a543fc79bc9c5b437ebcf0f8e712911160ce", func := "remit/remitlaw12.BatchBetween", spec := "batchBetween", inPlace := ["internal/abi.NoEscape", "internal/bytealg.abigen_runtime_cmpstring"], unfollowed := true, recurses := true, named := ["remit/api.ErrOrder", "remit/api.ErrForm"], apart := false, laid := [("remit/api.ErrOrder", laid_remit_api_ErrOrder), ("remit/api.ErrForm", laid_remit_api_ErrForm)], narrowed := true }
def BatchBetweenUptoSaid : Prop := batchBetweenUptoRow.holds Tryd.pinned (OpenSpec.upto batchBetweenSpec)

/-- 'remitlaw12.BatchJoins', WHERE WHAT IT READS IS OF BULK AT MOST 1048576: true; the input reads as it did. -/
def batchJoinsUptoRow : OpenClaim := { program := "ytffjleceogablaadoor", sum := "15efb09d1ae220285f4b3d197065a543fc79bc9c5b437ebcf0f8e712911160ce", func := "remit/remitlaw12.BatchJoins", spec := "batchJoins", inPlace := ["internal/abi.NoEscape", "internal/bytealg.abigen_runtime_cmpstring"], unfollowed := true, recurses := true, named := ["remit/api.ErrOrder", "remit/api.ErrForm"], apart := false, laid := [("remit/api.ErrOrder", laid_remit_api_ErrOrder), ("remit/api.ErrForm", laid_remit_api_ErrForm)], narrowed := true }
def BatchJoinsUptoSaid : Prop := batchJoinsUptoRow.holds Tryd.pinned (OpenSpec.upto batchJoinsSpec)

end Rows
end Go.Proofs.YtffjleceogablaaDoor
