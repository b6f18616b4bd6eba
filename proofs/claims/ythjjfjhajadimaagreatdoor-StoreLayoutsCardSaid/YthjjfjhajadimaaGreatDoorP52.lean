/-
  Closed facts of the row of OLayouts, computed by the kernel: heard, enter, keys, wf, tie.
-/
import Derived.Test.YthjjfjhajadimaaGreatDoorCards
import Derived.Test.YthjjfjhajadimaaGreatDoorChecked
import Derived.JoinedCond
namespace Go.Proofs.YthjjfjhajadimaaGreatDoor
set_option maxRecDepth 100000
theorem layoutsS_heard : Tryz.pinned.checked.prog.stopsHeard = true := by kernel_rfl
theorem layoutsS_enter : Tryz.pinned.checked.prog.mayEnter = true := by kernel_rfl
theorem layoutsS_keys : (Rows.storeLayoutsRow.plainKeys == Tryz.pinned.checked.prog.plainKeys) = true := by kernel_rfl
theorem layoutsS_wf : Rows.storeLayoutsRow.wf (OpenSpec.ofChange (OpenSpec.ofChange Rows.storeLayoutsSpec).bare) = true := by kernel_rfl
theorem layoutsS_tie : namedTie Tryz.pinned.checked.prog Rows.storeLayoutsRow.named (OpenSpec.ofChange Rows.storeLayoutsSpec).bare.vars = true := by kernel_rfl
end Go.Proofs.YthjjfjhajadimaaGreatDoor
