/-
  Closed facts of the row of OLayouts, computed by the kernel: funcn, lift, make, laid, mapsR.
-/
import Derived.Test.YthjjfjhajadimaaGreatDoorCards
import Derived.Test.YthjjfjhajadimaaGreatDoorChecked
import Derived.JoinedCond
namespace Go.Proofs.YthjjfjhajadimaaGreatDoor
set_option maxRecDepth 100000
theorem layoutsS_funcn : Tryz.pinned.checked.prog.funcNamed Rows.storeLayoutsRow.func = some 5 := by kernel_rfl
theorem layoutsS_lift : (Rows.storeLayoutsRow.lifted == Tryz.pinned.checked.prog.liftsFinal) = true := by kernel_rfl
theorem layoutsS_make : (Tryz.pinned.checked.prog.make == some Rows.storeLayoutsRow.make) = true := by kernel_rfl
theorem layoutsS_laid : laidOutB Tryz.pinned.checked.prog = true := by kernel_rfl
theorem layoutsS_mapsR : mapsRowed Tryz.pinned.checked.prog = true := by kernel_rfl
end Go.Proofs.YthjjfjhajadimaaGreatDoor
