/-
  Closed facts of the row of OLayouts, computed by the kernel: inpl, unf.
-/
import Derived.Test.YthjjfjhajadimaaGreatDoorCards
import Derived.Test.YthjjfjhajadimaaGreatDoorChecked
import Derived.JoinedCond
namespace Go.Proofs.YthjjfjhajadimaaGreatDoor
set_option maxRecDepth 100000
theorem layoutsS_inpl : (Rows.storeLayoutsRow.inPlace == Tryz.pinned.checked.prog.inPlace 5) = true := by kernel_rfl
theorem layoutsS_unf : (Rows.storeLayoutsRow.unfollowed == Tryz.pinned.checked.prog.unfollowed 5) = true := by kernel_rfl
end Go.Proofs.YthjjfjhajadimaaGreatDoor
