/-
  Closed facts of the row of ORefused, computed by the kernel: inpl, unf.
-/
import Derived.Test.YthjjfjhajadimaaGreatDoorCards
import Derived.Test.YthjjfjhajadimaaGreatDoorChecked
import Derived.JoinedCond
namespace Go.Proofs.YthjjfjhajadimaaGreatDoor
set_option maxRecDepth 100000
theorem refusedS_inpl:(Rows.storeRefusedUptoRow.inPlace == Tryz.pinned.checked.prog.inPlace 7) = true:=by kernel_rfl
theorem refusedS_unf:(Rows.storeRefusedUptoRow.unfollowed == Tryz.pinned.checked.prog.unfollowed 7) = true:=by kernel_rfl
end Go.Proofs.YthjjfjhajadimaaGreatDoor
