/-
  Closed facts of the row of OFormats, computed by the kernel: inpl, unf.
-/
import Derived.Test.YthjjfjhajadimaaGreatDoorCards
import Derived.Test.YthjjfjhajadimaaGreatDoorChecked
import Derived.JoinedCond
namespace Go.Proofs.YthjjfjhajadimaaGreatDoor
set_option maxRecDepth 100000
theorem formatsS_inpl:(Rows.storeFormatsUptoRow.inPlace == Tryz.pinned.checked.prog.inPlace 8) = true:=by kernel_rfl
theorem formatsS_unf:(Rows.storeFormatsUptoRow.unfollowed == Tryz.pinned.checked.prog.unfollowed 8) = true:=by kernel_rfl
end Go.Proofs.YthjjfjhajadimaaGreatDoor
