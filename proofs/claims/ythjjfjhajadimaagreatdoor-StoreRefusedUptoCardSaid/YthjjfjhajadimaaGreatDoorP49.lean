/-
  Closed facts of the row of ORefused, computed by the kernel: rec, named.
-/
import Derived.Test.YthjjfjhajadimaaGreatDoorCards
import Derived.Test.YthjjfjhajadimaaGreatDoorChecked
import Derived.JoinedCond
namespace Go.Proofs.YthjjfjhajadimaaGreatDoor
set_option maxRecDepth 100000
theorem refusedS_rec:(Rows.storeRefusedUptoRow.recurses == Tryz.pinned.checked.prog.recurses 7) = true:=by kernel_rfl
theorem refusedS_named:(Rows.storeRefusedUptoRow.named == Tryz.pinned.checked.prog.varsNamed 7) = true:=by kernel_rfl
end Go.Proofs.YthjjfjhajadimaaGreatDoor
