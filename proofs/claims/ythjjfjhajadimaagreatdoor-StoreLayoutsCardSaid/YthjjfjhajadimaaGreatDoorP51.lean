/-
  Closed facts of the row of OLayouts, computed by the kernel: rec, named.
-/
import Derived.Test.YthjjfjhajadimaaGreatDoorCards
import Derived.Test.YthjjfjhajadimaaGreatDoorChecked
import Derived.JoinedCond
namespace Go.Proofs.YthjjfjhajadimaaGreatDoor
set_option maxRecDepth 100000
theorem layoutsS_rec : (Rows.storeLayoutsRow.recurses == Tryz.pinned.checked.prog.recurses 5) = true := by kernel_rfl
theorem layoutsS_named : (Rows.storeLayoutsRow.named == Tryz.pinned.checked.prog.varsNamed 5) = true := by kernel_rfl
end Go.Proofs.YthjjfjhajadimaaGreatDoor
