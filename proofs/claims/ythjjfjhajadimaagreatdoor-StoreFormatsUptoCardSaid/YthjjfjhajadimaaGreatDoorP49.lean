/-
  Closed facts of the row of OFormats, computed by the kernel: rec, named.
-/
import Derived.Test.YthjjfjhajadimaaGreatDoorCards
import Derived.Test.YthjjfjhajadimaaGreatDoorChecked
import Derived.JoinedCond
namespace Go.Proofs.YthjjfjhajadimaaGreatDoor
set_option maxRecDepth 100000
theorem formatsS_rec:(Rows.storeFormatsUptoRow.recurses == Tryz.pinned.checked.prog.recurses 8) = true:=by kernel_rfl
theorem formatsS_named:(Rows.storeFormatsUptoRow.named == Tryz.pinned.checked.prog.varsNamed 8) = true:=by kernel_rfl
end Go.Proofs.YthjjfjhajadimaaGreatDoor
