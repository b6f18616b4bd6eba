/-
  Closed facts of the row of OFormats, computed by the kernel: funcn, lift, make, laid, mapsR.
-/
import Derived.Test.YthjjfjhajadimaaGreatDoorCards
import Derived.Test.YthjjfjhajadimaaGreatDoorChecked
import Derived.JoinedCond
namespace Go.Proofs.YthjjfjhajadimaaGreatDoor
set_option maxRecDepth 100000
theorem formatsS_funcn:Tryz.pinned.checked.prog.funcNamed Rows.storeFormatsUptoRow.func = some 8:=by kernel_rfl
theorem formatsS_lift:(Rows.storeFormatsUptoRow.lifted == Tryz.pinned.checked.prog.liftsFinal) = true:=by kernel_rfl
theorem formatsS_make:(Tryz.pinned.checked.prog.make == some Rows.storeFormatsUptoRow.make) = true:=by kernel_rfl
theorem formatsS_laid:laidOutB Tryz.pinned.checked.prog = true:=by kernel_rfl
theorem formatsS_mapsR:mapsRowed Tryz.pinned.checked.prog = true:=by kernel_rfl
end Go.Proofs.YthjjfjhajadimaaGreatDoor
