/-
  Closed facts of the row of ORefused, computed by the kernel: funcn, lift, make, laid, mapsR.
-/
import Derived.Test.YthjjfjhajadimaaGreatDoorCards
import Derived.Test.YthjjfjhajadimaaGreatDoorChecked
import Derived.JoinedCond
namespace Go.Proofs.YthjjfjhajadimaaGreatDoor
set_option maxRecDepth 100000
theorem refusedS_funcn:Tryz.pinned.checked.prog.funcNamed Rows.storeRefusedUptoRow.func = some 7:=by kernel_rfl
theorem refusedS_lift:(Rows.storeRefusedUptoRow.lifted == Tryz.pinned.checked.prog.liftsFinal) = true:=by kernel_rfl
theorem refusedS_make:(Tryz.pinned.checked.prog.make == some Rows.storeRefusedUptoRow.make) = true:=by kernel_rfl
theorem refusedS_laid:laidOutB Tryz.pinned.checked.prog = true:=by kernel_rfl
theorem refusedS_mapsR:mapsRowed Tryz.pinned.checked.prog = true:=by kernel_rfl
end Go.Proofs.YthjjfjhajadimaaGreatDoor
