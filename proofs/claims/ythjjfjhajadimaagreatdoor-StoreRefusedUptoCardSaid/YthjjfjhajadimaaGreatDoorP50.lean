/-
  Closed facts of the row of ORefused, computed by the kernel: heard, enter, keys, wf, tie.
-/
import Derived.Test.YthjjfjhajadimaaGreatDoorCards
import Derived.Test.YthjjfjhajadimaaGreatDoorChecked
import Derived.JoinedCond
namespace Go.Proofs.YthjjfjhajadimaaGreatDoor
set_option maxRecDepth 100000
theorem refusedS_heard:Tryz.pinned.checked.prog.stopsHeard = true:=by kernel_rfl
theorem refusedS_enter:Tryz.pinned.checked.prog.mayEnter = true:=by kernel_rfl
theorem refusedS_keys:(Rows.storeRefusedUptoRow.plainKeys == Tryz.pinned.checked.prog.plainKeys) = true:=by kernel_rfl
theorem refusedS_wf:Rows.storeRefusedUptoRow.wf (OpenSpec.ofChange (Rows.OpenSpec.upto Rows.storeRefusedSpec).bare) = true:=by kernel_rfl
theorem refusedS_tie:namedTie Tryz.pinned.checked.prog Rows.storeRefusedUptoRow.named (Rows.OpenSpec.upto Rows.storeRefusedSpec).bare.vars = true:=by kernel_rfl
end Go.Proofs.YthjjfjhajadimaaGreatDoor
