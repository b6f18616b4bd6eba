/-
  Closed facts of the row of OFormats, computed by the kernel: heard, enter, keys, wf, tie.
-/
import Derived.Test.YthjjfjhajadimaaGreatDoorCards
import Derived.Test.YthjjfjhajadimaaGreatDoorChecked
import Derived.JoinedCond
namespace Go.Proofs.YthjjfjhajadimaaGreatDoor
set_option maxRecDepth 100000
theorem formatsS_heard:Tryz.pinned.checked.prog.stopsHeard = true:=by kernel_rfl
theorem formatsS_enter:Tryz.pinned.checked.prog.mayEnter = true:=by kernel_rfl
theorem formatsS_keys:(Rows.storeFormatsUptoRow.plainKeys == Tryz.pinned.checked.prog.plainKeys) = true:=by kernel_rfl
theorem formatsS_wf:Rows.storeFormatsUptoRow.wf (OpenSpec.ofChange (Rows.OpenSpec.upto Rows.storeFormatsSpec).bare) = true:=by kernel_rfl
theorem formatsS_tie:namedTie Tryz.pinned.checked.prog Rows.storeFormatsUptoRow.named (Rows.OpenSpec.upto Rows.storeFormatsSpec).bare.vars = true:=by kernel_rfl
end Go.Proofs.YthjjfjhajadimaaGreatDoor
