/-
  Errors' values can be compared.
-/
import Derived.Test.YtnnkibhlildojaaDoorOwn
import Derived.LaidEql
namespace Go.Proofs.YtnnkibhlildojaaDoor
open Go.RowKit
set_option maxRecDepth 100000

theorem compErr : (Tryd.prog.info? 104).map (·.comparable) = some true := by kernel_rfl
theorem sizeErr : (Tryd.prog.info? 118).map (·.size) = some 1 := by kernel_rfl
end Go.Proofs.YtnnkibhlildojaaDoor
