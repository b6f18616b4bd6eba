/-
  What the contracts of package checks lean on.
-/
import Derived.Test.YtnnkibhlildojaaDoorQt
import Derived.Test.YtnnkibhlildojaaDoorCSpec
import Derived.Laws.BitsAllLaws
import Derived.LoopTactic
import Derived.WalkLawsBesides
import Derived.Outline
namespace Go.Proofs.YtnnkibhlildojaaDoor
open Go.RowKit Go.WideShapes
set_option maxRecDepth 100000

theorem ret_i {k : IntKind} {a b : Int} (h : a = b) : Ending.returned (.int k a) = .returned (.int k b) := by rw [h]
end Go.Proofs.YtnnkibhlildojaaDoor
