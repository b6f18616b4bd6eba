/-
  A text's value, of its bytes.
-/
import Derived.Test.YtbifhnlinnokaaaDoorOwn
namespace Go.Proofs.YtbifhnlinnokaaaDoor

/-- A text's value. -/
def strV (s : List UInt8) : Value := .string ⟨s.toArray⟩
end Go.Proofs.YtbifhnlinnokaaaDoor
