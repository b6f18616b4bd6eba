/-
  A text's value, of its bytes.
-/
import Derived.Test.YtffjleceogablaaDoorOwn
namespace Go.Proofs.YtffjleceogablaaDoor

/-- A text's value. -/
def strV (s : List UInt8) : Value := .string ⟨s.toArray⟩
end Go.Proofs.YtffjleceogablaaDoor
