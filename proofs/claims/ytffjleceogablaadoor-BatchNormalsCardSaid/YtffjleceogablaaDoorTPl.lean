/-
  A loop over a list's places: its measure, its step.
-/
import Derived.Test.YtffjleceogablaaDoorQtB
import Derived.LoopTactic
namespace Go.Proofs.YtffjleceogablaaDoor
open Go.RowKit
theorem pl_meas {k n : Nat} (h : k < n) : n - (intOf (.int .i64 ((k : Int) + 1))).toNat < n - (intOf (.int .i64 (k : Int))).toNat := by simp [intOf]; omega
theorem pl_w1 {k : Nat} (h : k ≤ 17592186044416) : wrap64 ((k : Int) + 1) = (k : Int) + 1 := by unfold wrap64; omega
end Go.Proofs.YtffjleceogablaaDoor
