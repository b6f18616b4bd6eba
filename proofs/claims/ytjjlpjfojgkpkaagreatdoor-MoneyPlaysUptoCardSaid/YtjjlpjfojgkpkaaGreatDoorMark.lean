/-
  The contract of remitmem.Mark.
-/
import Derived.Test.YtjjlpjfojgkpkaaGreatDoorOwn
import Derived.OwnWalk
namespace Go.Proofs.YtjjlpjfojgkpkaaGreatDoor
open Go.RowKit
set_option maxRecDepth 100000

set_option maxHeartbeats 800000 in
theorem mark_any (i j : Int) : ∃ m : Int, ∀ w, Calls Tryz.prog 43 #[.int .i64 i, .int .i64 j] w fun e w' => e = .returned (.int .i64 m) ∧ w = w' := by
  apply Exists.intro
  intro w
  go_enter Tryz.func43, Tryz.ntmps43
  go_wp2
  go_ret
  exact ⟨rfl, rfl⟩
/-- The mark of place j of list i. -/
noncomputable def markI (i j : Int) : Int := Classical.choose (mark_any i j)
theorem mark_spec (i j : Int) : ∀ w, Calls Tryz.prog 43 #[.int .i64 i, .int .i64 j] w fun e w' => e = .returned (.int .i64 (markI i j)) ∧ w = w' := Classical.choose_spec (mark_any i j)
end Go.Proofs.YtjjlpjfojgkpkaaGreatDoor
