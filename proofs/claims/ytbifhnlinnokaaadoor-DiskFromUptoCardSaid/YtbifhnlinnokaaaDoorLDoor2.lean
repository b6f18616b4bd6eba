/-
  What the listed variables of DiskPlays and DiskFrom give: all errors; the witnesses' starts.
-/
import Derived.Test.YtbifhnlinnokaaaDoorLaid
namespace Go.Proofs.YtbifhnlinnokaaaDoor
open Go.ChangeShapes Go.WideShapes Go.ChangeAt Go.RowKit
set_option maxRecDepth 100000

theorem rows_Plays : (errTexts.map fun x => (x.1, errD x.2) : List (String × DataW Unit)) = Rows.diskPlaysUptoRow.laid := rfl
theorem errs_Plays {W : World} (h : laidMetH Tryd.prog Rows.diskPlaysUptoRow.laid W) : ∃ ad, Errs ad W := by
  rw [MakeChecks.laidMetH_plain _ _ _ (by kernel_rfl), ← rows_Plays] at h
  exact errs_of_texts h
noncomputable def doorPlays (os : Os) : World := World.laidAll Tryd.prog os Rows.diskPlaysUptoRow.laid
theorem doorPlays_met (os : Os) (args : Array Value) : laidMetH Tryd.prog Rows.diskPlaysUptoRow.laid ((doorPlays os).forCall (fun _ _ => 0) ⟨#[], args, []⟩).memory := by
  rw [MakeChecks.laidMetH_plain _ _ _ (by kernel_rfl)]
  exact laidMet_laidAll _ (by kernel_rfl) (by kernel_rfl)

theorem rows_From : (errTexts.map fun x => (x.1, errD x.2) : List (String × DataW Unit)) = Rows.diskFromUptoRow.laid := rfl
theorem errs_From {W : World} (h : laidMetH Tryd.prog Rows.diskFromUptoRow.laid W) : ∃ ad, Errs ad W := by
  rw [MakeChecks.laidMetH_plain _ _ _ (by kernel_rfl), ← rows_From] at h
  exact errs_of_texts h
noncomputable def doorFrom (os : Os) : World := World.laidAll Tryd.prog os Rows.diskFromUptoRow.laid
theorem doorFrom_met (os : Os) (args : Array Value) : laidMetH Tryd.prog Rows.diskFromUptoRow.laid ((doorFrom os).forCall (fun _ _ => 0) ⟨#[], args, []⟩).memory := by
  rw [MakeChecks.laidMetH_plain _ _ _ (by kernel_rfl)]
  exact laidMet_laidAll _ (by kernel_rfl) (by kernel_rfl)

end Go.Proofs.YtbifhnlinnokaaaDoor
