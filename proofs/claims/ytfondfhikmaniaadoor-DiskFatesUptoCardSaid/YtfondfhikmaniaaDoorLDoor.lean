/-
  What layer 6's listed variables give: all errors; the witnesses' starts.
-/
import Derived.Test.YtfondfhikmaniaaDoorLaid
namespace Go.Proofs.YtfondfhikmaniaaDoor
open Go.ChangeShapes Go.WideShapes Go.ChangeAt Go.RowKit
set_option maxRecDepth 100000

theorem rows_Arms : (errTexts.map fun x => (x.1, errD x.2) : List (String × DataW Unit)) = Rows.diskArmsUptoRow.laid := rfl
theorem errs_Arms {W : World} (h : laidMetH Tryd.prog Rows.diskArmsUptoRow.laid W) : ∃ ad, Errs ad W := by
  rw [MakeChecks.laidMetH_plain _ _ _ (by kernel_rfl), ← rows_Arms] at h
  exact errs_of_texts h
noncomputable def doorArms (os : Os) : World := World.laidAll Tryd.prog os Rows.diskArmsUptoRow.laid
theorem doorArms_met (os : Os) (args : Array Value) : laidMetH Tryd.prog Rows.diskArmsUptoRow.laid ((doorArms os).forCall (fun _ _ => 0) ⟨#[], args, []⟩).memory := by
  rw [MakeChecks.laidMetH_plain _ _ _ (by kernel_rfl)]
  exact laidMet_laidAll _ (by kernel_rfl) (by kernel_rfl)

theorem rows_Twin : (errTexts.map fun x => (x.1, errD x.2) : List (String × DataW Unit)) = Rows.diskTwinUptoRow.laid := rfl
theorem errs_Twin {W : World} (h : laidMetH Tryd.prog Rows.diskTwinUptoRow.laid W) : ∃ ad, Errs ad W := by
  rw [MakeChecks.laidMetH_plain _ _ _ (by kernel_rfl), ← rows_Twin] at h
  exact errs_of_texts h
noncomputable def doorTwin (os : Os) : World := World.laidAll Tryd.prog os Rows.diskTwinUptoRow.laid
theorem doorTwin_met (os : Os) (args : Array Value) : laidMetH Tryd.prog Rows.diskTwinUptoRow.laid ((doorTwin os).forCall (fun _ _ => 0) ⟨#[], args, []⟩).memory := by
  rw [MakeChecks.laidMetH_plain _ _ _ (by kernel_rfl)]
  exact laidMet_laidAll _ (by kernel_rfl) (by kernel_rfl)

theorem rows_Flushes : (errTexts.map fun x => (x.1, errD x.2) : List (String × DataW Unit)) = Rows.diskFlushesUptoRow.laid := rfl
theorem errs_Flushes {W : World} (h : laidMetH Tryd.prog Rows.diskFlushesUptoRow.laid W) : ∃ ad, Errs ad W := by
  rw [MakeChecks.laidMetH_plain _ _ _ (by kernel_rfl), ← rows_Flushes] at h
  exact errs_of_texts h
noncomputable def doorFlushes (os : Os) : World := World.laidAll Tryd.prog os Rows.diskFlushesUptoRow.laid
theorem doorFlushes_met (os : Os) (args : Array Value) : laidMetH Tryd.prog Rows.diskFlushesUptoRow.laid ((doorFlushes os).forCall (fun _ _ => 0) ⟨#[], args, []⟩).memory := by
  rw [MakeChecks.laidMetH_plain _ _ _ (by kernel_rfl)]
  exact laidMet_laidAll _ (by kernel_rfl) (by kernel_rfl)

theorem rows_Fates : (errTexts.map fun x => (x.1, errD x.2) : List (String × DataW Unit)) = Rows.diskFatesUptoRow.laid := rfl
theorem errs_Fates {W : World} (h : laidMetH Tryd.prog Rows.diskFatesUptoRow.laid W) : ∃ ad, Errs ad W := by
  rw [MakeChecks.laidMetH_plain _ _ _ (by kernel_rfl), ← rows_Fates] at h
  exact errs_of_texts h
noncomputable def doorFates (os : Os) : World := World.laidAll Tryd.prog os Rows.diskFatesUptoRow.laid
theorem doorFates_met (os : Os) (args : Array Value) : laidMetH Tryd.prog Rows.diskFatesUptoRow.laid ((doorFates os).forCall (fun _ _ => 0) ⟨#[], args, []⟩).memory := by
  rw [MakeChecks.laidMetH_plain _ _ _ (by kernel_rfl)]
  exact laidMet_laidAll _ (by kernel_rfl) (by kernel_rfl)

theorem rows_Plays : (errTexts.map fun x => (x.1, errD x.2) : List (String × DataW Unit)) = Rows.diskPlaysUptoRow.laid := rfl
theorem errs_Plays {W : World} (h : laidMetH Tryd.prog Rows.diskPlaysUptoRow.laid W) : ∃ ad, Errs ad W := by
  rw [MakeChecks.laidMetH_plain _ _ _ (by kernel_rfl), ← rows_Plays] at h
  exact errs_of_texts h
noncomputable def doorPlays (os : Os) : World := World.laidAll Tryd.prog os Rows.diskPlaysUptoRow.laid
theorem doorPlays_met (os : Os) (args : Array Value) : laidMetH Tryd.prog Rows.diskPlaysUptoRow.laid ((doorPlays os).forCall (fun _ _ => 0) ⟨#[], args, []⟩).memory := by
  rw [MakeChecks.laidMetH_plain _ _ _ (by kernel_rfl)]
  exact laidMet_laidAll _ (by kernel_rfl) (by kernel_rfl)

theorem rows_From : (errTexts.map fun x => (x.1, errD x.2) : List (String × DataW Unit)) = Rows.diskFromUptoRow.laid := rfl
theorem errs_From {W : World} (h : laidMetH Tryd.prog Rows.diskFromUptoRow.laid W) : ∃ ad, Errs ad W := by
  rw [MakeChecks.laidMetH_plain _ _ _ (by kernel_rfl), ← rows_From] at h
  exact errs_of_texts h
noncomputable def doorFrom (os : Os) : World := World.laidAll Tryd.prog os Rows.diskFromUptoRow.laid
theorem doorFrom_met (os : Os) (args : Array Value) : laidMetH Tryd.prog Rows.diskFromUptoRow.laid ((doorFrom os).forCall (fun _ _ => 0) ⟨#[], args, []⟩).memory := by
  rw [MakeChecks.laidMetH_plain _ _ _ (by kernel_rfl)]
  exact laidMet_laidAll _ (by kernel_rfl) (by kernel_rfl)

end Go.Proofs.YtfondfhikmaniaaDoor
