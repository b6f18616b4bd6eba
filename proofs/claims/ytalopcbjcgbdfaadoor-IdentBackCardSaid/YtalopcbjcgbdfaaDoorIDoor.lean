/-
  What layer 5's listed variables give: all errors, or the few that a law names; the library's table of powers; the witnesses' starts.
-/
import Derived.Test.YtalopcbjcgbdfaaDoorLaid
import Derived.Test.YtalopcbjcgbdfaaDoorIMake
namespace Go.Proofs.YtalopcbjcgbdfaaDoor
open Go.ChangeShapes Go.WideShapes Go.ChangeAt Go.RowKit
set_option maxRecDepth 100000

/-! ### All errors (IdentReads, IdentMakes) -/
theorem reads_rows : (errTexts.map fun x => (x.1, errD x.2) : List (String × DataW Unit)) = Rows.identReadsRow.laid := rfl
theorem errs37 {W : World} (h : laidMetH Tryd.prog Rows.identReadsRow.laid W) : ∃ ad, Errs ad W := by
  rw [MakeChecks.laidMetH_plain _ _ _ (by kernel_rfl), ← reads_rows] at h
  exact errs_of_texts h
noncomputable def doorR (os : Os) : World := World.laidAll Tryd.prog os Rows.identReadsRow.laid
theorem doorR_met (os : Os) (args : Array Value) : laidMetH Tryd.prog Rows.identReadsRow.laid ((doorR os).forCall (fun _ _ => 0) ⟨#[], args, []⟩).memory := by
  rw [MakeChecks.laidMetH_plain _ _ _ (by kernel_rfl)]
  exact laidMet_laidAll _ (by kernel_rfl) (by kernel_rfl)

/-! ### Three errors (IdentBack) -/
def digitsBytes : List UInt8 := [114, 101, 109, 105, 116, 58, 32, 99, 104, 101, 99, 107, 32, 100, 105, 103, 105, 116, 115]
def idBytes : List UInt8 := [114, 101, 109, 105, 116, 58, 32, 105, 100]
def rangeBytes : List UInt8 := [114, 101, 109, 105, 116, 58, 32, 114, 97, 110, 103, 101]
theorem back_rows : ([("remit/api.ErrForm", errD formBytes), ("remit/api.ErrDigits", errD digitsBytes), ("remit/api.ErrId", errD idBytes)] : List (String × DataW Unit)) = Rows.identBackRow.laid := rfl
theorem errs3 {W : World} (h : laidMetH Tryd.prog Rows.identBackRow.laid W) : ∃ ef ed ei, FormAt ef W ∧ DigAt ed W ∧ IdAt ei W := by
  rw [MakeChecks.laidMetH_plain _ _ _ (by kernel_rfl), ← back_rows] at h
  obtain ⟨ef, hf⟩ := err_of_laid (g := 1) (by kernel_rfl) (by kernel_rfl) (laidMet_sub (.cons_cons _ (.cons _ (.cons _ .slnil))) h)
  obtain ⟨ed, hd⟩ := err_of_laid (g := 3) (by kernel_rfl) (by kernel_rfl) (laidMet_sub (.cons _ (.cons_cons _ (.cons _ .slnil))) h)
  obtain ⟨ei, hi⟩ := err_of_laid (g := 2) (by kernel_rfl) (by kernel_rfl) (laidMet_sub (.cons _ (.cons _ (.cons_cons _ .slnil))) h)
  exact ⟨ef, ed, ei, hf, hd, hi⟩
noncomputable def doorB (os : Os) : World := World.laidAll Tryd.prog os Rows.identBackRow.laid
theorem doorB_met (os : Os) (args : Array Value) : laidMetH Tryd.prog Rows.identBackRow.laid ((doorB os).forCall (fun _ _ => 0) ⟨#[], args, []⟩).memory := by
  rw [MakeChecks.laidMetH_plain _ _ _ (by kernel_rfl)]
  exact laidMet_laidAll _ (by kernel_rfl) (by kernel_rfl)
end Go.Proofs.YtalopcbjcgbdfaaDoor
