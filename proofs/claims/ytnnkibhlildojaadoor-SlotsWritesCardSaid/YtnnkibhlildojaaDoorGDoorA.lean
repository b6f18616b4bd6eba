/-
  What layer 8's listed variables give, where all errors are listed: the errors, the table of package checks; the witness's start.
-/
import Derived.Test.YtnnkibhlildojaaDoorLaid
import Derived.Test.YtnnkibhlildojaaDoorGTab
namespace Go.Proofs.YtnnkibhlildojaaDoor
open Go.ChangeShapes Go.WideShapes Go.ChangeAt Go.RowKit
set_option maxRecDepth 100000

def all38 : List (String × DataW Unit) := (errTexts.map fun x => (x.1, errD x.2)) ++ [("remit/checks.steps", Rows.laid_remit_checks_steps)]
theorem errs_tab_of {W : World} (h : laidMet Tryd.prog all38 W) : (∃ ad, Errs ad W) ∧ Tab W :=
  ⟨errs_of_texts (laidMet_sub (List.sublist_append_left _ _) h), tab_of (laidMet_sub (List.sublist_append_right _ _) h)⟩
theorem reads_rows : all38 = Rows.slotsReadsRow.laid := rfl
theorem errs_reads {W : World} (h : laidMetH Tryd.prog Rows.slotsReadsRow.laid W) : (∃ ad, Errs ad W) ∧ Tab W := by
  rw [MakeChecks.laidMetH_plain _ _ _ (by kernel_rfl), ← reads_rows] at h
  exact errs_tab_of h
theorem writes_rows : all38 = Rows.slotsWritesRow.laid := rfl
theorem errs_writes {W : World} (h : laidMetH Tryd.prog Rows.slotsWritesRow.laid W) : (∃ ad, Errs ad W) ∧ Tab W := by
  rw [MakeChecks.laidMetH_plain _ _ _ (by kernel_rfl), ← writes_rows] at h
  exact errs_tab_of h
noncomputable def doorA (os : Os) : World := World.laidAll Tryd.prog os all38
theorem doorA_met (os : Os) (args : Array Value) : laidMetH Tryd.prog all38 ((doorA os).forCall (fun _ _ => 0) ⟨#[], args, []⟩).memory := by
  rw [MakeChecks.laidMetH_plain _ _ _ (by kernel_rfl)]
  exact laidMet_laidAll _ (by kernel_rfl) (by kernel_rfl)
end Go.Proofs.YtnnkibhlildojaaDoor
