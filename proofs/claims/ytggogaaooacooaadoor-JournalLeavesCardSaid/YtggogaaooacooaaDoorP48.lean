/-
  What layer 10's listed variables give: the errors, the table of package checks; the witness's start.
-/
import Derived.Test.YtggogaaooacooaaDoorP47
import Derived.Test.YtggogaaooacooaaDoorP26
import Derived.OpenShut
namespace Go.Proofs.YtggogaaooacooaaDoor
open Go.ChangeShapes Go.WideShapes Go.ChangeAt Go.RowKit
set_option maxRecDepth 100000

def all38 : List (String × DataW Unit) := (errTexts.map fun x => (x.1, errD x.2)) ++ [("remit/checks.steps", Rows.laid_remit_checks_steps)]
theorem errs_tab_of {W : World} (h : laidMet Tryd.prog all38 W) : (∃ ad, Errs ad W) ∧ Tab W :=
  ⟨errs_of_texts (laidMet_sub (List.sublist_append_left _ _) h), tab_of (laidMet_sub (List.sublist_append_right _ _) h)⟩
theorem readsJ_rows : all38 = Rows.journalReadsRow.laid := rfl
theorem errs_readsJ {W : World} (h : laidMetH Tryd.prog Rows.journalReadsRow.laid W) : (∃ ad, Errs ad W) ∧ Tab W := by
  rw [MakeChecks.laidMetH_plain _ _ _ (by kernel_rfl), ← readsJ_rows] at h
  exact errs_tab_of h
theorem costsJ_rows : all38 = Rows.journalCostsRow.laid := rfl
theorem errs_costsJ {W : World} (h : laidMetH Tryd.prog Rows.journalCostsRow.laid W) : (∃ ad, Errs ad W) ∧ Tab W := by
  rw [MakeChecks.laidMetH_plain _ _ _ (by kernel_rfl), ← costsJ_rows] at h
  exact errs_tab_of h
theorem leavesJ_rows : all38 = Rows.journalLeavesRow.laid := rfl
theorem errs_leavesJ {W : World} (h : laidMetH Tryd.prog Rows.journalLeavesRow.laid W) : (∃ ad, Errs ad W) ∧ Tab W := by
  rw [MakeChecks.laidMetH_plain _ _ _ (by kernel_rfl), ← leavesJ_rows] at h
  exact errs_tab_of h
theorem memoryJ_rows : all38 = Rows.journalMemoryRow.laid := rfl
theorem errs_memoryJ {W : World} (h : laidMetH Tryd.prog Rows.journalMemoryRow.laid W) : (∃ ad, Errs ad W) ∧ Tab W := by
  rw [MakeChecks.laidMetH_plain _ _ _ (by kernel_rfl), ← memoryJ_rows] at h
  exact errs_tab_of h
theorem playsJ_rows : all38 = Rows.journalPlaysUptoRow.laid := rfl
theorem errs_playsJ {W : World} (h : laidMetH Tryd.prog Rows.journalPlaysUptoRow.laid W) : (∃ ad, Errs ad W) ∧ Tab W := by
  rw [MakeChecks.laidMetH_plain _ _ _ (by kernel_rfl), ← playsJ_rows] at h
  exact errs_tab_of h
noncomputable def doorJ (os : Os) : World := World.laidAll Tryd.prog os all38
theorem doorJ_met (os : Os) (args : Array Value) : laidMetH Tryd.prog all38 ((doorJ os).forCall (fun _ _ => 0) ⟨#[], args, []⟩).memory := by
  rw [MakeChecks.laidMetH_plain _ _ _ (by kernel_rfl)]
  exact laidMet_laidAll _ (by kernel_rfl) (by kernel_rfl)
/-- A list's bulk is at least its length. -/
theorem bulk_pos {H : Type} : ∀ d : DataW H, 1 ≤ Rows.uptoBulk d := by
  intro d
  unfold Rows.uptoBulk
  split <;> omega
theorem bulk_len {H : Type} : ∀ l : List (DataW H), l.length ≤ Rows.uptoBulkAll l
  | [] => Nat.zero_le _
  | d :: r => by
    have h1 := bulk_len r
    have h2 := bulk_pos d
    simp only [List.length_cons, Rows.uptoBulkAll]
    omega
end Go.Proofs.YtggogaaooacooaaDoor
