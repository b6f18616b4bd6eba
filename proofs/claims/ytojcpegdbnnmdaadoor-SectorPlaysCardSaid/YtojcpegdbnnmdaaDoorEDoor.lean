/-
  What layer 7's listed variables give: the errors, the table of package checks; the witnesses' starts.
-/
import Derived.Test.YtojcpegdbnnmdaaDoorLaid
import Derived.Test.YtojcpegdbnnmdaaDoorESeal
namespace Go.Proofs.YtojcpegdbnnmdaaDoor
open Go.ChangeShapes Go.WideShapes Go.ChangeAt Go.RowKit
set_option maxRecDepth 100000

theorem tab_of {W : World} (h : laidMet Tryd.prog [("remit/checks.steps", (Rows.laid_remit_checks_steps : DataW Unit))] W) : Tab W := by
  have h1 := Lib.tabIs_of_head (P := Tryd.prog) (W := W) (name := "remit/checks.steps") (k := .u32) (zs := C.tab.map Int.ofNat) (rest := []) (g := 37) (t := 69) (e := 62) (n := 16) (by kernel_rfl) (by kernel_rfl) Tryd.underlying69 Tryd.underlying62 (by kernel_rfl) (by kernel_rfl) h
  intro k hk
  have h2 := h1.cell (g := 37) (by kernel_rfl) k (by simpa [C.tab] using hk)
  rw [h2]
  congr 2
  have : ∀ k < 16, (C.tab.map Int.ofNat).getD k 0 = ((C.tab.getD k 0 : Nat) : Int) := by decide
  exact this k hk

/-! ### All errors -/
def all38 : List (String × DataW Unit) := (errTexts.map fun x => (x.1, errD x.2)) ++ [("remit/checks.steps", Rows.laid_remit_checks_steps)]
theorem errs_tab_of {W : World} (h : laidMet Tryd.prog all38 W) : (∃ ad, Errs ad W) ∧ Tab W :=
  ⟨errs_of_texts (laidMet_sub (List.sublist_append_left _ _) h), tab_of (laidMet_sub (List.sublist_append_right _ _) h)⟩
theorem stamps_rows : all38 = Rows.sectorStampsRow.laid := rfl
theorem errs_stamps {W : World} (h : laidMetH Tryd.prog Rows.sectorStampsRow.laid W) : (∃ ad, Errs ad W) ∧ Tab W := by
  rw [MakeChecks.laidMetH_plain _ _ _ (by kernel_rfl), ← stamps_rows] at h
  exact errs_tab_of h
theorem one_rows : all38 = Rows.sectorOneFormRow.laid := rfl
theorem errs_one {W : World} (h : laidMetH Tryd.prog Rows.sectorOneFormRow.laid W) : (∃ ad, Errs ad W) ∧ Tab W := by
  rw [MakeChecks.laidMetH_plain _ _ _ (by kernel_rfl), ← one_rows] at h
  exact errs_tab_of h
theorem plays_rows : all38 = Rows.sectorPlaysRow.laid := rfl
theorem errs_plays {W : World} (h : laidMetH Tryd.prog Rows.sectorPlaysRow.laid W) : (∃ ad, Errs ad W) ∧ Tab W := by
  rw [MakeChecks.laidMetH_plain _ _ _ (by kernel_rfl), ← plays_rows] at h
  exact errs_tab_of h
noncomputable def doorA (os : Os) : World := World.laidAll Tryd.prog os all38
theorem doorA_met (os : Os) (args : Array Value) : laidMetH Tryd.prog all38 ((doorA os).forCall (fun _ _ => 0) ⟨#[], args, []⟩).memory := by
  rw [MakeChecks.laidMetH_plain _ _ _ (by kernel_rfl)]
  exact laidMet_laidAll _ (by kernel_rfl) (by kernel_rfl)

/-! ### Three errors -/
def rangeBytes : List UInt8 := [114, 101, 109, 105, 116, 58, 32, 114, 97, 110, 103, 101]
def limitBytes : List UInt8 := [114, 101, 109, 105, 116, 58, 32, 108, 105, 109, 105, 116]
def three : List (String × DataW Unit) := [("remit/api.ErrLimit", errD limitBytes), ("remit/api.ErrRange", errD rangeBytes), ("remit/api.ErrForm", errD formBytes), ("remit/checks.steps", Rows.laid_remit_checks_steps)]
theorem three_of {W : World} (h : laidMet Tryd.prog three W) : (∃ er el ef, E3 er el ef W) ∧ Tab W := by
  obtain ⟨el, hl⟩ := err_of_laid (g := 1) (by kernel_rfl) (by kernel_rfl) (laidMet_sub (.cons_cons _ (.cons _ (.cons _ (.cons _ .slnil)))) h)
  obtain ⟨er, hr⟩ := err_of_laid (g := 0) (by kernel_rfl) (by kernel_rfl) (laidMet_sub (.cons _ (.cons_cons _ (.cons _ (.cons _ .slnil)))) h)
  obtain ⟨ef, hf⟩ := err_of_laid (g := 2) (by kernel_rfl) (by kernel_rfl) (laidMet_sub (.cons _ (.cons _ (.cons_cons _ (.cons _ .slnil)))) h)
  exact ⟨⟨er, el, ef, hr, hl, hf⟩, tab_of (laidMet_sub (.cons _ (.cons _ (.cons _ (.cons_cons _ .slnil)))) h)⟩
theorem tear_rows : three = Rows.sectorTearRow.laid := rfl
theorem three_tear {W : World} (h : laidMetH Tryd.prog Rows.sectorTearRow.laid W) : (∃ er el ef, E3 er el ef W) ∧ Tab W := by
  rw [MakeChecks.laidMetH_plain _ _ _ (by kernel_rfl), ← tear_rows] at h
  exact three_of h
theorem tears_rows : three = Rows.sectorTearsRow.laid := rfl
theorem three_tears {W : World} (h : laidMetH Tryd.prog Rows.sectorTearsRow.laid W) : (∃ er el ef, E3 er el ef W) ∧ Tab W := by
  rw [MakeChecks.laidMetH_plain _ _ _ (by kernel_rfl), ← tears_rows] at h
  exact three_of h
noncomputable def doorB (os : Os) : World := World.laidAll Tryd.prog os three
theorem doorB_met (os : Os) (args : Array Value) : laidMetH Tryd.prog three ((doorB os).forCall (fun _ _ => 0) ⟨#[], args, []⟩).memory := by
  rw [MakeChecks.laidMetH_plain _ _ _ (by kernel_rfl)]
  exact laidMet_laidAll _ (by kernel_rfl) (by kernel_rfl)
end Go.Proofs.YtojcpegdbnnmdaaDoor
