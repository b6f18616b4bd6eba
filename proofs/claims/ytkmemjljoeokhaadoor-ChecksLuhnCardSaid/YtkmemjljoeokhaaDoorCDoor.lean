/-
  What layer 3's listed variables give: ErrForm's variable, all errors, the table of package checks; the witnesses' starts.
-/
import Derived.Test.YtkmemjljoeokhaaDoorLaid
import Derived.Test.YtkmemjljoeokhaaDoorCRest
namespace Go.Proofs.YtkmemjljoeokhaaDoor
open Go.ChangeShapes Go.WideShapes Go.ChangeAt Go.RowKit
set_option maxRecDepth 100000

theorem two_rows : ([("remit/api.ErrForm", errD formBytes), ("remit/checks.steps", Rows.laid_remit_checks_steps)] : List (String × DataW Unit)) = Rows.checksSumsRow.laid := rfl

theorem tab_of {W : World} (h : laidMet Tryd.prog [("remit/checks.steps", (Rows.laid_remit_checks_steps : DataW Unit))] W) : Tab W := by
  have h1 := Lib.tabIs_of_head (P := Tryd.prog) (W := W) (name := "remit/checks.steps") (k := .u32) (zs := C.tab.map Int.ofNat) (rest := []) (g := 0) (t := 45) (e := 22) (n := 16) (by kernel_rfl) (by kernel_rfl) Tryd.underlying45 Tryd.underlying22 (by kernel_rfl) (by kernel_rfl) h
  intro k hk
  have h2 := h1.cell (g := 0) (by kernel_rfl) k (by simpa [C.tab] using hk)
  rw [h2]
  congr 2
  have : ∀ k < 16, (C.tab.map Int.ofNat).getD k 0 = ((C.tab.getD k 0 : Nat) : Int) := by decide
  exact this k hk

theorem form_tab {W : World} (h : laidMetH Tryd.prog Rows.checksSumsRow.laid W) : (∃ ef, FormAt ef W) ∧ Tab W := by
  rw [MakeChecks.laidMetH_plain _ _ _ (by kernel_rfl), ← two_rows] at h
  exact ⟨err_of_laid (by kernel_rfl) (by kernel_rfl) (laidMet_sub (.cons_cons _ (.cons _ .slnil)) h), tab_of (laidMet_sub (.cons _ (.cons_cons _ .slnil)) h)⟩

noncomputable def door2 (os : Os) : World := World.laidAll Tryd.prog os Rows.checksSumsRow.laid
theorem door2_met (os : Os) (args : Array Value) : laidMetH Tryd.prog Rows.checksSumsRow.laid ((door2 os).forCall (fun _ _ => 0) ⟨#[], args, []⟩).memory := by
  rw [MakeChecks.laidMetH_plain _ _ _ (by kernel_rfl)]
  exact laidMet_laidAll _ (by kernel_rfl) (by kernel_rfl)

/-! ### All errors -/
theorem all_rows : ((errTexts.map fun x => (x.1, errD x.2)) ++ [("remit/checks.steps", Rows.laid_remit_checks_steps)] : List (String × DataW Unit)) = Rows.checksRestsRow.laid := rfl

theorem errs_tab {W : World} (h : laidMetH Tryd.prog Rows.checksRestsRow.laid W) : (∃ ad, Errs ad W) ∧ Tab W := by
  rw [MakeChecks.laidMetH_plain _ _ _ (by kernel_rfl), ← all_rows] at h
  exact ⟨errs_of_texts (laidMet_sub (List.sublist_append_left _ _) h), tab_of (laidMet_sub (List.sublist_append_right _ _) h)⟩
theorem Errs.form {ad : Nat → Addr} {w : World} (h : Errs ad w) : FormAt (ad 7) w := h.cells 6 _ rfl

noncomputable def door4 (os : Os) : World := World.laidAll Tryd.prog os Rows.checksRestsRow.laid
theorem door4_met (os : Os) (args : Array Value) : laidMetH Tryd.prog Rows.checksRestsRow.laid ((door4 os).forCall (fun _ _ => 0) ⟨#[], args, []⟩).memory := by
  rw [MakeChecks.laidMetH_plain _ _ _ (by kernel_rfl)]
  exact laidMet_laidAll _ (by kernel_rfl) (by kernel_rfl)
end Go.Proofs.YtkmemjljoeokhaaDoor
