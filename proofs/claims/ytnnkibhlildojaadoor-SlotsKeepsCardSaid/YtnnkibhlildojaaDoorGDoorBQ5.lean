/-
  What layer 8's listed variables give, where five errors alone are listed; the witness's start.
-/
import Derived.Test.YtnnkibhlildojaaDoorLaidB
import Derived.Test.YtnnkibhlildojaaDoorGTabQ5
namespace Go.Proofs.YtnnkibhlildojaaDoor
open Go.ChangeShapes Go.WideShapes Go.ChangeAt Go.RowKit
set_option maxRecDepth 100000

def limitB : List UInt8 := [114, 101, 109, 105, 116, 58, 32, 108, 105, 109, 105, 116]
def rangeB : List UInt8 := [114, 101, 109, 105, 116, 58, 32, 114, 97, 110, 103, 101]
def downB : List UInt8 := [114, 101, 109, 105, 116, 58, 32, 100, 111, 119, 110]
def blankB : List UInt8 := [114, 101, 109, 105, 116, 58, 32, 98, 108, 97, 110, 107]
def five6 : List (String × DataW Unit) := [("remit/api.ErrLimit", errD limitB), ("remit/api.ErrRange", errD rangeB), ("remit/api.ErrForm", errD formBytes), ("remit/api.ErrDown", errD downB), ("remit/api.ErrBlank", errD blankB), ("remit/checks.steps", Rows.laid_remit_checks_steps)]
theorem five_of {W : World} (h : laidMet Tryd.prog five6 W) : (∃ ad, Errs ad W) ∧ Tab W := by
  obtain ⟨el, hl⟩ := err_of_laid (g := 2) (by kernel_rfl) (by kernel_rfl) (laidMet_sub (.cons_cons _ (.cons _ (.cons _ (.cons _ (.cons _ (.cons _ .slnil)))))) h)
  obtain ⟨er, hr⟩ := err_of_laid (g := 4) (by kernel_rfl) (by kernel_rfl) (laidMet_sub (.cons _ (.cons_cons _ (.cons _ (.cons _ (.cons _ (.cons _ .slnil)))))) h)
  obtain ⟨ef, hf⟩ := err_of_laid (g := 3) (by kernel_rfl) (by kernel_rfl) (laidMet_sub (.cons _ (.cons _ (.cons_cons _ (.cons _ (.cons _ (.cons _ .slnil)))))) h)
  obtain ⟨ed, hd⟩ := err_of_laid (g := 0) (by kernel_rfl) (by kernel_rfl) (laidMet_sub (.cons _ (.cons _ (.cons _ (.cons_cons _ (.cons _ (.cons _ .slnil)))))) h)
  obtain ⟨eb, hb⟩ := err_of_laid (g := 1) (by kernel_rfl) (by kernel_rfl) (laidMet_sub (.cons _ (.cons _ (.cons _ (.cons _ (.cons_cons _ (.cons _ .slnil)))))) h)
  refine ⟨⟨fun n => if n = 3 then el else if n = 6 then er else if n = 7 then ef else if n = 12 then ed else eb, ⟨fun i g hg => ?_⟩⟩, tab_of (laidMet_sub (.cons _ (.cons _ (.cons _ (.cons _ (.cons _ (.cons_cons _ .slnil)))))) h)⟩
  match i, hg with
  | 0, hg => simp [gErrs] at hg
  | 1, hg => simp [gErrs] at hg
  | 2, hg =>
    have e : g = 2 := by simpa [gErrs] using hg.symm
    subst e; exact hl
  | 3, hg => simp [gErrs] at hg
  | 4, hg => simp [gErrs] at hg
  | 5, hg =>
    have e : g = 4 := by simpa [gErrs] using hg.symm
    subst e; exact hr
  | 6, hg =>
    have e : g = 3 := by simpa [gErrs] using hg.symm
    subst e; exact hf
  | 7, hg => simp [gErrs] at hg
  | 8, hg => simp [gErrs] at hg
  | 9, hg => simp [gErrs] at hg
  | 10, hg => simp [gErrs] at hg
  | 11, hg =>
    have e : g = 0 := by simpa [gErrs] using hg.symm
    subst e; exact hd
  | 12, hg => simp [gErrs] at hg
  | 13, hg =>
    have e : g = 1 := by simpa [gErrs] using hg.symm
    subst e; exact hb
  | n + 14, hg => simp [gErrs] at hg
theorem keeps_rows : five6 = Rows.slotsKeepsRow.laid := rfl
theorem errs_keeps {W : World} (h : laidMetH Tryd.prog Rows.slotsKeepsRow.laid W) : (∃ ad, Errs ad W) ∧ Tab W := by
  rw [MakeChecks.laidMetH_plain _ _ _ (by kernel_rfl), ← keeps_rows] at h
  exact five_of h
theorem apart_rows : five6 = Rows.slotsApartRow.laid := rfl
theorem errs_apart {W : World} (h : laidMetH Tryd.prog Rows.slotsApartRow.laid W) : (∃ ad, Errs ad W) ∧ Tab W := by
  rw [MakeChecks.laidMetH_plain _ _ _ (by kernel_rfl), ← apart_rows] at h
  exact five_of h
noncomputable def doorB (os : Os) : World := World.laidAll Tryd.prog os five6
theorem doorB_met (os : Os) (args : Array Value) : laidMetH Tryd.prog five6 ((doorB os).forCall (fun _ _ => 0) ⟨#[], args, []⟩).memory := by
  rw [MakeChecks.laidMetH_plain _ _ _ (by kernel_rfl)]
  exact laidMet_laidAll _ (by kernel_rfl) (by kernel_rfl)
end Go.Proofs.YtnnkibhlildojaaDoor
