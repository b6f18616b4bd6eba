/-
  What layer 4's listed variables give: all errors, the library's table of powers; the witnesses' start.
-/
import Derived.Test.YtjjlpjfojgkpkaaDoorLaid
import Derived.Test.YtjjlpjfojgkpkaaDoorMFmt
namespace Go.Proofs.YtjjlpjfojgkpkaaDoor
open Go.ChangeShapes Go.WideShapes Go.ChangeAt Go.RowKit
set_option maxRecDepth 100000

theorem four_rows : ([("math/bits.deBruijn32tab", Rows.laid_math_bits_deBruijn32tab), ("math/bits.deBruijn64tab", Rows.laid_math_bits_deBruijn64tab), ("internal/strconv.uint64pow10", Rows.laid_internal_strconv_uint64pow10)] ++ (errTexts.map fun x => (x.1, errD x.2)) : List (String × DataW Unit)) = Rows.moneyMemoryRow.laid := rfl
theorem tab10_of {W : World} (h : laidMet Tryd.prog [("internal/strconv.uint64pow10", (Rows.laid_internal_strconv_uint64pow10 : DataW Unit))] W) : Tab10 W :=
  Lib.tabIs_of_head (P := Tryd.prog) (W := W) (name := "internal/strconv.uint64pow10") (k := .u64) (zs := Lib.pow10Tab) (rest := []) (g := 39) (t := 96) (e := 42) (n := 20) (by kernel_rfl) (by kernel_rfl) Tryd.underlying96 Tryd.underlying42 (by kernel_rfl) (by kernel_rfl) h
theorem errs_tab10 {W : World} (h : laidMetH Tryd.prog Rows.moneyMemoryRow.laid W) : (∃ ad, Errs ad W) ∧ Tab10 W := by
  rw [MakeChecks.laidMetH_plain _ _ _ (by kernel_rfl), ← four_rows] at h
  exact ⟨errs_of_texts (laidMet_sub (List.sublist_append_right _ _) h), tab10_of (laidMet_sub ((List.Sublist.cons _ (.cons _ (.cons_cons _ .slnil))).trans (List.sublist_append_left _ _)) h)⟩

noncomputable def door4 (os : Os) : World := World.laidAll Tryd.prog os Rows.moneyMemoryRow.laid
theorem door4_met (os : Os) (args : Array Value) : laidMetH Tryd.prog Rows.moneyMemoryRow.laid ((door4 os).forCall (fun _ _ => 0) ⟨#[], args, []⟩).memory := by
  rw [MakeChecks.laidMetH_plain _ _ _ (by kernel_rfl)]
  exact laidMet_laidAll _ (by kernel_rfl) (by kernel_rfl)
end Go.Proofs.YtjjlpjfojgkpkaaDoor
