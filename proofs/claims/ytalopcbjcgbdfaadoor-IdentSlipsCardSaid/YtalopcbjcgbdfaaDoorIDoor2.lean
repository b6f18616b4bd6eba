/-
  What layer 5's listed variables give where the library's tables are among them: the errors and the table of powers; the witnesses' starts.
-/
import Derived.Test.YtalopcbjcgbdfaaDoorIDoor
import Derived.Test.YtalopcbjcgbdfaaDoorIToken
namespace Go.Proofs.YtalopcbjcgbdfaaDoor
open Go.ChangeShapes Go.WideShapes Go.ChangeAt Go.RowKit
set_option maxRecDepth 100000

theorem tab10_of {W : World} (h : laidMet Tryd.prog [("internal/strconv.uint64pow10", (Rows.laid_internal_strconv_uint64pow10 : DataW Unit))] W) : Tab10 W :=
  Lib.tabIs_of_head (P := Tryd.prog) (W := W) (name := "internal/strconv.uint64pow10") (k := .u64) (zs := Lib.pow10Tab) (rest := []) (g := 40) (t := 103) (e := 78) (n := 20) (by kernel_rfl) (by kernel_rfl) Tryd.underlying103 Tryd.underlying78 (by kernel_rfl) (by kernel_rfl) h
def tabs3 : List (String × DataW Unit) := [("math/bits.deBruijn32tab", Rows.laid_math_bits_deBruijn32tab), ("math/bits.deBruijn64tab", Rows.laid_math_bits_deBruijn64tab), ("internal/strconv.uint64pow10", Rows.laid_internal_strconv_uint64pow10)]
def ends2 : List (String × DataW Unit) := [("strconv.ErrRange", Rows.laid_strconv_ErrRange), ("strconv.ErrSyntax", Rows.laid_strconv_ErrSyntax)]
theorem tokens_rows : (tabs3 ++ ((errTexts.map fun x => (x.1, errD x.2)) ++ ends2) : List (String × DataW Unit)) = Rows.identTokensRow.laid := rfl
theorem tab_sub (r : List (String × DataW Unit)) : [("internal/strconv.uint64pow10", (Rows.laid_internal_strconv_uint64pow10 : DataW Unit))].Sublist (tabs3 ++ r) :=
  (List.Sublist.cons _ (.cons _ (.cons_cons _ .slnil))).trans (List.sublist_append_left tabs3 r)
theorem errs_tabT {W : World} (h : laidMetH Tryd.prog Rows.identTokensRow.laid W) : (∃ ad, Errs ad W) ∧ Tab10 W := by
  rw [MakeChecks.laidMetH_plain _ _ _ (by kernel_rfl), ← tokens_rows] at h
  exact ⟨errs_of_texts (laidMet_sub ((List.sublist_append_left _ _).trans (List.sublist_append_right _ _)) h), tab10_of (laidMet_sub (tab_sub _) h)⟩
noncomputable def doorT (os : Os) : World := World.laidAll Tryd.prog os Rows.identTokensRow.laid
theorem doorT_met (os : Os) (args : Array Value) : laidMetH Tryd.prog Rows.identTokensRow.laid ((doorT os).forCall (fun _ _ => 0) ⟨#[], args, []⟩).memory := by
  rw [MakeChecks.laidMetH_plain _ _ _ (by kernel_rfl)]
  exact laidMet_laidAll _ (by kernel_rfl) (by kernel_rfl)

def four : List (String × DataW Unit) := [("remit/api.ErrRange", errD rangeBytes), ("remit/api.ErrForm", errD formBytes), ("remit/api.ErrDigits", errD digitsBytes), ("remit/api.ErrId", errD idBytes)]
theorem order_rows : (tabs3 ++ (four ++ ends2) : List (String × DataW Unit)) = Rows.identOrderRow.laid := rfl
theorem four_sub {l : List (String × DataW Unit)} (h : l.Sublist four) : l.Sublist (tabs3 ++ (four ++ ends2)) := h.trans ((List.sublist_append_left four ends2).trans (List.sublist_append_right _ _))
theorem errs4 {W : World} (h : laidMetH Tryd.prog Rows.identOrderRow.laid W) : ∃ er ef ed ei, RangeAt er W ∧ FormAt ef W ∧ DigAt ed W ∧ IdAt ei W ∧ Tab10 W := by
  rw [MakeChecks.laidMetH_plain _ _ _ (by kernel_rfl), ← order_rows] at h
  obtain ⟨er, hr⟩ := err_of_laid (g := 0) (by kernel_rfl) (by kernel_rfl) (laidMet_sub (four_sub (.cons_cons _ (.cons _ (.cons _ (.cons _ .slnil))))) h)
  obtain ⟨ef, hf⟩ := err_of_laid (g := 1) (by kernel_rfl) (by kernel_rfl) (laidMet_sub (four_sub (.cons _ (.cons_cons _ (.cons _ (.cons _ .slnil))))) h)
  obtain ⟨ed, hd⟩ := err_of_laid (g := 3) (by kernel_rfl) (by kernel_rfl) (laidMet_sub (four_sub (.cons _ (.cons _ (.cons_cons _ (.cons _ .slnil))))) h)
  obtain ⟨ei, hi⟩ := err_of_laid (g := 2) (by kernel_rfl) (by kernel_rfl) (laidMet_sub (four_sub (.cons _ (.cons _ (.cons _ (.cons_cons _ .slnil))))) h)
  exact ⟨er, ef, ed, ei, hr, hf, hd, hi, tab10_of (laidMet_sub (tab_sub _) h)⟩
noncomputable def doorO (os : Os) : World := World.laidAll Tryd.prog os Rows.identOrderRow.laid
theorem doorO_met (os : Os) (args : Array Value) : laidMetH Tryd.prog Rows.identOrderRow.laid ((doorO os).forCall (fun _ _ => 0) ⟨#[], args, []⟩).memory := by
  rw [MakeChecks.laidMetH_plain _ _ _ (by kernel_rfl)]
  exact laidMet_laidAll _ (by kernel_rfl) (by kernel_rfl)
end Go.Proofs.YtalopcbjcgbdfaaDoor
