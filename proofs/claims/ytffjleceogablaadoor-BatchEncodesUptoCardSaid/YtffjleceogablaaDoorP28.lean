/-
  All errors of package api, in whatever order they are listed.
  What layer 12's listed variables give: two errors, or all 37; the witness's start.
-/
import Derived.Test.YtffjleceogablaaDoorP27
import Derived.Test.YtffjleceogablaaDoorP09
import Derived.Test.YtffjleceogablaaDoorP10
import Derived.OpenShut
namespace Go.Proofs.YtffjleceogablaaDoor
open Go.ChangeShapes Go.WideShapes Go.ChangeAt Go.RowKit
set_option maxRecDepth 100000

/-- All the errors, in whatever order they are listed. -/
theorem errs_of_list {W : World} (L : List (String × List UInt8)) (gs : List Nat) (hg : L.map (fun x => Tryd.prog.globalNamed x.1) = gs.map some) (ht : (gs.all fun g => decide ((Tryd.prog.globals[g]?).map (·.type) = some 32)) = true)
    (hall : (gErrs.all fun g => gs.contains g) = true) (hnd0 : gErrs.Nodup) (h : laidMet Tryd.prog (L.map fun x => (x.1, errD x.2)) W) : ∃ ad, Errs ad W := by
  obtain ⟨ps, hv, hnd, hrows⟩ := h
  obtain ⟨al, hl, h1, _, h3⟩ := laid_errs hrows L gs ps (fun _ h => h) hnd hg (fun g hg => of_decide_eq_true (List.all_eq_true.1 ht g hg)) hv
  have hlen : gErrs.length = 37 := rfl
  have pos : ∀ i, i < 37 → gs[gs.idxOf (gErrs.getD i 0)]? = some (gErrs.getD i 0) ∧ al[gs.idxOf (gErrs.getD i 0)]? = some (al.getD (gs.idxOf (gErrs.getD i 0)) default) := by
    intro i hi
    have hm : gErrs.getD i 0 ∈ gErrs := by rw [List.getD_eq_getElem?_getD, List.getElem?_eq_getElem (by omega)]; exact List.getElem_mem _
    have hm2 : gErrs.getD i 0 ∈ gs := List.contains_iff_mem.1 (List.all_eq_true.1 hall _ hm)
    have hlt := List.idxOf_lt_length_of_mem hm2
    refine ⟨by rw [List.getElem?_eq_getElem hlt]; simp, ?_⟩
    generalize gs.idxOf (gErrs.getD i 0) = x at *
    rw [List.getD_eq_getElem?_getD, List.getElem?_eq_getElem (by omega)]; rfl
  refine ⟨fun n => al.getD (gs.idxOf (gErrs.getD (n - 1) 0)) default, fun i g hgi => ?_, fun i j hi hj he => ?_, fun i hi => ?_⟩
  · have hi : i < 37 := (List.getElem?_eq_some_iff.1 hgi).1
    have e : gErrs.getD i 0 = g := by rw [List.getD_eq_getElem?_getD, hgi]; rfl
    obtain ⟨p1, p2⟩ := pos i hi
    simp only [Nat.add_sub_cancel]
    rw [e] at p1 p2 ⊢
    exact (h1 _ g _ p1 p2).1
  · simp only [Nat.add_sub_cancel] at he
    obtain ⟨p1, p2⟩ := pos i hi
    obtain ⟨q1, q2⟩ := pos j hj
    rw [← he] at q2
    have hidx : gs.idxOf (gErrs.getD i 0) = gs.idxOf (gErrs.getD j 0) := by
      refine (List.getElem?_inj (by rw [List.length_map]; exact (List.getElem?_eq_some_iff.1 p2).1) h3).1 ?_
      rw [List.getElem?_map, List.getElem?_map, p2, q2]
    rw [hidx, q1] at p1
    have hv := Option.some.inj p1
    refine ((List.getElem?_inj (by omega) hnd0).1 ?_).symm
    rw [List.getElem?_eq_getElem (show j < gErrs.length by omega), List.getElem?_eq_getElem (show i < gErrs.length by omega)]
    rw [List.getD_eq_getElem?_getD, List.getD_eq_getElem?_getD, List.getElem?_eq_getElem (show j < gErrs.length by omega), List.getElem?_eq_getElem (show i < gErrs.length by omega)] at hv
    simpa using hv
  · obtain ⟨p1, p2⟩ := pos i hi
    simp only [Nat.add_sub_cancel]
    exact (h1 _ _ _ p1 p2).2
/-- The errors and their texts, by their numbers: rows list them so. -/
def errTexts : List (String × List UInt8) := [
  ("remit/api.ErrShort", [114, 101, 109, 105, 116, 58, 32, 116, 111, 111, 32, 115, 104, 111, 114, 116]),
  ("remit/api.ErrVarint", [114, 101, 109, 105, 116, 58, 32, 118, 97, 114, 105, 110, 116]),
  ("remit/api.ErrLimit", [114, 101, 109, 105, 116, 58, 32, 108, 105, 109, 105, 116]),
  ("remit/api.ErrOrder", [114, 101, 109, 105, 116, 58, 32, 111, 114, 100, 101, 114]),
  ("remit/api.ErrTail", [114, 101, 109, 105, 116, 58, 32, 116, 97, 105, 108]),
  ("remit/api.ErrRange", [114, 101, 109, 105, 116, 58, 32, 114, 97, 110, 103, 101]),
  ("remit/api.ErrForm", [114, 101, 109, 105, 116, 58, 32, 102, 111, 114, 109]),
  ("remit/api.ErrDigits", [114, 101, 109, 105, 116, 58, 32, 99, 104, 101, 99, 107, 32, 100, 105, 103, 105, 116, 115]),
  ("remit/api.ErrAmount", [114, 101, 109, 105, 116, 58, 32, 97, 109, 111, 117, 110, 116]),
  ("remit/api.ErrOverflow", [114, 101, 109, 105, 116, 58, 32, 111, 118, 101, 114, 102, 108, 111, 119]),
  ("remit/api.ErrCurrency", [114, 101, 109, 105, 116, 58, 32, 99, 117, 114, 114, 101, 110, 99, 121]),
  ("remit/api.ErrDown", [114, 101, 109, 105, 116, 58, 32, 100, 111, 119, 110]),
  ("remit/api.ErrSmall", [114, 101, 109, 105, 116, 58, 32, 115, 109, 97, 108, 108]),
  ("remit/api.ErrBlank", [114, 101, 109, 105, 116, 58, 32, 98, 108, 97, 110, 107]),
  ("remit/api.ErrCorrupt", [114, 101, 109, 105, 116, 58, 32, 99, 111, 114, 114, 117, 112, 116]),
  ("remit/api.ErrWorn", [114, 101, 109, 105, 116, 58, 32, 119, 111, 114, 110]),
  ("remit/api.ErrFull", [114, 101, 109, 105, 116, 58, 32, 102, 117, 108, 108]),
  ("remit/api.ErrLarge", [114, 101, 109, 105, 116, 58, 32, 108, 97, 114, 103, 101]),
  ("remit/api.ErrClosed", [114, 101, 109, 105, 116, 58, 32, 99, 108, 111, 115, 101, 100]),
  ("remit/api.ErrAccount", [114, 101, 109, 105, 116, 58, 32, 97, 99, 99, 111, 117, 110, 116]),
  ("remit/api.ErrExists", [114, 101, 109, 105, 116, 58, 32, 101, 120, 105, 115, 116, 115]),
  ("remit/api.ErrFrozen", [114, 101, 109, 105, 116, 58, 32, 102, 114, 111, 122, 101, 110]),
  ("remit/api.ErrFunds", [114, 101, 109, 105, 116, 58, 32, 102, 117, 110, 100, 115]),
  ("remit/api.ErrLegs", [114, 101, 109, 105, 116, 58, 32, 108, 101, 103, 115]),
  ("remit/api.ErrConflict", [114, 101, 109, 105, 116, 58, 32, 99, 111, 110, 102, 108, 105, 99, 116]),
  ("remit/api.ErrId", [114, 101, 109, 105, 116, 58, 32, 105, 100]),
  ("remit/api.ErrPayee", [114, 101, 109, 105, 116, 58, 32, 112, 97, 121, 101, 101]),
  ("remit/api.ErrRail", [114, 101, 109, 105, 116, 58, 32, 114, 97, 105, 108]),
  ("remit/api.ErrBusy", [114, 101, 109, 105, 116, 58, 32, 98, 117, 115, 121]),
  ("remit/api.ErrWindow", [114, 101, 109, 105, 116, 58, 32, 119, 105, 110, 100, 111, 119]),
  ("remit/api.ErrPhase", [114, 101, 109, 105, 116, 58, 32, 112, 104, 97, 115, 101]),
  ("remit/api.ErrToken", [114, 101, 109, 105, 116, 58, 32, 116, 111, 107, 101, 110]),
  ("remit/api.ErrTime", [114, 101, 109, 105, 116, 58, 32, 116, 105, 109, 101]),
  ("remit/api.ErrUnknown", [114, 101, 109, 105, 116, 58, 32, 117, 110, 107, 110, 111, 119, 110]),
  ("remit/api.ErrConfig", [114, 101, 109, 105, 116, 58, 32, 99, 111, 110, 102, 105, 103, 117, 114, 97, 116, 105, 111, 110]),
  ("remit/api.ErrCommand", [114, 101, 109, 105, 116, 58, 32, 99, 111, 109, 109, 97, 110, 100]),
  ("remit/api.ErrUse", [114, 101, 109, 105, 116, 58, 32, 105, 110, 32, 117, 115, 101])]
theorem errs_of_texts {W : World} (h : laidMet Tryd.prog (errTexts.map fun x => (x.1, errD x.2)) W) : ∃ ad, Errs ad W :=
  errs_of_list errTexts gErrs (by kernel_rfl) (by kernel_rfl) (by decide) (by decide) h
end Go.Proofs.YtffjleceogablaaDoor
namespace Go.Proofs.YtffjleceogablaaDoor
open Go.ChangeShapes Go.WideShapes Go.ChangeAt Go.RowKit
set_option maxRecDepth 100000

def orderBytes : List UInt8 := [114, 101, 109, 105, 116, 58, 32, 111, 114, 100, 101, 114]
def twoTexts : List (String × List UInt8) := [("remit/api.ErrOrder", orderBytes), ("remit/api.ErrForm", formBytes)]
def two12 : List (String × DataW Unit) := twoTexts.map fun x => (x.1, errD x.2)
theorem e2_of_texts {W : World} (h : laidMet Tryd.prog two12 W) : ∃ ad, E2 ad W := by
  obtain ⟨ps, hv, hnd, hrows⟩ := h
  obtain ⟨al, hl, h1, _, _⟩ := laid_errs hrows twoTexts [0, 1] ps (fun _ h => h) hnd (by kernel_rfl) (by
    intro g hg
    simp only [List.mem_cons, List.not_mem_nil, or_false] at hg
    rcases hg with rfl | rfl <;> kernel_rfl) hv
  match al, hl with
  | [a, b], _ => exact ⟨fun n => if n = 4 then a else b, (h1 0 _ a rfl rfl).1, (h1 1 _ b rfl rfl).1⟩
theorem normals_rows : two12 = Rows.batchNormalsUptoRow.laid := rfl
theorem errs_normals12 {W : World} (h : laidMetH Tryd.prog Rows.batchNormalsUptoRow.laid W) : ∃ ad, E2 ad W := by
  rw [MakeChecks.laidMetH_plain _ _ _ (by kernel_rfl), ← normals_rows] at h
  exact e2_of_texts h
theorem applies_rows : two12 = Rows.batchAppliesUptoRow.laid := rfl
theorem errs_applies12 {W : World} (h : laidMetH Tryd.prog Rows.batchAppliesUptoRow.laid W) : ∃ ad, E2 ad W := by
  rw [MakeChecks.laidMetH_plain _ _ _ (by kernel_rfl), ← applies_rows] at h
  exact e2_of_texts h
theorem between_rows : two12 = Rows.batchBetweenUptoRow.laid := rfl
theorem errs_between12 {W : World} (h : laidMetH Tryd.prog Rows.batchBetweenUptoRow.laid W) : ∃ ad, E2 ad W := by
  rw [MakeChecks.laidMetH_plain _ _ _ (by kernel_rfl), ← between_rows] at h
  exact e2_of_texts h
theorem joins_rows : two12 = Rows.batchJoinsUptoRow.laid := rfl
theorem errs_joins12 {W : World} (h : laidMetH Tryd.prog Rows.batchJoinsUptoRow.laid W) : ∃ ad, E2 ad W := by
  rw [MakeChecks.laidMetH_plain _ _ _ (by kernel_rfl), ← joins_rows] at h
  exact e2_of_texts h
noncomputable def doorB2 (os : Os) : World := World.laidAll Tryd.prog os two12
theorem doorB2_met (os : Os) (args : Array Value) : laidMetH Tryd.prog two12 ((doorB2 os).forCall (fun _ _ => 0) ⟨#[], args, []⟩).memory := by
  rw [MakeChecks.laidMetH_plain _ _ _ (by kernel_rfl)]
  exact laidMet_laidAll _ (by kernel_rfl) (by kernel_rfl)

def all37 : List (String × DataW Unit) := errTexts.map fun x => (x.1, errD x.2)
theorem encodes_rows : all37 = Rows.batchEncodesUptoRow.laid := rfl
theorem errs_encodes12 {W : World} (h : laidMetH Tryd.prog Rows.batchEncodesUptoRow.laid W) : ∃ ad, Errs ad W := by
  rw [MakeChecks.laidMetH_plain _ _ _ (by kernel_rfl), ← encodes_rows] at h
  exact errs_of_texts h
theorem decodes_rows : all37 = Rows.batchDecodesUptoRow.laid := rfl
theorem errs_decodes12 {W : World} (h : laidMetH Tryd.prog Rows.batchDecodesUptoRow.laid W) : ∃ ad, Errs ad W := by
  rw [MakeChecks.laidMetH_plain _ _ _ (by kernel_rfl), ← decodes_rows] at h
  exact errs_of_texts h
theorem back_rows : all37 = Rows.batchBackUptoRow.laid := rfl
theorem errs_back12 {W : World} (h : laidMetH Tryd.prog Rows.batchBackUptoRow.laid W) : ∃ ad, Errs ad W := by
  rw [MakeChecks.laidMetH_plain _ _ _ (by kernel_rfl), ← back_rows] at h
  exact errs_of_texts h
noncomputable def doorB (os : Os) : World := World.laidAll Tryd.prog os all37
theorem doorB_met (os : Os) (args : Array Value) : laidMetH Tryd.prog all37 ((doorB os).forCall (fun _ _ => 0) ⟨#[], args, []⟩).memory := by
  rw [MakeChecks.laidMetH_plain _ _ _ (by kernel_rfl)]
  exact laidMet_laidAll _ (by kernel_rfl) (by kernel_rfl)
end Go.Proofs.YtffjleceogablaaDoor
