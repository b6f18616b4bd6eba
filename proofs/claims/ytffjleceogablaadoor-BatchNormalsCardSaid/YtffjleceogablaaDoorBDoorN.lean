/-
  What BatchNormals' listed variables give, of its first form: two errors; the witness's start.
-/
import Derived.Test.YtffjleceogablaaDoorLaidB
import Derived.Test.YtffjleceogablaaDoorBFault
import Derived.OpenShut
namespace Go.Proofs.YtffjleceogablaaDoor
open Go.ChangeShapes Go.WideShapes Go.ChangeAt Go.RowKit
set_option maxRecDepth 100000

def orderBytes : List UInt8 := [114, 101, 109, 105, 116, 58, 32, 111, 114, 100, 101, 114]
def twoTexts : List (String × List UInt8) := [("remit/api.ErrOrder", orderBytes), ("remit/api.ErrForm", formBytes)]
def two12 : List (String × DataW Unit) := twoTexts.map fun x => (x.1, errD x.2)
theorem e2_of_texts {W : World} (h : laidMet Tryd.prog two12 W) : ∃ ad, E2 ad W := by
  obtain ⟨ps, hv, hnd, hrows⟩ := h
  obtain ⟨al, hl, h1, _, _⟩ := laid_errs hrows twoTexts [0, 1] ps (fun _ h => h) hnd (by kernel_rfl) (by
    intro g hg
    simp only [List.mem_cons, List.not_mem_nil, or_false] at hg
    rcases hg with rfl | rfl <;> kernel_rfl) hv
  match al, hl with
  | [a, b], _ => exact ⟨fun n => if n = 4 then a else b, (h1 0 _ a rfl rfl).1, (h1 1 _ b rfl rfl).1⟩
theorem normals_rows : two12 = Rows.batchNormalsRow.laid := rfl
theorem errs_normals12 {W : World} (h : laidMetH Tryd.prog Rows.batchNormalsRow.laid W) : ∃ ad, E2 ad W := by
  rw [MakeChecks.laidMetH_plain _ _ _ (by kernel_rfl), ← normals_rows] at h
  exact e2_of_texts h
noncomputable def doorB2 (os : Os) : World := World.laidAll Tryd.prog os two12
theorem doorB2_met (os : Os) (args : Array Value) : laidMetH Tryd.prog two12 ((doorB2 os).forCall (fun _ _ => 0) ⟨#[], args, []⟩).memory := by
  rw [MakeChecks.laidMetH_plain _ _ _ (by kernel_rfl)]
  exact laidMet_laidAll _ (by kernel_rfl) (by kernel_rfl)
end Go.Proofs.YtffjleceogablaaDoor
