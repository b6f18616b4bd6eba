/-
  A row of structs that came in, of any plain fields.
-/
import Derived.Test.YtffjleceogablaaDoorQtB
namespace Go.Proofs.YtffjleceogablaaDoor
open Go.RowKit
set_option maxRecDepth 100000

/-- A row of structs of n cells that came in, in block g from off on. -/
structure Recs {α : Type} (n : Nat) (f : α → List Value) (W : World) (v : Value) (g off : Nat) (os : List α) : Prop where
  val : ∃ a cap, v = .slice a os.length cap ∧ (os ≠ [] → a = some ⟨g, off, none⟩)
  le : os.length ≤ 17592186044416
  cells : ∀ (k : Nat) (o : α), os[k]? = some o → ∀ (j : Nat) (u : Value), (f o)[j]? = some u → W.cell? ⟨g, off + k * n + j, none⟩ = some u
section
variable {α : Type} {n : Nat} {f : α → List Value} {W : World} {v : Value} {g off : Nat} {os : List α}
theorem Recs.elem (h : Recs n f W v g off os) {k : Nat} (hk : k < os.length) : ∃ o cap, os[k]? = some o ∧ v = .slice (some ⟨g, off, none⟩) os.length cap := by
  obtain ⟨a, cap, rfl, ha⟩ := h.val
  have hne : os ≠ [] := by rintro rfl; simp at hk
  obtain rfl := ha hne
  exact ⟨os[k], cap, List.getElem?_eq_getElem hk, rfl⟩
theorem Recs.qt {W' : World} (h : Recs n f W v g off os) (q : Qt W W') {k : Nat} {o : α} (hk : os[k]? = some o) (j : Nat) (u : Value) (hj : (f o)[j]? = some u) : W'.cell? ⟨g, off + k * n + j, none⟩ = some u := q.cellv (h.cells k o hk j u hj)
end
end Go.Proofs.YtffjleceogablaaDoor
