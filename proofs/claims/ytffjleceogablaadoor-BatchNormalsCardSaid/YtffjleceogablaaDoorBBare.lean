/-
  The landed batch: bare.
-/
import Derived.Test.YtffjleceogablaaDoorBRow
import Derived.LoopTactic
import Derived.Shelf.SlSortCmp.QuietGrown
namespace Go.Proofs.YtffjleceogablaaDoor
open Go.RowKit Go.WideShapes Go.Sort
set_option maxRecDepth 100000

theorem qt_grow12 (w : World) (n : Nat) (os : Array Obj) : Qt w (grow (w.drewN n) os) := ⟨rfl, rfl, rfl, by simp [grow, World.drewN], fun j hj _ => by
  show (w.heap ++ os)[j]? = w.heap[j]?
  rw [Array.getElem?_append_left hj]⟩
set_option maxHeartbeats 800000 in
theorem bareG_any (o : Bt.O) (w : World) : Calls Tryd.prog 30 #[opV o] w fun e w' => e = .returned (opV (Bt.clean o)) ∧ ∃ q os', w' = grow (w.drewN q) os' := by
  have GG : ∀ x y : Obj, ∃ q os', (w.alloc x).alloc y = grow (w.drewN q) os' := fun x y => ⟨0, _, by rw [alloc_eq_grow, alloc_eq_grow, grow_grow]; rfl⟩
  obtain ⟨d, k, v⟩ := o
  unfold opV
  have hn : ∀ x y : Obj, ((w.alloc x).alloc y).heap[w.heap.size + 1]? = some y := fun x y => by
    have h := heap_alloc_new (w.alloc x) y
    rwa [World.size_alloc] at h
  obtain ⟨K, hK⟩ : ∃ K : ByteArray, strV k = .string K := ⟨_, rfl⟩
  obtain ⟨V, hV⟩ : ∃ V : ByteArray, strV v = .string V := ⟨_, rfl⟩
  cases d with
  | true =>
    have FN := Lib.hid (show (Value.agg #[.bool (Bt.clean ⟨true, k, v⟩).del, strV (Bt.clean ⟨true, k, v⟩).key, strV (Bt.clean ⟨true, k, v⟩).val]) = .agg #[.bool true, .string K, .string ⟨#[]⟩] by
      rw [← hK]; rfl)
    simp only [hK, hV]
    go_enter Tryd.func30, Tryd.ntmps30
    go_wp2
    refine bodyPost_ret (results_cell_row (p := 2) (ty := 29) (by kernel_rfl) _ _ (w.heap.size + 1) 29 #[.bool true, .string K, .string ⟨#[]⟩] (0, 0) _ rfl (hn _ _) Tryd.underlying29 rfl (by kernel_rfl)) rfl ⟨?_, GG _ _⟩
    rw [FN.out]
  | false =>
    have FN := Lib.hid (show (Value.agg #[.bool (Bt.clean ⟨false, k, v⟩).del, strV (Bt.clean ⟨false, k, v⟩).key, strV (Bt.clean ⟨false, k, v⟩).val]) = .agg #[.bool false, .string K, .string V] by
      rw [← hK, ← hV]; rfl)
    simp only [hK, hV]
    go_enter Tryd.func30, Tryd.ntmps30
    go_wp2
    refine bodyPost_ret (results_cell_row (p := 2) (ty := 29) (by kernel_rfl) _ _ (w.heap.size + 1) 29 #[.bool false, .string K, .string V] (0, 0) _ rfl (hn _ _) Tryd.underlying29 rfl (by kernel_rfl)) rfl ⟨?_, GG _ _⟩
    rw [FN.out]
theorem bare_any (o : Bt.O) (w : World) : Calls Tryd.prog 30 #[opV o] w fun e w' => e = .returned (opV (Bt.clean o)) ∧ Qt w w' :=
  (bareG_any o w).mono fun _ _ ⟨he, q, os, hw⟩ => ⟨he, hw ▸ qt_grow12 w q os⟩
end Go.Proofs.YtffjleceogablaaDoor
