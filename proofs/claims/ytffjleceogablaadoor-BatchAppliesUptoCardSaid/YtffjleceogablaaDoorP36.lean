/-
  A pointer to a block's first cell.
  The landed table: what it is in memory; New, Len, Get.
-/
import Derived.Test.YtffjleceogablaaDoorP04
import Derived.Test.YtffjleceogablaaDoorP35
import Derived.Test.YtffjleceogablaaDoorP13
namespace Go.Proofs.YtffjleceogablaaDoor
abbrev ptrV (b : Nat) : Value := .pointer (some ⟨b, 0, none⟩)
end Go.Proofs.YtffjleceogablaaDoor
namespace Go.Proofs.YtffjleceogablaaDoor
open Go.RowKit Go.WideShapes
set_option maxRecDepth 100000

/-- A table's two cells: its tree, its bytes. -/
def CTab (W : World) (b : Nat) (p : Option Addr) (m : Nat) : Prop := W.heap[b]? = some (.cells #[.pointer p, .int .i64 (m : Int)] 95 (0, 0))
section
variable {W W' : World} {b m : Nat} {p : Option Addr}
theorem CTab.lt (h : CTab W b p m) : b < W.heap.size := lt_of_block h
theorem CTab.tree (h : CTab W b p m) : W.cell? ⟨b, 0, none⟩ = some (.pointer p) := by rw [cell_of_row _ _ _ _ _ _ h]; rfl
theorem CTab.sum (h : CTab W b p m) : W.cell? ⟨b, 1, none⟩ = some (.int .i64 (m : Int)) := by rw [cell_of_row _ _ _ _ _ _ h]; rfl
theorem CTab.open0 (h : CTab W b p m) : W.frozen? ⟨b, 0, none⟩ = false := by simp [World.frozen?, show W.heap[b]? = _ from h]
theorem CTab.open1 (h : CTab W b p m) : W.frozen? ⟨b, 1, none⟩ = false := by simp [World.frozen?, show W.heap[b]? = _ from h]
theorem CTab.kept {K : Nat → Prop} (h : CTab W b p m) (k : Keeps K W W') (hK : ¬ K b) : CTab W' b p m := (k.block b h.lt hK).trans h
theorem CTab.qt (h : CTab W b p m) (k : Qt W W') : CTab W' b p m := h.kept k (fun e => e)
theorem CTab.set0 (h : CTab W b p m) (q : Option Addr) : CTab (W.setCell ⟨b, 0, none⟩ (.pointer q)) b q m := by
  unfold CTab at h ⊢
  simp only [World.setCell, Array.getElem?_modify, h, if_true, Option.map_some]
  rfl
theorem CTab.set1 (h : CTab W b p m) {i : Int} {n : Nat} (hi : i = (n : Int)) : CTab (W.setCell ⟨b, 1, none⟩ (.int .i64 i)) b p n := by
  subst hi
  unfold CTab at h ⊢
  simp only [World.setCell, Array.getElem?_modify, h, if_true, Option.map_some]
  rfl
end
/-- A table of these rows, which rests on the blocks A. -/
structure Tbl (W : World) (b : Nat) (l : List Tb.R) (A : Nat → Prop) : Prop where
  is : ∃ (p : Option Addr) (T : Tb.Tr) (X : Nat → Prop), CTab W b p (Tb.bytes l) ∧ T.list = l ∧ IsT X W p T ∧ ∀ k, X k → A k ∧ k ≠ b
  own : A b
  lt : ∀ k, A k → k < W.heap.size
  sorted : Tb.Sorted l
  len : l.length ≤ 4398046511104
  sum : Tb.bytes l ≤ 9223372036854775807
section
variable {W W' : World} {b : Nat} {l : List Tb.R} {A : Nat → Prop}
theorem Tbl.kept {K : Nat → Prop} (h : Tbl W b l A) (k : Keeps K W W') (hK : ∀ j, A j → ¬ K j) : Tbl W' b l A := by
  obtain ⟨p, T, X, c, e, i, x⟩ := h.is
  exact ⟨⟨p, T, X, c.kept k (hK b h.own), e, i.kept k (fun j hj => hK j (x j hj).1), x⟩, h.own, fun j hj => Nat.lt_of_lt_of_le (h.lt j hj) k.size, h.sorted, h.len, h.sum⟩
theorem Tbl.qt (h : Tbl W b l A) (k : Qt W W') : Tbl W' b l A := h.kept k (fun _ _ e => e)

/-! ### strings.Clone -/
set_option maxHeartbeats 400000 in
theorem textClone_any (s : ByteArray) (w : World) (h : s.size ≤ 281474976710656) : Calls Tryd.prog 67 #[.string s] w fun e w' => e = .returned (.string s) ∧ Qt w w' := by
  have CL := Tryd.stringslite_Clone s w h
  clear h
  go_enter Tryd.func67, Tryd.ntmps67
  go_wp2_with fail
  refine CL.mono ?_
  rintro e w1 ⟨rfl, k1⟩
  have Q := Lib.hid (Qt.of_below k1)
  clear k1 CL
  go_wp2
  go_ret
  exact ⟨rfl, Q.out⟩

/-! ### Len, Get -/
set_option maxHeartbeats 400000 in
theorem len11_any (h : Tbl W b l A) : Calls Tryd.prog 49 #[ptrV b] W fun e w' => e = .returned (.int .i64 (l.length : Int)) ∧ w' = W := by
  obtain ⟨p, T, X, c, e, i, _⟩ := h.is
  have c0 := c.tree
  have CN := count_any i
  rw [e] at CN
  clear h c e i
  go_enter Tryd.func49, Tryd.ntmps49
  go_wp2_with fail
  refine CN.mono ?_
  rintro e w1 ⟨rfl, rfl⟩
  go_wp2
  go_ret
  exact ⟨rfl, rfl⟩
set_option maxHeartbeats 400000 in
theorem get11_any (h : Tbl W b l A) (k : ByteArray) : Calls Tryd.prog 29 #[ptrV b, .string k] W fun e w' => e = .returned (GotV (Tb.get l k.data.toList)) ∧ w' = W := by
  obtain ⟨p, T, X, c, e, i, _⟩ := h.is
  have c0 := c.tree
  have FD := find_any i (by rw [e]; exact h.sorted) k
  rw [e] at FD
  clear h c e i
  unfold GotV at FD ⊢
  generalize (Tb.get l k.data.toList).isSome = ok at *
  obtain ⟨V, hV⟩ : ∃ V : ByteArray, strV ((Tb.get l k.data.toList).getD []) = .string V := ⟨_, rfl⟩
  rw [hV] at FD ⊢
  clear hV
  go_enter Tryd.func29, Tryd.ntmps29
  go_wp2_with fail
  refine FD.mono ?_
  rintro e w1 ⟨rfl, rfl⟩
  go_wp2
  go_ret2
  exact ⟨rfl, rfl⟩
/-! ### New -/
set_option maxHeartbeats 400000 in
theorem new11_any (w : World) : Calls Tryd.prog 64 #[] w fun e w' => ∃ b, e = .returned (ptrV b) ∧ Tbl w' b [] (fun k => k = b) ∧ w.heap.size ≤ b ∧ Qt w w' := by
  go_enter Tryd.func64, Tryd.ntmps64
  go_wp2
  go_ret
  refine ⟨_, rfl, ⟨⟨none, .leaf, fun _ => False, heap_alloc_new w _, rfl, rfl, fun _ e => e.elim⟩, rfl, fun k hk => ?_, List.Pairwise.nil, by decide, by decide⟩, Nat.le_refl _, (Qt.refl w).alloc _⟩
  subst hk
  simp
end
end Go.Proofs.YtffjleceogablaaDoor
