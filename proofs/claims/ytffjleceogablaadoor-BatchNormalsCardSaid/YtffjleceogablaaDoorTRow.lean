/-
  Rows (api.Row) in memory: a row's cells, a list of rows, rows of the call's own; held one against the other.
-/
import Derived.Test.YtffjleceogablaaDoorTSpec
import Derived.Test.YtffjleceogablaaDoorQtB
import Derived.Test.YtffjleceogablaaDoorOwn2
import Derived.Test.YtffjleceogablaaDoorStrV
import Derived.Test.YtffjleceogablaaDoorRecsB
import Derived.WideShapes
import Derived.Laws.StructEq
import Derived.Laws.Rows
namespace Go.Proofs.YtffjleceogablaaDoor
open Go.RowKit Go.WideShapes
set_option maxRecDepth 100000

abbrev rowV (r : Tb.R) : Value := .agg #[strV r.1, strV r.2]
def rowC (r : Tb.R) : List Value := [strV r.1, strV r.2]
def rowsC (l : List Tb.R) : List Value := l.flatMap rowC
theorem infoRow : (Tryd.prog.info? 64).map (fun i => (i.zero, i.size, i.bytes)) = some (some (.agg #[.string ⟨#[]⟩, .string ⟨#[]⟩]), 2, 32) := by kernel_rfl
theorem rowsC_length (l : List Tb.R) : (rowsC l).length = l.length * 2 := by
  induction l with
  | nil => rfl
  | cons r l ih =>
    unfold rowsC at *
    rw [List.flatMap_cons, List.length_append, ih, List.length_cons]
    show 2 + _ = _
    omega
theorem rowsC_append (l m : List Tb.R) : rowsC (l ++ m) = rowsC l ++ rowsC m := by simp [rowsC]
theorem rowsC_one (r : Tb.R) : rowsC [r] = [strV r.1, strV r.2] := by simp [rowsC, rowC]
theorem rowsC_get : ∀ {l : List Tb.R} {k : Nat} {r : Tb.R}, l[k]? = some r → ∀ {j : Nat} {u : Value}, (rowC r)[j]? = some u → (rowsC l)[k * 2 + j]? = some u
  | [], k, r, h, _, _, _ => by simp at h
  | a :: l, 0, r, h, j, u, hj => by
    have e : a = r := by simpa using h
    subst e
    unfold rowsC
    rw [List.flatMap_cons, Nat.zero_mul, Nat.zero_add, List.getElem?_append_left (List.getElem?_eq_some_iff.1 hj).1]
    exact hj
  | a :: l, k + 1, r, h, j, u, hj => by
    have ih := rowsC_get (l := l) (k := k) (r := r) (by simpa using h) hj
    unfold rowsC at *
    have hl : (rowC a).length = 2 := rfl
    rw [List.flatMap_cons, show (k + 1) * 2 + j = (rowC a).length + (k * 2 + j) by rw [hl]; omega, List.getElem?_append_right (by omega), Nat.add_sub_cancel_left]
    exact ih
theorem rowsC_one' (l : List Tb.R) : ∀ u ∈ rowsC l, u.oneCell' = true := by
  intro u hu
  unfold rowsC at hu
  obtain ⟨r, _, hr⟩ := List.mem_flatMap.1 hu
  simp only [rowC, List.mem_cons, List.not_mem_nil, or_false] at hr
  rcases hr with rfl | rfl <;> rfl
/-- A list of rows that came in, or was made. -/
abbrev RowsIn (W : World) (v : Value) (g off : Nat) (l : List Tb.R) : Prop := Recs 2 rowC W v g off l
/-- Rows of the call's own; nothing of w has turned. -/
structure NewR (w wr : World) (v : Value) (l : List Tb.R) : Prop where
  own : wr.ownsRow 0 64 2 v l.length (rowsC l)
  new : ∀ g, v.ownBlock = some g → w.heap.size ≤ g
  qt : Qt w wr
theorem NewR.quiet {w wr w2 : World} {v : Value} {l : List Tb.R} (h : NewR w wr v l) (k : Qt wr w2) : NewR w w2 v l := ⟨ownsRow_kept h.own k (fun _ _ e => e), h.new, Qt.trans h.qt k⟩
theorem ownR_rows {w : World} {v : Value} {l : List Tb.R} (h : w.ownsRow 0 64 2 v l.length (rowsC l)) (hl : l.length ≤ 17592186044416) : ∃ g, RowsIn w v g 0 l ∧ ∀ x, v.ownBlock = some x → x = g := by
  rcases h.2 with ⟨e, h0⟩ | ⟨g, cap, cur, e, _⟩
  · have h1 : l = [] := List.length_eq_zero_iff.1 h0
    subst h1
    exact ⟨0, ⟨⟨none, 0, e, fun h => absurd rfl h⟩, hl, fun k o hk => by simp at hk⟩, fun x hx => by rw [e] at hx; cases hx⟩
  · subst e
    refine ⟨g, ⟨⟨_, cap, rfl, fun _ => rfl⟩, hl, fun k o hk j u hj => ?_⟩, fun x hx => by injection hx with hx; exact hx.symm⟩
    have hc := (World.ownsRowF_of h).cells (g := g) rfl _ u (rowsC_get hk hj)
    rw [add_plain, Nat.zero_add] at hc
    rw [Nat.zero_add]
    exact hc
theorem NewR.rows {w wr : World} {v : Value} {l : List Tb.R} (h : NewR w wr v l) (hl : l.length ≤ 17592186044416) : ∃ g, RowsIn wr v g 0 l := by
  obtain ⟨g, h1, _⟩ := ownR_rows h.own hl
  exact ⟨g, h1⟩
theorem RowsIn.turn {W W' : World} {v : Value} {g off : Nat} {l : List Tb.R} (h : RowsIn W v g off l) (q : Qt W W') : RowsIn W' v g off l := ⟨h.val, h.le, fun k o hk j u hj => q.cellv (h.cells k o hk j u hj)⟩
theorem RowsIn.kept {S : Nat → Prop} {W W' : World} {v : Value} {g off : Nat} {l : List Tb.R} (h : RowsIn W v g off l) (q : Keeps S W W') (hS : l ≠ [] → ¬ S g) : RowsIn W' v g off l := ⟨h.val, h.le, fun k o hk j u hj => q.cellv (h.cells k o hk j u hj) (hS (by rintro rfl; simp at hk))⟩
theorem RowsIn.cell {W : World} {v : Value} {g off : Nat} {l : List Tb.R} (h : RowsIn W v g off l) {k : Nat} {r : Tb.R} (hk : l[k]? = some r) : W.cell? ⟨g, off + k * 2, none⟩ = some (strV r.1) ∧ W.cell? ⟨g, off + k * 2 + 1, none⟩ = some (strV r.2) :=
  ⟨h.cells k r hk 0 _ rfl, h.cells k r hk 1 _ rfl⟩

/-! ### Rows held against one another -/
theorem strV_inj {a b : List UInt8} : strV a = strV b ↔ a = b := by
  unfold strV
  constructor
  · intro h
    injection h with h
    injection h with h
    exact Array.toList_inj.2 h |> fun e => by simpa using e
  · rintro rfl; rfl
theorem str_beq (a b : List UInt8) : ((⟨a.toArray⟩ : ByteArray).toList == (⟨b.toArray⟩ : ByteArray).toList) = decide (a = b) := by
  rw [Bool.eq_iff_iff]
  simp only [beq_iff_eq, decide_eq_true_eq, ByteArray.toList_eq]
theorem run_equal_row (p q : Tb.R) (w : World) : (Op.equalIn 10000 64 (rowV p) (rowV q)).run Tryd.prog w = .ok (decide (p = q)) w := by
  obtain ⟨a1, b1⟩ := p
  obtain ⟨a2, b2⟩ := q
  have hs : (decide (((a1, b1) : Tb.R) = (a2, b2))) = (decide (a1 = a2) && decide (b1 = b2)) := by
    rw [Bool.eq_iff_iff]
    simp
  have hp : Tryd.prog.stoodInHeld 64 = false := by kernel_rfl
  have ht : Tryd.prog.underlying 64 = some (.struct (Tryd.prog.fieldsOf 64)) := by kernel_rfl
  rw [hs, run_equalIn_struct w 9999 _ _ _ ht hp]
  have e9 := fun (a b : ByteArray) => run_equalIn_string (P := Tryd.prog) w 9998 9 a b Tryd.underlying9
  have hf : (Tryd.prog.fieldsOf 64).toList = [{ name := "Key", type := 9, offset := 0, embedded := false, tag := "", pkgPath := "", byteOffset := 0 }, { name := "Value", type := 9, offset := 1, embedded := false, tag := "", pkgPath := "", byteOffset := 16 }] := by kernel_rfl
  have a9 : ∀ W, (isAgg 9).run Tryd.prog W = .ok false W := Tryd.isAgg9
  rw [hf]
  unfold strV
  simp only [Op.eqFields, part, Sem.run_bind, a9, Result.andThen_ok, Bool.false_eq_true, if_false, Sem.run_pure, ne_eq, String.reduceEq, not_false_eq_true, if_true, List.getElem?_toArray, List.getElem?_cons_zero, List.getElem?_cons_succ, e9, str_beq]
  by_cases h1 : a1 = a2
  · subst h1
    by_cases h2 : b1 = b2
    · simp [h2, e9, Sem.run_bind]
    · simp [h2, e9, Sem.run_bind]
  · simp [h1]
theorem run_neq_row (p q : Tb.R) (w : World) : (binOp .neq 64 (rowV p) (rowV q)).run Tryd.prog w = .ok (.bool (!decide (p = q))) w := by
  rw [run_neq_struct, run_equal_row]; rfl
theorem run_eql_row (p q : Tb.R) (w : World) : (binOp .eql 64 (rowV p) (rowV q)).run Tryd.prog w = .ok (.bool (decide (p = q))) w := by
  rw [run_eql_struct, run_equal_row]; rfl
end Go.Proofs.YtffjleceogablaaDoor
