/-
  Ops (api.Op) in memory: an op's cells, a list of ops, ops of the call's own; held one against the other.
-/
import Derived.Test.YtffjleceogablaaDoorBSpec
import Derived.Test.YtffjleceogablaaDoorTRow
import Derived.Test.YtffjleceogablaaDoorRowsG
namespace Go.Proofs.YtffjleceogablaaDoor
open Go.RowKit Go.WideShapes
set_option maxRecDepth 100000

instance : DecidableEq Bt.O := fun a b => match a, b with
  | ⟨d1, k1, v1⟩, ⟨d2, k2, v2⟩ => if h : d1 = d2 ∧ k1 = k2 ∧ v1 = v2 then isTrue (by obtain ⟨h1, h2, h3⟩ := h; rw [h1, h2, h3]) else isFalse (fun e => by injection e with e1 e2 e3; exact h ⟨e1, e2, e3⟩)
abbrev opV (r : Bt.O) : Value := .agg #[.bool r.del, strV r.key, strV r.val]
def opC (r : Bt.O) : List Value := [.bool r.del, strV r.key, strV r.val]
theorem opC_len (r : Bt.O) : (opC r).length = 3 := rfl
abbrev opsC (l : List Bt.O) : List Value := cellsG opC l
theorem infoOp12 : (Tryd.prog.info? 29).map (fun i => (i.zero, i.size, i.bytes)) = some (some (.agg #[.bool false, .string ⟨#[]⟩, .string ⟨#[]⟩]), 3, 40) := by kernel_rfl
theorem opsC_length (l : List Bt.O) : (opsC l).length = l.length * 3 := cellsG_length opC_len l
theorem opsC_append (l m : List Bt.O) : opsC (l ++ m) = opsC l ++ opsC m := cellsG_append l m
theorem opsC_snoc (l : List Bt.O) (z : Bt.O) : opsC (l ++ [z]) = opsC l ++ opC z := by rw [opsC_append]; simp [opsC, cellsG]
theorem opsC_one (r : Bt.O) : opsC [r] = [.bool r.del, strV r.key, strV r.val] := by simp [opsC, cellsG, opC]
theorem opsC_one' (l : List Bt.O) : ∀ u ∈ opsC l, u.oneCell' = true := cellsG_one' (fun r u hr => by
  simp only [opC, List.mem_cons, List.not_mem_nil, or_false] at hr
  rcases hr with rfl | rfl | rfl <;> rfl) l
/-- A list of ops that came in, or was made. -/
abbrev OpsIn (W : World) (v : Value) (g off : Nat) (l : List Bt.O) : Prop := Recs 3 opC W v g off l
/-- Ops of the call's own; nothing of w has turned. -/
abbrev NewO (w wr : World) (v : Value) (l : List Bt.O) : Prop := NewG opC 3 29 w wr v l
theorem OpsIn.cell {W : World} {v : Value} {g off : Nat} {l : List Bt.O} (h : OpsIn W v g off l) {k : Nat} {r : Bt.O} (hk : l[k]? = some r) : W.cell? ⟨g, off + k * 3, none⟩ = some (.bool r.del) ∧ W.cell? ⟨g, off + k * 3 + 1, none⟩ = some (strV r.key) ∧ W.cell? ⟨g, off + k * 3 + 2, none⟩ = some (strV r.val) :=
  ⟨h.cells k r hk 0 _ rfl, h.cells k r hk 1 _ rfl, h.cells k r hk 2 _ rfl⟩
theorem op_new0 (W : World) : (W.alloc (.cells #[] 29)).ownsRow 0 29 3 (.slice (some ⟨W.heap.size, 0, none⟩) 0 0) 0 (opsC []) :=
  ⟨rfl, .inr ⟨W.heap.size, 0, #[], rfl, Nat.zero_le _, heap_alloc_new W _, Nat.le_refl _, by decide, rfl, rfl⟩⟩

/-! ### Ops held against one another -/
theorem run_equal_op (p q : Bt.O) (w : World) : (Op.equalIn 10000 29 (opV p) (opV q)).run Tryd.prog w = .ok (decide (p = q)) w := by
  obtain ⟨d1, a1, b1⟩ := p
  obtain ⟨d2, a2, b2⟩ := q
  have hs : (decide ((⟨d1, a1, b1⟩ : Bt.O) = ⟨d2, a2, b2⟩)) = (decide (d1 = d2) && (decide (a1 = a2) && decide (b1 = b2))) := by
    rw [Bool.eq_iff_iff]
    simp
  have hp : Tryd.prog.stoodInHeld 29 = false := by kernel_rfl
  have ht : Tryd.prog.underlying 29 = some (.struct (Tryd.prog.fieldsOf 29)) := by kernel_rfl
  rw [hs, run_equalIn_struct w 9999 _ _ _ ht hp]
  have e9 := fun (a b : ByteArray) => run_equalIn_string (P := Tryd.prog) w 9998 9 a b Tryd.underlying9
  have e8 := fun (a b : Bool) => run_equalIn_bool (P := Tryd.prog) w 9998 4 a b Tryd.underlying4
  have hf : (Tryd.prog.fieldsOf 29).toList = [{ name := "Delete", type := 4, offset := 0, embedded := false, tag := "", pkgPath := "", byteOffset := 0 }, { name := "Key", type := 9, offset := 1, embedded := false, tag := "", pkgPath := "", byteOffset := 8 }, { name := "Value", type := 9, offset := 2, embedded := false, tag := "", pkgPath := "", byteOffset := 24 }] := by kernel_rfl
  have a9 : ∀ W, (isAgg 9).run Tryd.prog W = .ok false W := Tryd.isAgg9
  have a8 : ∀ W, (isAgg 4).run Tryd.prog W = .ok false W := Tryd.isAgg4
  rw [hf]
  unfold strV
  simp only [Op.eqFields, part, Sem.run_bind, a8, Result.andThen_ok, Bool.false_eq_true, if_false, Sem.run_pure, ne_eq, String.reduceEq, not_false_eq_true, if_true, List.getElem?_toArray, List.getElem?_cons_zero, List.getElem?_cons_succ, e8]
  by_cases h0 : d1 = d2
  · subst h0
    by_cases h1 : a1 = a2
    · subst h1
      by_cases h2 : b1 = b2
      · simp [h2, e9, Sem.run_bind, a9]
      · simp [h2, e9, Sem.run_bind, a9]
    · simp [h1, e9, Sem.run_bind, a9]
  · simp [h0]
theorem run_neq_op (p q : Bt.O) (w : World) : (binOp .neq 29 (opV p) (opV q)).run Tryd.prog w = .ok (.bool (!decide (p = q))) w := by
  rw [run_neq_struct, run_equal_op]; rfl
theorem run_eql_op (p q : Bt.O) (w : World) : (binOp .eql 29 (opV p) (opV q)).run Tryd.prog w = .ok (.bool (decide (p = q))) w := by
  rw [run_eql_struct, run_equal_op]; rfl
end Go.Proofs.YtffjleceogablaaDoor
