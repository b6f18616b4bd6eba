/-
  Rows (api.Row) in memory: a row's cells, a list of rows, rows of the call's own; held one against the other.
  An iterator over rows, and what remitlaw11.gather collects of it.
-/
import Derived.Test.YtadocleollndfaaP01
import Derived.Test.YtadocleollndfaaP02
import Derived.Test.YtadocleollndfaaP03
import Derived.WideShapes
import Derived.Laws.StructEq
import Derived.Laws.Rows
import Derived.RangeFuncBox
import Derived.RangeFuncLeaves
import Derived.RangeFuncNested
import Derived.Shelf.Abstract
import Derived.WalkKit
import Derived.OwnWalkIn
import Derived.TacticsInMore
import Derived.LoopNIn
import Derived.LoopIn
import Derived.Maps.AppendAt
import Derived.Maps.OwnIn
namespace Go.Proofs.Ytadocleollndfaa
open Go.RowKit Go.WideShapes
set_option maxRecDepth 100000

abbrev rowV (r : Tb.R) : Value := .agg #[strV r.1, strV r.2]
def rowC (r : Tb.R) : List Value := [strV r.1, strV r.2]
def rowsC (l : List Tb.R) : List Value := l.flatMap rowC
theorem infoRow : (Try.prog.info? 36).map (fun i => (i.zero, i.size, i.bytes)) = some (some (.agg #[.string ⟨#[]⟩, .string ⟨#[]⟩]), 2, 32) := by kernel_rfl
theorem rowsC_length (l : List Tb.R) : (rowsC l).length = l.length * 2 := by
  induction l with
  | nil => rfl
  | cons r l ih =>
    unfold rowsC at *
    rw [List.flatMap_cons, List.length_append, ih, List.length_cons]
    show 2 + _ = _
    omega
theorem rowsC_append (l m : List Tb.R) : rowsC (l ++ m) = rowsC l ++ rowsC m := by simp [rowsC]
theorem rowsC_one (r : Tb.R) : rowsC [r] = [strV r.1, strV r.2] := by simp [rowsC, rowC]
theorem rowsC_get : ∀ {l : List Tb.R} {k : Nat} {r : Tb.R}, l[k]? = some r → ∀ {j : Nat} {u : Value}, (rowC r)[j]? = some u → (rowsC l)[k * 2 + j]? = some u
  | [], k, r, h, _, _, _ => by simp at h
  | a :: l, 0, r, h, j, u, hj => by
    have e : a = r := by simpa using h
    subst e
    unfold rowsC
    rw [List.flatMap_cons, Nat.zero_mul, Nat.zero_add, List.getElem?_append_left (List.getElem?_eq_some_iff.1 hj).1]
    exact hj
  | a :: l, k + 1, r, h, j, u, hj => by
    have ih := rowsC_get (l := l) (k := k) (r := r) (by simpa using h) hj
    unfold rowsC at *
    have hl : (rowC a).length = 2 := rfl
    rw [List.flatMap_cons, show (k + 1) * 2 + j = (rowC a).length + (k * 2 + j) by rw [hl]; omega, List.getElem?_append_right (by omega), Nat.add_sub_cancel_left]
    exact ih
theorem rowsC_one' (l : List Tb.R) : ∀ u ∈ rowsC l, u.oneCell' = true := by
  intro u hu
  unfold rowsC at hu
  obtain ⟨r, _, hr⟩ := List.mem_flatMap.1 hu
  simp only [rowC, List.mem_cons, List.not_mem_nil, or_false] at hr
  rcases hr with rfl | rfl <;> rfl
/-- A list of rows that came in, or was made. -/
abbrev RowsIn (W : World) (v : Value) (g off : Nat) (l : List Tb.R) : Prop := Recs 2 rowC W v g off l
/-- Rows of the call's own; nothing of w has turned. -/
structure NewR (w wr : World) (v : Value) (l : List Tb.R) : Prop where
  own : wr.ownsRow 0 36 2 v l.length (rowsC l)
  new : ∀ g, v.ownBlock = some g → w.heap.size ≤ g
  qt : Qt w wr
theorem NewR.quiet {w wr w2 : World} {v : Value} {l : List Tb.R} (h : NewR w wr v l) (k : Qt wr w2) : NewR w w2 v l := ⟨ownsRow_kept h.own k (fun _ _ e => e), h.new, Qt.trans h.qt k⟩
theorem ownR_rows {w : World} {v : Value} {l : List Tb.R} (h : w.ownsRow 0 36 2 v l.length (rowsC l)) (hl : l.length ≤ 17592186044416) : ∃ g, RowsIn w v g 0 l ∧ ∀ x, v.ownBlock = some x → x = g := by
  rcases h.2 with ⟨e, h0⟩ | ⟨g, cap, cur, e, _⟩
  · have h1 : l = [] := List.length_eq_zero_iff.1 h0
    subst h1
    exact ⟨0, ⟨⟨none, 0, e, fun h => absurd rfl h⟩, hl, fun k o hk => by simp at hk⟩, fun x hx => by rw [e] at hx; cases hx⟩
  · subst e
    refine ⟨g, ⟨⟨_, cap, rfl, fun _ => rfl⟩, hl, fun k o hk j u hj => ?_⟩, fun x hx => by injection hx with hx; exact hx.symm⟩
    have hc := (World.ownsRowF_of h).cells (g := g) rfl _ u (rowsC_get hk hj)
    rw [add_plain, Nat.zero_add] at hc
    rw [Nat.zero_add]
    exact hc
theorem NewR.rows {w wr : World} {v : Value} {l : List Tb.R} (h : NewR w wr v l) (hl : l.length ≤ 17592186044416) : ∃ g, RowsIn wr v g 0 l := by
  obtain ⟨g, h1, _⟩ := ownR_rows h.own hl
  exact ⟨g, h1⟩
theorem RowsIn.turn {W W' : World} {v : Value} {g off : Nat} {l : List Tb.R} (h : RowsIn W v g off l) (q : Qt W W') : RowsIn W' v g off l := ⟨h.val, h.le, fun k o hk j u hj => q.cellv (h.cells k o hk j u hj)⟩
theorem RowsIn.kept {S : Nat → Prop} {W W' : World} {v : Value} {g off : Nat} {l : List Tb.R} (h : RowsIn W v g off l) (q : Keeps S W W') (hS : l ≠ [] → ¬ S g) : RowsIn W' v g off l := ⟨h.val, h.le, fun k o hk j u hj => q.cellv (h.cells k o hk j u hj) (hS (by rintro rfl; simp at hk))⟩
theorem RowsIn.cell {W : World} {v : Value} {g off : Nat} {l : List Tb.R} (h : RowsIn W v g off l) {k : Nat} {r : Tb.R} (hk : l[k]? = some r) : W.cell? ⟨g, off + k * 2, none⟩ = some (strV r.1) ∧ W.cell? ⟨g, off + k * 2 + 1, none⟩ = some (strV r.2) :=
  ⟨h.cells k r hk 0 _ rfl, h.cells k r hk 1 _ rfl⟩

/-! ### Rows held against one another -/
theorem strV_inj {a b : List UInt8} : strV a = strV b ↔ a = b := by
  unfold strV
  constructor
  · intro h
    injection h with h
    injection h with h
    exact Array.toList_inj.2 h |> fun e => by simpa using e
  · rintro rfl; rfl
theorem str_beq (a b : List UInt8) : ((⟨a.toArray⟩ : ByteArray).toList == (⟨b.toArray⟩ : ByteArray).toList) = decide (a = b) := by
  rw [Bool.eq_iff_iff]
  simp only [beq_iff_eq, decide_eq_true_eq, ByteArray.toList_eq]
theorem run_equal_row (p q : Tb.R) (w : World) : (Op.equalIn 10000 36 (rowV p) (rowV q)).run Try.prog w = .ok (decide (p = q)) w := by
  obtain ⟨a1, b1⟩ := p
  obtain ⟨a2, b2⟩ := q
  have hs : (decide (((a1, b1) : Tb.R) = (a2, b2))) = (decide (a1 = a2) && decide (b1 = b2)) := by
    rw [Bool.eq_iff_iff]
    simp
  have hp : Try.prog.stoodInHeld 36 = false := by kernel_rfl
  have ht : Try.prog.underlying 36 = some (.struct (Try.prog.fieldsOf 36)) := by kernel_rfl
  rw [hs, run_equalIn_struct w 9999 _ _ _ ht hp]
  have e9 := fun (a b : ByteArray) => run_equalIn_string (P := Try.prog) w 9998 9 a b Try.underlying9
  have hf : (Try.prog.fieldsOf 36).toList = [{ name := "Key", type := 9, offset := 0, embedded := false, tag := "", pkgPath := "", byteOffset := 0 }, { name := "Value", type := 9, offset := 1, embedded := false, tag := "", pkgPath := "", byteOffset := 16 }] := by kernel_rfl
  have a9 : ∀ W, (isAgg 9).run Try.prog W = .ok false W := Try.isAgg9
  rw [hf]
  unfold strV
  simp only [Op.eqFields, part, Sem.run_bind, a9, Result.andThen_ok, Bool.false_eq_true, if_false, Sem.run_pure, ne_eq, String.reduceEq, not_false_eq_true, if_true, List.getElem?_toArray, List.getElem?_cons_zero, List.getElem?_cons_succ, e9, str_beq]
  by_cases h1 : a1 = a2
  · subst h1
    by_cases h2 : b1 = b2
    · simp [h2, e9, Sem.run_bind]
    · simp [h2, e9, Sem.run_bind]
  · simp [h1]
theorem run_neq_row (p q : Tb.R) (w : World) : (binOp .neq 36 (rowV p) (rowV q)).run Try.prog w = .ok (.bool (!decide (p = q))) w := by
  rw [run_neq_struct, run_equal_row]; rfl
theorem run_eql_row (p q : Tb.R) (w : World) : (binOp .eql 36 (rowV p) (rowV q)).run Try.prog w = .ok (.bool (decide (p = q))) w := by
  rw [run_eql_struct, run_equal_row]; rfl
end Go.Proofs.Ytadocleollndfaa
namespace Go.Proofs.Ytadocleollndfaa
open Go.RowKit Go.Shelf Go.WideShapes
attribute [local go_sem] Oper.semAt_some
set_option maxRecDepth 100000

def encR (r : Tb.R) : Array Value := #[strV r.1, strV r.2]
/-- What a round that goes on keeps: the iterator's own blocks. -/
def KpX (X : Nat → Prop) (A B : World) : Prop := Keeps (fun k => ¬ X k) A B
/-- What a loop's body calls its own is told by what lies below n0. -/
structure OwnsO (n0 : Nat) (Ow : World → Nat → Prop) : Prop where
  below : ∀ {A B : World} {k : Nat}, Below n0 A B → Ow B k → Ow A k
/-- What a round that goes on keeps: all cells but the body's own; what it takes for its own besides is new. -/
structure KpO (Ow : World → Nat → Prop) (A B : World) : Prop where
  size : A.heap.size ≤ B.heap.size
  block : ∀ k o, A.heap[k]? = some o → o.isCells = true → ¬ Ow A k → B.heap[k]? = some o
  own : ∀ k, Ow B k → Ow A k ∨ (A.heap.size ≤ k ∧ k < B.heap.size)
/-- A function over just these rows, in every world in which the blocks X lie as they lay, for every body that leaves what isn't its own. -/
def IterV (X : Nat → Prop) (w : World) (fv : Value) (l : List Tb.R) : Prop :=
  (∀ k, X k → k < w.heap.size) ∧ ∃ gf lb, fv = .func (.func gf) #[] lb ∧ (∀ args W, (callFunc gf args).run Try.prog W = .ok (.enter gf args) W) ∧
    ∀ n, 1 ≤ n → ∀ W, Keeps (fun k => ¬ X k) w W → ∀ (n0 : Nat) (Ow : World → Nat → Prop), OwnsO n0 Ow → n0 ≤ W.heap.size → (∀ k, Ow W k → k < W.heap.size ∧ ¬ X k) →
      SeqStopsK Fence.wide n Try.prog gf lb encR (KpO Ow) (fun ys => ys = l) (fun pre => pre <+: l) l.length W
section
variable {Ow : World → Nat → Prop} {n0 : Nat}
theorem lt_of_heap {W : World} {k : Nat} {o : Obj} (h : W.heap[k]? = some o) : k < W.heap.size := (Array.getElem?_eq_some_iff.1 h).1
theorem KpO.refl (W : World) : KpO Ow W W := ⟨Nat.le_refl _, fun _ _ h _ _ => h, fun _ h => .inl h⟩
theorem KpO.trans {A B C : World} (h : KpO Ow A B) (k : KpO Ow B C) : KpO Ow A C :=
  ⟨Nat.le_trans h.size k.size, fun j o hj hc hn => k.block j o (h.block j o hj hc hn) hc (fun e => by
    rcases h.own j e with e | e
    · exact hn e
    · have := lt_of_heap hj; omega), fun j hj => by
    have h1 := h.size
    have h2 := k.size
    rcases k.own j hj with e | e
    · rcases h.own j e with e | e
      · exact .inl e
      · exact .inr ⟨e.1, by omega⟩
    · exact .inr ⟨by omega, e.2⟩⟩
theorem KpO.put (g : OwnsO n0 Ow) (W : World) (l : Nat) (o o' : Obj) (hl : n0 ≤ l) (h : W.heap[l]? = some o) (hc : o.isCells = false) (_ : o.isWalk = false) : KpO Ow W (W.putObj l o') := by
  have hb : Below n0 W (W.putObj l o') := (Below.refl n0 W).grown (grownBy_putObj' W l o') (by have := lt_of_heap h; omega) (fun _ e => by cases e; omega)
  refine ⟨hb.size, fun k x hk hx _ => ?_, fun k hk => .inl (g.below hb hk)⟩
  have hne : k ≠ l := by
    rintro rfl
    rw [h] at hk
    injection hk with hk
    rw [hk, hx] at hc
    cases hc
  rw [World.putObj_heap_other hne]
  exact hk
theorem KpO.qt (g : OwnsO n0 Ow) {A B : World} (hn : n0 ≤ A.heap.size) (q : Keeps (fun _ => False) A B) : KpO Ow A B :=
  ⟨q.size, fun k _ hk _ _ => (q.block k (lt_of_heap hk) (fun e => e)).trans hk, fun _ hk => .inl (g.below ((Keeps.below q (Nat.le_refl _) (fun _ _ e => e)).mono hn) hk)⟩
/-- The body's own: a box, and the row that the slice in it shows. -/
def BoxOw (B : Nat) (W : World) (k : Nat) : Prop := k = B ∨ ∃ v, W.cell? ⟨B, 0, none⟩ = some v ∧ v.ownBlock = some k
theorem boxOw {B : Nat} (hB : B < n0) : OwnsO n0 (BoxOw B) := ⟨fun hb h => by
  rcases h with h | ⟨v, h, e⟩
  · exact .inl h
  · exact .inr ⟨v, by rw [← hb.cell (p := ⟨B, 0, none⟩) hB]; exact h, e⟩⟩
theorem boxOw_step {W W' : World} {B : Nat} {t : TypeId} {v v' : Value} (h : Boxed W B t v) (h' : Boxed W' B t v') (K : Keeps (fun k => k = B ∨ v.ownBlock = some k) W W') (hv : ∀ x, v'.ownBlock = some x → v.ownBlock = some x ∨ (W.heap.size ≤ x ∧ x < W'.heap.size)) : KpO (BoxOw B) W W' := by
  refine ⟨K.size, fun k _ hk _ hn => (K.block k (lt_of_heap hk) (fun e => hn ?_)).trans hk, fun k hk => ?_⟩
  · rcases e with e | e
    · exact .inl e
    · exact .inr ⟨v, h.cell, e⟩
  · rcases hk with hk | ⟨u, hu, e⟩
    · exact .inl (.inl hk)
    · rw [h'.cell] at hu
      injection hu with hu
      subst hu
      rcases hv k e with e | e
      · exact .inl (.inr ⟨v, h.cell, e⟩)
      · exact .inr e
end
theorem KpX.trans {X : Nat → Prop} {A B C : World} (h : KpX X A B) (k : KpX X B C) : KpX X A C := Keeps.trans h k (fun _ _ e => e)
theorem KpX.put {X : Nat → Prop} {w : World} {B : Nat} (hX : ∀ k, X k → k < B) (hw : B ≤ w.heap.size) (W : World) (l : Nat) (o o' : Obj) (hl : w.heap.size ≤ l) (_ : W.heap[l]? = some o) (_ : o.isCells = false) (_ : o.isWalk = false) : KpX X W (W.putObj l o') :=
  Keeps.grown (Keeps.refl _ W) (grownBy_putObj' _ _ _) (fun k _ e hk => by injection e with e; have := hX k hk; omega)
theorem KpX.of_qt {X : Nat → Prop} {A B : World} (h : Keeps (fun _ => False) A B) : KpX X A B := Keeps.mono h (fun _ _ e => e.elim)
theorem KpX.of_below {X : Nat → Prop} {B : Nat} {A C : World} (hX : ∀ k, X k → k < B) (h : Below B A C) : KpX X A C := (Keeps.of_below h).mono (fun k _ e hk => by have := hX k hk; omega)
theorem IterV.turn {X : Nat → Prop} {w w' : World} {fv : Value} {l : List Tb.R} (h : IterV X w fv l) (K : Keeps (fun k => ¬ X k) w w') : IterV X w' fv l := by
  obtain ⟨hX, gf, lb, e, h1, h2⟩ := h
  exact ⟨fun k hk => Nat.lt_of_lt_of_le (hX k hk) K.size, gf, lb, e, h1, fun n hn W q n0 Ow g h0 h3 => h2 n hn W (KpX.trans K q) n0 Ow g h0 h3⟩
theorem eqIn_func_nilR (d : Nat) (gf : FuncId) (lb : Array Value) (W : World) : (Op.equalIn (d + 1) 29 (.func (.func gf) #[] lb) .nilFunc).run Try.prog W = .ok false W := by
  simp [Op.equalIn, run_underlying Try.underlying29]
theorem func_nilR (gf : FuncId) (lb : Array Value) (W : World) : (binOp .eql 29 (.func (.func gf) #[] lb) .nilFunc).run Try.prog W = .ok (.bool false) W := by
  have h : (Op.equal 29 (.func (.func gf) #[] lb) .nilFunc).run Try.prog W = .ok false W := eqIn_func_nilR 9999 gf lb W
  simp only [binOp]
  simp [h]
/-! ### Boxes -/
theorem boxR_other {W : World} {B C : Nat} {t : TypeId} {v x : Value} (h : Boxed W B t v) (hne : B ≠ C) : Boxed (W.setCell ⟨C, 0, none⟩ x) B t v := by
  unfold Boxed at h ⊢
  simp only [World.setCell, Array.getElem?_modify]
  rw [if_neg (fun e => hne e.symm)]
  exact h
theorem boxR_set {W : World} {B : Nat} {t : TypeId} {v x : Value} (h : Boxed W B t v) : Boxed (W.setCell ⟨B, 0, none⟩ x) B t x := by
  unfold Boxed at h ⊢
  simp only [World.setCell, Array.getElem?_modify, h, if_true, Option.map_some]
  rfl
theorem boxR_qt {W W' : World} {B : Nat} {t : TypeId} {v : Value} (h : Boxed W B t v) (q : Qt W W') : Boxed W' B t v := (q.block B h.lt (fun e => e)).trans h
theorem boxR_put {W : World} {B D : Nat} {t : TypeId} {v : Value} {o : Obj} (h : Boxed W B t v) (hne : D ≠ B) : Boxed (W.putObj D o) B t v := by
  unfold Boxed at h ⊢
  rw [World.putObj_heap_other (fun e => hne e.symm)]
  exact h
theorem isAggRows (w : World) : (isAgg 22).run Try.prog w = .ok false w := run_isAgg_plain Try.underlying22 rfl w
theorem isAggBool (w : World) : (isAgg 4).run Try.prog w = .ok false w := run_isAgg_plain Try.underlying4 rfl w
theorem resultsR_cell2 {fn : Func} {p q : Tmp} {t u : TypeId} (h : fn.results = #[.cell p t, .cell q u]) (tmps : Array Value) (P : Program) (w : World) {a b : Addr} {x y : Value}
    (hp : tmps.getD p undef = .pointer (some a)) (hq : tmps.getD q undef = .pointer (some b)) (ht : (isAgg t).run P w = .ok false w) (hu : (isAgg u).run P w = .ok false w)
    (hx : w.cell? a = some x) (hy : w.cell? b = some y) : (results fn tmps).run P w = .ok (.tuple #[x, y]) w := by
  have hp' : tmps[p]?.getD undef = .pointer (some a) := by simpa using hp
  have hq' : tmps[q]?.getD undef = .pointer (some b) := by simpa using hq
  simp [results, h, hp', hq', asAddr, loadVar, Sem.run_bind, ht, hu, hx, hy, Result.andThen]
theorem news2 (W : World) (x y : Value) (t : TypeId) : ∀ (j : Nat) (u : Value), [x, y][j]? = some u → (W.alloc (.cells #[x, y] t)).cell? ((⟨W.heap.size, 0, none⟩ : Addr).add j) = some u := by
  intro j u h
  rw [add_plain, Nat.zero_add, cell_of_row _ _ _ _ _ _ (heap_alloc_new W (.cells #[x, y] t)), ← h]
  simp
theorem row_new0 (W : World) : (W.alloc (.cells #[] 36)).ownsRow 0 36 2 (.slice (some ⟨W.heap.size, 0, none⟩) 0 0) 0 [] :=
  ⟨rfl, .inr ⟨W.heap.size, 0, #[], rfl, Nat.zero_le _, heap_alloc_new W _, Nat.le_refl _, by decide, rfl, rfl⟩⟩
end Go.Proofs.Ytadocleollndfaa
