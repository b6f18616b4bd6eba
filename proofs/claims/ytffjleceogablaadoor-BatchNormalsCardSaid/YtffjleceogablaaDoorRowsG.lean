/-
  Rows of structs in memory, of any number of cells: lists of them that came in, or of one's own; grown, cut, stored into.
-/
import Derived.Test.YtffjleceogablaaDoorQtB
import Derived.Test.YtffjleceogablaaDoorOwn2
import Derived.Test.YtffjleceogablaaDoorRecsB
import Derived.Test.YtffjleceogablaaDoorAppCells
import Derived.WideShapes
namespace Go.Proofs.YtffjleceogablaaDoor
open Go.RowKit Go.WideShapes
set_option maxRecDepth 100000

section
variable {α : Type} {f : α → List Value} {n : Nat} {E : TypeId}
def cellsG (f : α → List Value) (l : List α) : List Value := l.flatMap f
theorem cellsG_cons (x : α) (l : List α) : cellsG f (x :: l) = f x ++ cellsG f l := rfl
theorem cellsG_append (l m : List α) : cellsG f (l ++ m) = cellsG f l ++ cellsG f m := by simp [cellsG]
theorem cellsG_one (x : α) : cellsG f [x] = f x := by simp [cellsG]
theorem cellsG_length (hf : ∀ x, (f x).length = n) : ∀ l : List α, (cellsG f l).length = l.length * n
  | [] => by simp [cellsG]
  | x :: l => by rw [cellsG_cons, List.length_append, hf, cellsG_length hf l, List.length_cons, Nat.succ_mul]; omega
theorem cellsG_get (hf : ∀ x, (f x).length = n) : ∀ {l : List α} {k : Nat} {x : α}, l[k]? = some x → ∀ {j : Nat} {u : Value}, (f x)[j]? = some u → (cellsG f l)[k * n + j]? = some u
  | [], k, x, h, _, _, _ => by simp at h
  | a :: l, 0, x, h, j, u, hj => by
    have e : a = x := by simpa using h
    subst e
    rw [cellsG_cons, Nat.zero_mul, Nat.zero_add, List.getElem?_append_left (List.getElem?_eq_some_iff.1 hj).1]
    exact hj
  | a :: l, k + 1, x, h, j, u, hj => by
    have ih := cellsG_get hf (l := l) (k := k) (x := x) (by simpa using h) hj
    rw [cellsG_cons, show (k + 1) * n + j = (f a).length + (k * n + j) by rw [hf, Nat.succ_mul]; omega, List.getElem?_append_right (by omega), Nat.add_sub_cancel_left]
    exact ih
theorem cellsG_at (hf : ∀ x, (f x).length = n) (hn : 0 < n) : ∀ {l : List α} {j : Nat} {u : Value}, (cellsG f l)[j]? = some u → ∃ x, l[j / n]? = some x ∧ (f x)[j % n]? = some u
  | [], j, u, h => by simp [cellsG] at h
  | a :: l, j, u, h => by
    rw [cellsG_cons] at h
    by_cases hj : j < n
    · rw [List.getElem?_append_left (by rw [hf]; exact hj)] at h
      exact ⟨a, by rw [Nat.div_eq_of_lt hj]; rfl, by rw [Nat.mod_eq_of_lt hj]; exact h⟩
    · rw [List.getElem?_append_right (by rw [hf]; omega), hf] at h
      obtain ⟨x, h1, h2⟩ := cellsG_at hf hn h
      have e1 : j / n = (j - n) / n + 1 := by rw [Nat.div_eq_sub_div hn (by omega)]
      have e2 : j % n = (j - n) % n := Nat.mod_eq_sub_mod (by omega)
      exact ⟨x, by rw [e1]; simpa using h1, by rw [e2]; exact h2⟩
theorem cellsG_one' (h1 : ∀ x, ∀ u ∈ f x, u.oneCell' = true) (l : List α) : ∀ u ∈ cellsG f l, u.oneCell' = true := by
  intro u hu
  unfold cellsG at hu
  obtain ⟨x, _, hx⟩ := List.mem_flatMap.1 hu
  exact h1 x u hx
theorem set_append_l {β : Type} : ∀ (a b : List β) (j : Nat) (u : β), j < a.length → (a ++ b).set j u = a.set j u ++ b
  | [], _, j, _, h => by simp at h
  | x :: a, b, 0, u, _ => rfl
  | x :: a, b, j + 1, u, h => by simp [set_append_l a b j u (by simpa using h)]
theorem set_append_r {β : Type} : ∀ (a b : List β) (j : Nat) (u : β), (a ++ b).set (a.length + j) u = a ++ b.set j u
  | [], b, j, u => by simp
  | x :: a, b, j, u => by
    have ih := set_append_r a b j u
    rw [List.length_cons, show a.length + 1 + j = (a.length + j) + 1 by omega, List.cons_append, List.set_cons_succ, ih, List.cons_append]
/-- A cell of a struct is stored into. -/
theorem cellsG_set (hf : ∀ x, (f x).length = n) : ∀ {l : List α} {i : Nat} {x y : α} {j : Nat} {u : Value}, l[i]? = some x → j < n → (f x).set j u = f y → (cellsG f l).set (i * n + j) u = cellsG f (l.set i y)
  | [], i, x, _, _, _, h, _, _ => by simp at h
  | a :: l, 0, x, y, j, u, h, hj, e => by
    have h0 : a = x := by simpa using h
    subst h0
    rw [cellsG_cons, Nat.zero_mul, Nat.zero_add, set_append_l _ _ _ _ (by rw [hf]; exact hj), e]
    rfl
  | a :: l, i + 1, x, y, j, u, h, hj, e => by
    have ih := cellsG_set hf (l := l) (i := i) (by simpa using h) hj e
    rw [cellsG_cons, show (i + 1) * n + j = (f a).length + (i * n + j) by rw [hf, Nat.succ_mul]; omega, set_append_r, ih]
    rfl

/-! ### In memory -/
theorem recs_turn {W W' : World} {v : Value} {g off : Nat} {l : List α} (h : Recs n f W v g off l) (q : Qt W W') : Recs n f W' v g off l := ⟨h.val, h.le, fun k o hk j u hj => q.cellv (h.cells k o hk j u hj)⟩
theorem recs_kept {S : Nat → Prop} {W W' : World} {v : Value} {g off : Nat} {l : List α} (h : Recs n f W v g off l) (q : Keeps S W W') (hS : l ≠ [] → ¬ S g) : Recs n f W' v g off l := ⟨h.val, h.le, fun k o hk j u hj => q.cellv (h.cells k o hk j u hj) (hS (by rintro rfl; simp at hk))⟩
theorem recs_lt (hn : 0 < n) (hf : ∀ x, (f x).length = n) {W : World} {v : Value} {g off : Nat} {l : List α} (h : Recs n f W v g off l) (hl : l ≠ []) : g < W.heap.size := by
  obtain ⟨x, r, rfl⟩ := List.exists_cons_of_ne_nil hl
  exact World.block_lt_of_cell? W _ (h.cells 0 x rfl 0 ((f x)[0]'(by rw [hf]; exact hn)) (List.getElem?_eq_getElem _))
theorem recs_news (hf : ∀ x, (f x).length = n) (hn : 0 < n) {W : World} {a : Option Addr} {m c g o : Nat} {l : List α} (h : Recs n f W (.slice a m c) g o l) : cellsG f l ≠ [] → ∃ p, a = some p ∧ ∀ (j : Nat) (u : Value), (cellsG f l)[j]? = some u → W.cell? (p.add j) = some u := by
  intro hne
  have hl : l ≠ [] := by rintro rfl; exact hne rfl
  obtain ⟨a', cap, e, ha⟩ := h.val
  injection e with e1 e2 e3
  refine ⟨⟨g, o, none⟩, e1.trans (ha hl), fun j u hj => ?_⟩
  rw [add_plain]
  obtain ⟨x, h1, h2⟩ := cellsG_at hf hn hj
  have := h.cells _ x h1 _ u h2
  rwa [show o + j / n * n + j % n = o + j by rw [Nat.add_assoc, Nat.mul_comm, Nat.div_add_mod]] at this
/-- Rows of the call's own; nothing of w has turned. -/
structure NewG (f : α → List Value) (n : Nat) (E : TypeId) (w wr : World) (v : Value) (l : List α) : Prop where
  own : wr.ownsRow 0 E n v l.length (cellsG f l)
  new : ∀ g, v.ownBlock = some g → w.heap.size ≤ g
  qt : Qt w wr
theorem NewG.quiet {w wr w2 : World} {v : Value} {l : List α} (h : NewG f n E w wr v l) (k : Qt wr w2) : NewG f n E w w2 v l := ⟨ownsRow_kept h.own k (fun _ _ e => e), h.new, Qt.trans h.qt k⟩
theorem ownG_cells (hf : ∀ x, (f x).length = n) {w : World} {g N m c : Nat} {l k : List α} (h : w.ownsRow 0 E n (.slice (some ⟨g, 0, none⟩) N c) m (cellsG f (l ++ k))) {i : Nat} {x : α} (hi : l[i]? = some x) {j : Nat} {u : Value} (hj : (f x)[j]? = some u) : w.cell? ⟨g, i * n + j, none⟩ = some u := by
  have hc := (World.ownsRowF_of h).cells (g := g) rfl _ u (cellsG_get hf (l := l ++ k) (k := i) (x := x) (by rw [List.getElem?_append_left (List.getElem?_eq_some_iff.1 hi).1]; exact hi) hj)
  rwa [add_plain, Nat.zero_add] at hc
theorem ownG_frozen {w : World} {g N m c : Nat} {xs : List Value} (h : w.ownsRow 0 E n (.slice (some ⟨g, 0, none⟩) N c) m xs) (j : Nat) : w.frozen? ⟨g, j, none⟩ = false := by
  rcases h.2 with ⟨h2, _⟩ | ⟨g', cap', cur, e2, hb, hg, _⟩
  · cases h2
  · injection e2 with e2 e3 e4
    injection e2 with e2
    injection e2 with e2
    subst e2
    exact Lib.frozen_of_heap hg j
theorem ownG_cell1 (hf : ∀ x, (f x).length = n) {w : World} {g N m c : Nat} {l : List α} (h : w.ownsRow 0 E n (.slice (some ⟨g, 0, none⟩) N c) m (cellsG f l)) {i : Nat} {x : α} (hi : l[i]? = some x) {j : Nat} {u : Value} (hj : (f x)[j]? = some u) : w.cell? ⟨g, i * n + j, none⟩ = some u :=
  ownG_cells hf (l := l) (k := []) (by rw [List.append_nil]; exact h) hi hj
theorem ownG_in (hf : ∀ x, (f x).length = n) {w : World} {v : Value} {l : List α} (h : w.ownsRow 0 E n v l.length (cellsG f l)) (hl : l.length ≤ 17592186044416) : ∃ g, Recs n f w v g 0 l ∧ ∀ x, v.ownBlock = some x → x = g := by
  rcases h.2 with ⟨e, h0⟩ | ⟨g, cap, cur, e, _⟩
  · have h1 : l = [] := List.length_eq_zero_iff.1 h0
    subst h1
    exact ⟨0, ⟨⟨none, 0, e, fun h => absurd rfl h⟩, hl, fun k o hk => by simp at hk⟩, fun x hx => by rw [e] at hx; cases hx⟩
  · subst e
    refine ⟨g, ⟨⟨_, cap, rfl, fun _ => rfl⟩, hl, fun k o hk j u hj => ?_⟩, fun x hx => by injection hx with hx; exact hx.symm⟩
    have hc := (World.ownsRowF_of h).cells (g := g) rfl _ u (cellsG_get hf hk hj)
    rw [add_plain, Nat.zero_add] at hc
    rw [Nat.zero_add]
    exact hc
theorem ownG_shape {w : World} {v : Value} {m : Nat} {xs : List Value} (h : w.ownsRow 0 E n v m xs) : ∃ a c, v = .slice a m c := by
  rcases h.2 with ⟨e, h0⟩ | ⟨g, cap, cur, e, _⟩
  · exact ⟨none, 0, by rw [e, h0]⟩
  · exact ⟨_, _, e⟩
theorem ownG_some {w : World} {a : Option Addr} {m c k : Nat} {xs : List Value} (h : w.ownsRow 0 E n (.slice a m c) k xs) (hk : 0 < k) : ∃ g, a = some ⟨g, 0, none⟩ := by
  rcases h.2 with ⟨_, h0⟩ | ⟨g, cap, cur, e, _⟩
  · omega
  · injection e with e; exact ⟨g, e⟩
theorem ownG_cap {w : World} {a : Option Addr} {k m c : Nat} {xs : List Value} (h : w.ownsRow 0 E n (.slice a k c) m xs) : m ≤ c ∧ (a = none ∨ ∃ g, a = some ⟨g, 0, none⟩) := by
  rcases h.2 with ⟨e, h0⟩ | ⟨g, cap, cur, e, hb, hg, hnc, _⟩
  · injection e with e1 e2 e3
    exact ⟨by omega, .inl e1⟩
  · injection e with e1 e2 e3
    exact ⟨by omega, .inr ⟨g, e1⟩⟩
theorem ownG_take (hf : ∀ x, (f x).length = n) {W : World} {g N m c : Nat} {l k : List α} (h : W.ownsRow 0 E n (.slice (some ⟨g, 0, none⟩) N c) m (cellsG f (l ++ k))) (hl : l.length ≤ 17592186044416) (c' : Nat) : Recs n f W (.slice (some ⟨g, 0, none⟩) l.length c') g 0 l :=
  ⟨⟨_, c', rfl, fun _ => rfl⟩, hl, fun j r hj i u hi => by
    have := ownG_cells hf h hj hi
    rwa [Nat.zero_add]⟩
/-- The row with rows more, all of one's own since W. -/
theorem ownG_more {W x y : World} {v v' : Value} {m : Nat} {l k : List α} {xs : List Value} (hv : ∀ g, v.ownBlock = some g → W.heap.size ≤ g) (q : Qt W x) (hn : m = (l ++ k).length) (hx : xs = cellsG f (l ++ k))
    (own : y.ownsRow 0 E n v' m xs) (gr : x.grownBy y v.ownBlock) (la : Later x v.ownBlock v'.ownBlock) :
    NewG f n E W y v' (l ++ k) := by
  have hz := q.size
  refine ⟨by rw [← hn, ← hx]; exact own, fun g e => ?_, Keeps.grown q gr (fun j hj e => by have := hv j e.symm; omega)⟩
  rcases la with r | ⟨x', r, hx'⟩
  · exact hv g (r ▸ e)
  · rw [r] at e
    injection e with e
    subst e
    omega
/-- One cell stored into a row of one's own. -/
theorem ownG_set (hf : ∀ x, (f x).length = n) {W : World} {g m c i j : Nat} {l : List α} {x y : α} {u : Value} (h : W.ownsRow 0 E n (.slice (some ⟨g, 0, none⟩) m c) m (cellsG f l)) (hi : l[i]? = some x) (hj : j < n) (e : (f x).set j u = f y) : (W.setCell ⟨g, i * n + j, none⟩ u).ownsRow 0 E n (.slice (some ⟨g, 0, none⟩) m c) m (cellsG f (l.set i y)) := by
  rw [← cellsG_set hf hi hj e]
  exact ownsRow_set h u
end
theorem newsG (W : World) (xs : List Value) (t : TypeId) : ∀ (j : Nat) (u : Value), xs[j]? = some u → (W.alloc (.cells xs.toArray t)).cell? ((⟨W.heap.size, 0, none⟩ : Addr).add j) = some u := by
  intro j u h
  rw [add_plain, Nat.zero_add, cell_of_row _ _ _ _ _ _ (heap_alloc_new W (.cells xs.toArray t)), ← h]
  simp
end Go.Proofs.YtffjleceogablaaDoor
