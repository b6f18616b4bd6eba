/-
  For TableOwns: rows written over, marked, grown.
-/
import Derived.Test.YtadocleollndfaaP09
import Derived.Test.YtadocleollndfaaP06
import Derived.Test.YtadocleollndfaaP08
namespace Go.Proofs.Ytadocleollndfaa
open Go.RowKit Go.WideShapes
set_option maxRecDepth 100000

theorem set_mid {α : Type} : ∀ (a : List α) (x y u v : α) (b : List α), ((a ++ x :: y :: b).set a.length u).set (a.length + 1) v = a ++ u :: v :: b
  | [], x, y, u, v, b => rfl
  | z :: a, x, y, u, v, b => by
    have ih := set_mid a x y u v b
    simp only [List.cons_append, List.length_cons, List.set_cons_succ]
    rw [ih]
theorem rowsC_cons (r : Tb.R) (l : List Tb.R) : rowsC (r :: l) = strV r.1 :: strV r.2 :: rowsC l := by simp [rowsC, rowC]
/-- The rows up to i are x by now. -/
def mixR (x : Tb.R) (rows sfx : List Tb.R) (i : Nat) : List Tb.R := List.replicate i x ++ rows.drop i ++ sfx
theorem mixR_zero (x : Tb.R) (rows sfx : List Tb.R) : mixR x rows sfx 0 = rows ++ sfx := by simp [mixR]
theorem mixR_all (x : Tb.R) (rows sfx : List Tb.R) : mixR x rows sfx rows.length = List.replicate rows.length x ++ sfx := by simp [mixR]
theorem mixR_set (x : Tb.R) (rows sfx : List Tb.R) {i : Nat} (h : i < rows.length) : ((rowsC (mixR x rows sfx i)).set (i * 2) (strV x.1)).set (i * 2 + 1) (strV x.2) = rowsC (mixR x rows sfx (i + 1)) := by
  unfold mixR
  rw [List.drop_eq_getElem_cons h, List.replicate_succ', rowsC_append, rowsC_append, rowsC_append, rowsC_append, rowsC_append, rowsC_one]
  have e := rowsC_cons rows[i] (rows.drop (i + 1))
  have hl : (rowsC (List.replicate i x)).length = i * 2 := by rw [rowsC_length, List.length_replicate]
  rw [e, List.append_assoc, List.cons_append, List.cons_append, ← hl, set_mid]
  simp
/-- A store of a row into a row of rows. -/
theorem own_store {W : World} {g n c : Nat} {x : Tb.R} {rows sfx : List Tb.R} {i : Nat} (h : W.ownsRow 0 36 2 (.slice (some ⟨g, 0, none⟩) n c) n (rowsC (mixR x rows sfx i))) (hi : i < rows.length) :
    ((W.setCell ⟨g, i * 2, none⟩ (strV x.1)).setCell ⟨g, i * 2 + 1, none⟩ (strV x.2)).ownsRow 0 36 2 (.slice (some ⟨g, 0, none⟩) n c) n (rowsC (mixR x rows sfx (i + 1))) := by
  rw [← mixR_set x rows sfx hi]
  exact ownsRow_set (ownsRow_set h _) _
theorem own_cell {W : World} {g n c j : Nat} {xs : List Value} (h : W.ownsRow 0 36 2 (.slice (some ⟨g, 0, none⟩) n c) n xs) (hj : j < n * 2) : ∃ v, W.cell? ⟨g, j, none⟩ = some v ∧ W.frozen? ⟨g, j, none⟩ = false := by
  rcases h.2 with ⟨e, _⟩ | ⟨g', cap, cur, e, _, hb, hl, _, hs, _⟩
  · cases e
  · injection e with e1 e2 e3
    injection e1 with e1
    injection e1 with e1
    subst e1 e3
    have hlt : j < cur.size := by rw [hs]; omega
    exact ⟨cur[j], by rw [cell_of_row _ _ _ _ _ _ hb]; exact Array.getElem?_eq_getElem hlt, by simp [World.frozen?, hb]⟩
/-- What a loop of stores keeps. -/
def MvAt (w5 : World) (v : Value) (n : Nat) (x : Tb.R) (rows sfx : List Tb.R) (iv : Value) (wr : World) : Prop :=
  ∃ i : Nat, i ≤ rows.length ∧ iv = .int .i64 i ∧ wr.ownsRow 0 36 2 v n (rowsC (mixR x rows sfx i)) ∧ Keeps (fun k => v.ownBlock = some k) w5 wr
theorem mv_more {w5 wr : World} {g n c i : Nat} {x : Tb.R} {rows sfx : List Tb.R} (hi : i < rows.length) (h : wr.ownsRow 0 36 2 (.slice (some ⟨g, 0, none⟩) n c) n (rowsC (mixR x rows sfx i))) (K : Keeps (fun k => (Value.slice (some ⟨g, 0, none⟩) n c).ownBlock = some k) w5 wr) :
    MvAt w5 (.slice (some ⟨g, 0, none⟩) n c) n x rows sfx (.int .i64 ((i : Int) + 1)) ((wr.setCell ⟨g, i * 2, none⟩ (strV x.1)).setCell ⟨g, i * 2 + 1, none⟩ (strV x.2)) :=
  ⟨i + 1, hi, by push_cast; rfl, own_store h hi, Keeps.setCell (p := ⟨g, i * 2 + 1, none⟩) (Keeps.setCell (p := ⟨g, i * 2, none⟩) K (fun _ => rfl) _) (fun _ => rfl) _⟩
/-- A shorter slice of rows of one's own. -/
theorem own_take {W : World} {g n c : Nat} {l k : List Tb.R} (h : W.ownsRow 0 36 2 (.slice (some ⟨g, 0, none⟩) n c) n (rowsC (l ++ k))) (hl : l.length ≤ 17592186044416) (c' : Nat) : RowsIn W (.slice (some ⟨g, 0, none⟩) l.length c') g 0 l := by
  refine ⟨⟨_, c', rfl, fun _ => rfl⟩, hl, fun j r hj i u hi => ?_⟩
  have hc := (World.ownsRowF_of h).cells (g := g) rfl (j * 2 + i) u (by
    rw [rowsC_append, List.getElem?_append_left (by
      have h1 := (List.getElem?_eq_some_iff.1 hj).1
      have h2 := (List.getElem?_eq_some_iff.1 hi).1
      have h3 : (rowC r).length = 2 := rfl
      rw [rowsC_length]; omega)]
    exact rowsC_get hj hi)
  rw [add_plain, Nat.zero_add] at hc
  rw [Nat.zero_add]
  exact hc

/-! ### The growth -/
def lenV : Value → Nat
  | .slice _ n _ => n
  | _ => 0
def GwAt (W : World) (va : Value) (ga : Nat) (mk : List Tb.R) (gv : Value) (wr : World) : Prop :=
  ∃ (j : Nat) (ys : List Value), j ≤ 70 ∧ (∃ a c, gv = .slice a (mk.length + j) c) ∧ wr.ownsRow 0 36 2 gv (mk.length + j) (rowsC mk ++ ys) ∧ (∀ g, gv.ownBlock = some g → va.ownBlock = some g ∨ W.heap.size ≤ g) ∧ RowsIn wr va ga 0 mk ∧ Keeps (fun k => va.ownBlock = some k) W wr
theorem gw_more {W wr w7 : World} {va gv v' : Value} {ga j : Nat} {mk : List Tb.R} {ys news : List Value} {o : Obj} (hj : j < 70)  (hgv : ∀ g, gv.ownBlock = some g → va.ownBlock = some g ∨ W.heap.size ≤ g) (R : RowsIn wr va ga 0 mk) (K : Keeps (fun k => va.ownBlock = some k) W wr)
    (own : w7.ownsRow 0 36 2 v' (mk.length + j + 1) ((rowsC mk ++ ys) ++ news)) (h : (v'.ownBlock = gv.ownBlock ∧ (wr.alloc o).grownBy w7 gv.ownBlock) ∨ ∃ g, v'.ownBlock = some g ∧ (wr.alloc o).heap.size ≤ g ∧ (wr.alloc o).grownBy w7 none) : GwAt W va ga mk v' w7 := by
  have hz : wr.heap.size ≤ (wr.alloc o).heap.size := by simp
  have hz2 := K.size
  have hq : Qt wr (wr.alloc o) := (Qt.refl wr).alloc o
  refine ⟨j + 1, ys ++ news, hj, ?_, by rw [← Nat.add_assoc, ← List.append_assoc]; exact own, ?_, ?_, ?_⟩
  · rcases own.2 with ⟨e, h0⟩ | ⟨g, cap, cur, e, _⟩
    · omega
    · exact ⟨_, _, e⟩
  · intro g e
    rcases h with ⟨h1, _⟩ | ⟨x, h1, h2, _⟩
    · exact hgv g (h1 ▸ e)
    · rw [h1] at e; injection e with e; subst e; exact .inr (by omega)
  · rcases h with ⟨h1, h2⟩ | ⟨x, h1, h2, h3⟩
    · by_cases hga : gv.ownBlock = some ga ∧ mk ≠ []
      · refine ⟨R.val, R.le, fun k r hk i u hi => ?_⟩
        have hc := (World.ownsRowF_of own).cells (g := ga) (h1.trans hga.1) (k * 2 + i) u (by
          rw [List.append_assoc, List.getElem?_append_left (by
            have h1 := (List.getElem?_eq_some_iff.1 hk).1
            have h2 := (List.getElem?_eq_some_iff.1 hi).1
            have h3 : (rowC r).length = 2 := rfl
            rw [rowsC_length]; omega)]
          exact rowsC_get hk hi)
        rw [add_plain, Nat.zero_add] at hc
        rw [Nat.zero_add]
        exact hc
      · refine R.kept (Keeps.grown (S := fun x => gv.ownBlock = some x) (hq.mono (fun _ _ e => e.elim)) h2 (fun x _ e => e.symm)) (fun hne e => hga ⟨e, hne⟩)
    · exact R.turn (Keeps.grown hq h3 (fun x _ e => by cases e))
  · rcases h with ⟨h1, h2⟩ | ⟨x, h1, h2, h3⟩
    · refine Keeps.grown (K.alloc o) h2 (fun x hx e => ?_)
      rcases hgv x e.symm with r | r
      · exact r
      · omega
    · exact Keeps.grown (K.alloc o) h3 (fun x hx e => by cases e)
theorem rows_newsO {W : World} {a : Option Addr} {n c g o : Nat} {l : List Tb.R} (h : RowsIn W (.slice a n c) g o l) : rowsC l ≠ [] → ∃ p, a = some p ∧ ∀ (j : Nat) (u : Value), (rowsC l)[j]? = some u → W.cell? (p.add j) = some u := by
  intro hne
  have hl : l ≠ [] := by rintro rfl; exact hne rfl
  obtain ⟨a', cap, e, ha⟩ := h.val
  injection e with e1 e2 e3
  refine ⟨⟨g, o, none⟩, e1.trans (ha hl), fun j u hj => ?_⟩
  rw [add_plain]
  have hlt : j < l.length * 2 := by have := (List.getElem?_eq_some_iff.1 hj).1; rwa [rowsC_length] at this
  have hk : l[j / 2]? = some (l[j / 2]'(by omega)) := List.getElem?_eq_getElem (by omega)
  have hc : ∀ i x, (rowC (l[j / 2]'(by omega)))[i]? = some x → j / 2 * 2 + i = j → u = x := fun i x hx e => by
    have := rowsC_get hk hx
    rw [e, hj] at this
    exact Option.some.inj this
  rcases Nat.mod_two_eq_zero_or_one j with hm | hm
  · obtain rfl := hc 0 _ rfl (by omega)
    have := (h.cell hk).1
    rwa [show o + j / 2 * 2 = o + j by omega] at this
  · obtain rfl := hc 1 _ rfl (by omega)
    have := (h.cell hk).2
    rwa [show o + j / 2 * 2 + 1 = o + j by omega] at this
theorem fieldT (a : Option Addr) (n c : Nat) (W : World) : (Instr.field 42 (.agg #[.slice a n c]) 0).run Try.prog W = .ok (.slice a n c) W := by
  simp [Instr.field, run_underlying Try.underlying42, part, asAgg]
/-- Reading only. -/
def KyAt (W : World) (n : Nat) (iv : Value) (wr : World) : Prop := ∃ i : Nat, i ≤ n ∧ iv = .int .i64 i ∧ Qt W wr
end Go.Proofs.Ytadocleollndfaa
