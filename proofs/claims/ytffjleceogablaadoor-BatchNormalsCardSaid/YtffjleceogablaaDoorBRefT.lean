/-
  Rows and ops of one's own, side by side: grown by one, stored into, moved up.
-/
import Derived.Test.YtffjleceogablaaDoorBRefP
import Derived.Test.YtffjleceogablaaDoorBRow
namespace Go.Proofs.YtffjleceogablaaDoor
open Go.RowKit Go.WideShapes
set_option maxRecDepth 100000

theorem rowC_len (r : Tb.R) : (rowC r).length = 2 := rfl
theorem rowC_one' (l : List Tb.R) : ∀ u ∈ cellsG rowC l, u.oneCell' = true := cellsG_one' (fun r u hr => by
  simp only [rowC, List.mem_cons, List.not_mem_nil, or_false] at hr
  rcases hr with rfl | rfl <;> rfl) l
theorem row_new0G (W : World) : (W.alloc (.cells #[] 64)).ownsRow 0 64 2 (.slice (some ⟨W.heap.size, 0, none⟩) 0 0) 0 (cellsG rowC []) :=
  ⟨rfl, .inr ⟨W.heap.size, 0, #[], rfl, Nat.zero_le _, heap_alloc_new W _, Nat.le_refl _, by decide, rfl, rfl⟩⟩
/-- A whole row stored. -/
theorem own_setR {W : World} {g N c i : Nat} {l : List Tb.R} (h : W.ownsRow 0 64 2 (.slice (some ⟨g, 0, none⟩) N c) l.length (cellsG rowC l)) (hi : i < l.length) (r : Tb.R) :
    ((W.setCell ⟨g, i * 2, none⟩ (strV r.1)).setCell ⟨g, i * 2 + 1, none⟩ (strV r.2)).ownsRow 0 64 2 (.slice (some ⟨g, 0, none⟩) N c) (l.set i r).length (cellsG rowC (l.set i r)) := by
  obtain ⟨a, c', e⟩ := ownG_shape h
  injection e with e1 e2 e3
  subst e2
  rw [List.length_set]
  have h1 := ownG_set rowC_len h (List.getElem?_eq_getElem hi) (j := 0) (by decide) (u := strV r.1) (y := (r.1, l[i].2)) rfl
  have h2 := ownG_set rowC_len h1 (i := i) (x := (r.1, l[i].2)) (by simp [hi]) (j := 1) (by decide) (u := strV r.2) (y := r) rfl
  rw [List.set_set] at h2
  exact h2
/-- A whole op stored. -/
theorem own_setO {W : World} {g N c i : Nat} {l : List Bt.O} (h : W.ownsRow 0 29 3 (.slice (some ⟨g, 0, none⟩) N c) l.length (opsC l)) (hi : i < l.length) (r : Bt.O) :
    (((W.setCell ⟨g, i * 3, none⟩ (.bool r.del)).setCell ⟨g, i * 3 + 1, none⟩ (strV r.key)).setCell ⟨g, i * 3 + 2, none⟩ (strV r.val)).ownsRow 0 29 3 (.slice (some ⟨g, 0, none⟩) N c) (l.set i r).length (opsC (l.set i r)) := by
  obtain ⟨a, c', e⟩ := ownG_shape h
  injection e with e1 e2 e3
  subst e2
  rw [List.length_set]
  have h1 := ownG_set opC_len h (List.getElem?_eq_getElem hi) (j := 0) (by decide) (u := .bool r.del) (y := ⟨r.del, l[i].key, l[i].val⟩) rfl
  have h2 := ownG_set opC_len h1 (i := i) (x := ⟨r.del, l[i].key, l[i].val⟩) (by simp [hi]) (j := 1) (by decide) (u := strV r.key) (y := ⟨r.del, r.key, l[i].val⟩) rfl
  rw [List.set_set] at h2
  have h3 := ownG_set opC_len h2 (i := i) (x := ⟨r.del, r.key, l[i].val⟩) (by simp [hi]) (j := 2) (by decide) (u := strV r.val) (y := r) rfl
  rw [List.set_set] at h3
  exact h3
theorem keeps_set2 {S : Nat → Prop} {a W : World} (K : Keeps S a W) {g : Nat} (hg : g < a.heap.size → S g) (i : Nat) (x y : Value) : Keeps S a ((W.setCell ⟨g, i * 2, none⟩ x).setCell ⟨g, i * 2 + 1, none⟩ y) :=
  Keeps.setCell (p := ⟨g, i * 2 + 1, none⟩) (Keeps.setCell (p := ⟨g, i * 2, none⟩) K hg _) hg _
theorem keeps_set3 {S : Nat → Prop} {a W : World} (K : Keeps S a W) {g : Nat} (hg : g < a.heap.size → S g) (i : Nat) (x y z : Value) : Keeps S a (((W.setCell ⟨g, i * 3, none⟩ x).setCell ⟨g, i * 3 + 1, none⟩ y).setCell ⟨g, i * 3 + 2, none⟩ z) :=
  Keeps.setCell (p := ⟨g, i * 3 + 2, none⟩) (Keeps.setCell (p := ⟨g, i * 3 + 1, none⟩) (Keeps.setCell (p := ⟨g, i * 3, none⟩) K hg _) hg _) hg _

/-- Two rows of one's own side by side: the keys, and the ops. -/
structure TwR (w wr : World) (kv ov : Value) (ks : List Tb.R) (os : List Bt.O) : Prop where
  kown : wr.ownsRow 0 64 2 kv ks.length (cellsG rowC ks)
  oown : wr.ownsRow 0 29 3 ov os.length (opsC os)
  knew : ∀ g, kv.ownBlock = some g → w.heap.size ≤ g
  onew : ∀ g, ov.ownBlock = some g → w.heap.size ≤ g
  apart : ∀ g, kv.ownBlock = some g → ov.ownBlock ≠ some g
  qt : Qt w wr
section
variable {w W y : World} {kv ov v' : Value} {ks : List Tb.R} {os : List Bt.O} {o : Obj}
theorem TwR.quiet {w2 : World} (h : TwR w W kv ov ks os) (q : Qt W w2) : TwR w w2 kv ov ks os :=
  ⟨ownsRow_kept h.kown q (fun _ _ e => e), ownsRow_kept h.oown q (fun _ _ e => e), h.knew, h.onew, h.apart, Qt.trans h.qt q⟩
/-- A block of neither, new since w, is turned. -/
theorem TwR.turn {w2 : World} {S : Nat → Prop} (h : TwR w W kv ov ks os) (q : Keeps S W w2) (h1 : ∀ k, S k → w.heap.size ≤ k) (h2 : ∀ k, S k → kv.ownBlock ≠ some k ∧ ov.ownBlock ≠ some k) : TwR w w2 kv ov ks os :=
  ⟨ownsRow_kept h.kown q (fun k e s => (h2 k s).1 e), ownsRow_kept h.oown q (fun k e s => (h2 k s).2 e), h.knew, h.onew, h.apart, Keeps.trans h.qt q (fun i hi s => by have := h1 i s; omega)⟩
theorem TwR.growK (h : TwR w W kv ov ks os) {z : Tb.R} (own : y.ownsRow 0 64 2 v' (ks.length + 1) (cellsG rowC ks ++ rowC z)) (gr : (W.alloc o).grownBy y kv.ownBlock) (la : Later (W.alloc o) kv.ownBlock v'.ownBlock) :
    TwR w y v' ov (ks ++ [z]) os ∧ Keeps (fun k => kv.ownBlock = some k) W y := by
  have hz : W.heap.size ≤ (W.alloc o).heap.size := by simp
  have hq := h.qt.size
  have K : Keeps (fun k => kv.ownBlock = some k) W y := Keeps.grown ((Keeps.refl _ W).alloc o) gr (fun j _ e => e.symm)
  refine ⟨⟨?_, ownsRow_kept h.oown K (fun k e e2 => h.apart k e2 e), fun g e => ?_, h.onew, fun g e e2 => ?_, Keeps.trans h.qt K (fun i hi e => by have := h.knew i e; omega)⟩, K⟩
  · rw [List.length_append, List.length_singleton, cellsG_append, cellsG_one]; exact own
  · rcases la with r | ⟨x, r, hx⟩
    · exact h.knew g (r ▸ e)
    · rw [r] at e; injection e with e; subst e; omega
  · rcases la with r | ⟨x, r, hx⟩
    · exact h.apart g (r ▸ e) e2
    · rw [r] at e; injection e with e; subst e
      have := ownsRow_lt h.oown e2
      omega
theorem TwR.growO (h : TwR w W kv ov ks os) {z : Bt.O} (own : y.ownsRow 0 29 3 v' (os.length + 1) (opsC os ++ opC z)) (gr : (W.alloc o).grownBy y ov.ownBlock) (la : Later (W.alloc o) ov.ownBlock v'.ownBlock) :
    TwR w y kv v' ks (os ++ [z]) ∧ Keeps (fun k => ov.ownBlock = some k) W y := by
  have hz : W.heap.size ≤ (W.alloc o).heap.size := by simp
  have hq := h.qt.size
  have K : Keeps (fun k => ov.ownBlock = some k) W y := Keeps.grown ((Keeps.refl _ W).alloc o) gr (fun j _ e => e.symm)
  refine ⟨⟨ownsRow_kept h.kown K (fun k e e2 => h.apart k e e2), ?_, h.knew, fun g e => ?_, fun g e e2 => ?_, Keeps.trans h.qt K (fun i hi e => by have := h.onew i e; omega)⟩, K⟩
  · rw [List.length_append, List.length_singleton, opsC_snoc]; exact own
  · rcases la with r | ⟨x, r, hx⟩
    · exact h.onew g (r ▸ e)
    · rw [r] at e; injection e with e; subst e; omega
  · rcases la with r | ⟨x, r, hx⟩
    · exact h.apart g e (r ▸ e2)
    · rw [r] at e2; injection e2 with e2; subst e2
      have := ownsRow_lt h.kown e
      omega
theorem TwR.setK {g N c i : Nat} (h : TwR w W (.slice (some ⟨g, 0, none⟩) N c) ov ks os) (hi : i < ks.length) (r : Tb.R) :
    TwR w ((W.setCell ⟨g, i * 2, none⟩ (strV r.1)).setCell ⟨g, i * 2 + 1, none⟩ (strV r.2)) (.slice (some ⟨g, 0, none⟩) N c) ov (ks.set i r) os :=
  ⟨own_setR h.kown hi r, ownsRow_kept h.oown (keeps_set2 (Keeps.refl (fun k => k = g) W) (fun _ => rfl) i _ _) (fun k e e2 => h.apart k (by subst e2; rfl) e), h.knew, h.onew, h.apart, keeps_set2 h.qt (fun hlt => by have := h.knew g rfl; omega) i _ _⟩
theorem TwR.setO {g N c i : Nat} (h : TwR w W kv (.slice (some ⟨g, 0, none⟩) N c) ks os) (hi : i < os.length) (r : Bt.O) :
    TwR w (((W.setCell ⟨g, i * 3, none⟩ (.bool r.del)).setCell ⟨g, i * 3 + 1, none⟩ (strV r.key)).setCell ⟨g, i * 3 + 2, none⟩ (strV r.val)) kv (.slice (some ⟨g, 0, none⟩) N c) ks (os.set i r) :=
  ⟨ownsRow_kept h.kown (keeps_set3 (Keeps.refl (fun k => k = g) W) (fun _ => rfl) i _ _ _) (fun k e e2 => h.apart k e (by subst e2; rfl)), own_setO h.oown hi r, h.knew, h.onew, h.apart, keeps_set3 h.qt (fun hlt => by have := h.onew g rfl; omega) i _ _ _⟩
end
end Go.Proofs.YtffjleceogablaaDoor
