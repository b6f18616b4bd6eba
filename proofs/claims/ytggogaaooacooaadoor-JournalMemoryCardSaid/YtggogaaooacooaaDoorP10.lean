/-
  The frame of a call that only makes new blocks: nothing that was there has turned.
  A text's value, of its bytes.
  A row of texts of the call's own, by their bytes.
-/
import Derived.Test.YtggogaaooacooaaDoorP09
import Derived.Test.YtggogaaooacooaaDoorP04
namespace Go.Proofs.YtggogaaooacooaaDoor
open Go.RowKit
set_option maxRecDepth 100000

/-- Nothing that was there has turned. -/
abbrev Qt (w w' : World) : Prop := Keeps (fun _ => False) w w'
theorem Qt.refl (w : World) : Qt w w := Keeps.refl _ w
theorem Qt.trans {a b c : World} (h : Qt a b) (k : Qt b c) : Qt a c := Keeps.trans h k (fun _ _ e => e)
theorem Qt.of_below {w w' : World} (h : Below w.heap.size w w') : Qt w w' := (Keeps.of_below h).mono (fun i hi e => by omega)
theorem Qt.below {w w' : World} (h : Qt w w') : Below w.heap.size w w' := Keeps.below h (Nat.le_refl _) (fun _ _ e => e)
/-- A step that touches only what is new since B. -/
abbrev Since (B : Nat) (w w' : World) : Prop := Keeps (fun k => B ≤ k) w w'
theorem Since.step {S : Nat → Prop} {B : Nat} {w w1 w2 : World} (h : Since B w w1) (k : Keeps S w1 w2) (hS : ∀ i, S i → B ≤ i) : Since B w w2 := Keeps.trans h k (fun i _ s => hS i s)
theorem Since.qt {w w' : World} (h : Since w.heap.size w w') : Qt w w' := Keeps.mono h (fun i hi e => by omega)
theorem Qt.since {B : Nat} {w w' : World} (h : Qt w w') : Since B w w' := Keeps.mono h (fun _ _ e => e.elim)

theorem OffErrs.of_ge {ad : Nat → Addr} {w : World} (h : Errs ad w) {S : Nat → Prop} (hS : ∀ k, S k → w.heap.size ≤ k) : OffErrs ad S := by
  refine ⟨fun g hg hs => ?_, fun i hi hs => ?_⟩
  · obtain ⟨i, hi⟩ := List.getElem?_of_mem hg
    have h1 : g < w.heap.size := World.block_lt_of_cell? w _ (h.cells i g hi)
    have := hS g hs
    omega
  · obtain ⟨c, t, hb⟩ := h.blk i hi
    have := lt_of_block hb
    have := hS _ hs
    omega

/-- A cell that stays: a global's. -/
theorem Keeps.cellv {S : Nat → Prop} {w w' : World} (h : Keeps S w w') {p : Addr} {v : Value} (hc : w.cell? p = some v) (hn : ¬ S p.block) : w'.cell? p = some v := (h.cell (World.block_lt_of_cell? w _ hc) hn).trans hc
theorem Qt.cellv {w w' : World} (h : Qt w w') {p : Addr} {v : Value} (hc : w.cell? p = some v) : w'.cell? p = some v := Keeps.cellv h hc (fun e => e)
end Go.Proofs.YtggogaaooacooaaDoor
namespace Go.Proofs.YtggogaaooacooaaDoor

/-- A text's value. -/
def strV (s : List UInt8) : Value := .string ⟨s.toArray⟩
end Go.Proofs.YtggogaaooacooaaDoor
namespace Go.Proofs.YtggogaaooacooaaDoor
open Go.RowKit
set_option maxRecDepth 100000

theorem infoStrT : (Tryd.prog.info? 9).map (fun i => (i.zero, i.size, i.bytes)) = some (some (.string ⟨#[]⟩), 1, 16) := by kernel_rfl
/-- A row of texts of the call's own; nothing of w has turned. -/
structure NewT (w wr : World) (v : Value) (l : List (List UInt8)) : Prop where
  own : wr.ownsRow 0 9 1 v l.length (l.map strV)
  new : ∀ g, v.ownBlock = some g → w.heap.size ≤ g
  qt : Qt w wr
theorem NewT.nil {w wr : World} (q : Qt w wr) : NewT w wr (.slice none 0 0) [] := ⟨World.ownsRow_nil wr 0 _ 1, fun g h => (by cases h), q⟩
theorem NewT.quiet {w wr w2 : World} {v : Value} {l : List (List UInt8)} (h : NewT w wr v l) (k : Qt wr w2) : NewT w w2 v l := ⟨ownsRow_kept h.own k (fun _ _ e => e), h.new, Qt.trans h.qt k⟩
theorem NewT.later {w wr w2 w3 : World} {v v' : Value} {l : List (List UInt8)} {t : List UInt8} (h : NewT w wr v l) (k : Qt wr w2) (hown : w3.ownsRow 0 9 1 v' (l.length + 1) (l.map strV ++ [strV t])) (hg : w2.grownBy w3 v.ownBlock) (hl : Later w2 v.ownBlock v'.ownBlock) : NewT w w3 v' (l ++ [t]) := by
  have q2 := Qt.trans h.qt k
  refine ⟨?_, fun g hg' => ?_, ?_⟩
  · rw [List.length_append, List.map_append]; exact hown
  · rcases hl with e | ⟨x, e, hx⟩
    · exact h.new g (e ▸ hg')
    · rw [hg'] at e
      injection e with e
      subst e
      exact Nat.le_trans q2.size hx
  · exact Keeps.grown q2 hg (fun j hj e => by have := h.new j e.symm; omega)
theorem NewT.one {w W : World} (q : Qt w W) (t : List UInt8) : NewT w (W.alloc (.cells #[strV t] 9)) (.slice (some ⟨W.heap.size, 0, none⟩) 1 1) [t] :=
  ⟨⟨rfl, .inr ⟨W.heap.size, 1, #[strV t], rfl, Nat.zero_le _, heap_alloc_new W _, Nat.le_refl _, by decide, rfl, by simp⟩⟩, fun g hg => by injection hg with hg; rw [← hg]; exact q.size, Keeps.alloc q _⟩
/-- What it holds. -/
theorem NewT.shape {w wr : World} {v : Value} {l : List (List UInt8)} (h : NewT w wr v l) : ∃ a c, v = .slice a l.length c := by
  rcases h.own.2 with ⟨e, h0⟩ | ⟨g, cap, cur, e, _⟩
  · exact ⟨none, 0, by rw [e, h0]⟩
  · exact ⟨_, _, e⟩
theorem newT_cell {w wr : World} {a : Option Addr} {n c : Nat} {l : List (List UInt8)} (h : NewT w wr (.slice a n c) l) {k : Nat} {t : List UInt8} (hk : l[k]? = some t) : ∃ g, a = some ⟨g, 0, none⟩ ∧ wr.cell? ⟨g, k, none⟩ = some (strV t) := by
  rcases h.own.2 with ⟨e, h0⟩ | ⟨g, cap, cur, e, _⟩
  · have := (List.getElem?_eq_some_iff.1 hk).1
    omega
  · injection e with e1 e2 e3
    subst e1
    refine ⟨g, rfl, ?_⟩
    have hx : (l.map strV)[k]? = some (strV t) := by rw [List.getElem?_map, hk]; rfl
    have hc := h.own.cells (g := g) rfl k (strV t) hx
    have e : ((⟨g, 0, none⟩ : Addr).add k) = ⟨g, k, none⟩ := by unfold Addr.add; split <;> simp_all
    rw [e] at hc
    exact hc
end Go.Proofs.YtggogaaooacooaaDoor
