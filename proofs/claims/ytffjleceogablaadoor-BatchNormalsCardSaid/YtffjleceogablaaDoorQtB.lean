/-
  The frame of a call that only makes new blocks: nothing that was there has turned.
-/
import Derived.Test.YtffjleceogablaaDoorOwn
namespace Go.Proofs.YtffjleceogablaaDoor
open Go.RowKit
set_option maxRecDepth 100000

/-- Nothing that was there has turned. -/
abbrev Qt (w w' : World) : Prop := Keeps (fun _ => False) w w'
theorem Qt.refl (w : World) : Qt w w := Keeps.refl _ w
theorem Qt.trans {a b c : World} (h : Qt a b) (k : Qt b c) : Qt a c := Keeps.trans h k (fun _ _ e => e)
theorem Qt.of_below {w w' : World} (h : Below w.heap.size w w') : Qt w w' := (Keeps.of_below h).mono (fun i hi e => by omega)
theorem Qt.below {w w' : World} (h : Qt w w') : Below w.heap.size w w' := Keeps.below h (Nat.le_refl _) (fun _ _ e => e)
/-- A step that touches only what is new since B. -/
abbrev Since (B : Nat) (w w' : World) : Prop := Keeps (fun k => B ≤ k) w w'
theorem Since.step {S : Nat → Prop} {B : Nat} {w w1 w2 : World} (h : Since B w w1) (k : Keeps S w1 w2) (hS : ∀ i, S i → B ≤ i) : Since B w w2 := Keeps.trans h k (fun i _ s => hS i s)
theorem Since.qt {w w' : World} (h : Since w.heap.size w w') : Qt w w' := Keeps.mono h (fun i hi e => by omega)
theorem Qt.since {B : Nat} {w w' : World} (h : Qt w w') : Since B w w' := Keeps.mono h (fun _ _ e => e.elim)

/-- A cell that stays: a global's. -/
theorem Keeps.cellv {S : Nat → Prop} {w w' : World} (h : Keeps S w w') {p : Addr} {v : Value} (hc : w.cell? p = some v) (hn : ¬ S p.block) : w'.cell? p = some v := (h.cell (World.block_lt_of_cell? w _ hc) hn).trans hc
theorem Qt.cellv {w w' : World} (h : Qt w w') {p : Addr} {v : Value} (hc : w.cell? p = some v) : w'.cell? p = some v := Keeps.cellv h hc (fun e => e)
end Go.Proofs.YtffjleceogablaaDoor
