/-
  What listed variables give, of no layer and with no error: the witness; a part of a row's list.
-/
import Derived.Test.YtffjleceogablaaDoorOwn
import Derived.Test.YtffjleceogablaaDoorRows
import Derived.ProofKit
import Derived.LaidMore
import Derived.LaidLaws
import Derived.OpenShut
import Derived.Stop.LaidErr
import Derived.Deep.DeepHandedRow
import Derived.Deep.DeepWitnessRowRef
import Derived.Lib.LaidTab
import Derived.Lib.SmallJoins
import Derived.Lay
namespace Go.Proofs.YtffjleceogablaaDoor
open Go.ChangeShapes Go.WideShapes Go.ChangeAt Go.RowKit
set_option maxRecDepth 100000

theorem laidOut : laidOutB Tryd.prog = true := by kernel_rfl
theorem own' : ownKnob Tryd.prog.godebug = none := by kernel_rfl

/-- 'There is an input that fits', at a start whose shape is known. -/
theorem witness_laid {H : Type} {enc : TypeId × Value → H} {C : Checked} {os : Os} {f : FuncId} {fn : Func} {s : OpenSpec} {conds : List PathCond} {apart : Bool} {laid : List (String × DataW Unit)} (modest : Bool) (w0 : World) (args : Array Value) (hos : w0.os = os)
    (hsh : (w0.forCall (fun _ _ => 0) ⟨#[], args, []⟩).Shaped C.prog)
    (hok : Input.okWideB C.prog (w0.forCall (fun _ _ => 0) ⟨#[], args, []⟩) f ⟨#[], args, []⟩ = true)
    (hrow : s.preRow enc C.prog fn conds apart laid (w0.forCall (fun _ _ => 0) ⟨#[], args, []⟩).memory args) :
    ∃ (w : World) (tape : Tape) (i : Input), w.os = os ∧ (w.forCall tape i).Shaped C.prog ∧ i.vars = [] ∧ Input.okWide C.prog (w.forCall tape i) .any w.heap.size f i ∧
      s.preRow enc C.prog fn conds apart laid (w.forCall tape i).memory i.args ∧ ({ modest := modest } : Assume).holds C.prog (lone (Frame.enter C.prog f i.args .normal) [] (w.forCall tape i)) :=
  ⟨w0, fun _ _ => 0, ⟨#[], args, []⟩, hos, hsh, (Input.okWide_of_okWideB (base := 0) hok).1, (Input.okWide_of_okWideB hok).2, hrow, by
    simp only [Assume.holds]
    exact ⟨by simp, by simp, fun _ => Modest.zero, by simp, by simp⟩⟩

/-- A part of a list of listed variables. -/
theorem laidVars_sub {P : Program} {w : World} {L' L : List (String × DataW Unit)} (hs : L'.Sublist L) : ∀ {ps : List MemPlace}, DataW.LaidVars P w L ps → ∃ q, DataW.LaidVars P w L' q ∧ q.Sublist ps := by
  induction hs with
  | slnil => intro ps h; exact ⟨ps, h, List.Sublist.refl _⟩
  | cons a _ ih =>
    intro ps h
    obtain ⟨n, d⟩ := a
    obtain ⟨g, t, cs, f, p, q, h1, h2, h3, h4, hq, e⟩ := h
    obtain ⟨q', hq', hsub⟩ := ih hq
    exact ⟨q', hq', by rw [e]; exact hsub.trans (List.sublist_append_right _ _)⟩
  | cons_cons a _ ih =>
    intro ps h
    obtain ⟨n, d⟩ := a
    obtain ⟨g, t, cs, f, p, q, h1, h2, h3, h4, hq, e⟩ := h
    obtain ⟨q', hq', hsub⟩ := ih hq
    exact ⟨_, ⟨g, t, cs, f, p, q', h1, h2, h3, h4, hq', rfl⟩, by rw [e]; exact List.Sublist.append (List.Sublist.refl _) hsub⟩
theorem laidMet_sub {P : Program} {W : World} {L' L : List (String × DataW Unit)} (hs : L'.Sublist L) (h : laidMet P L W) : laidMet P L' W := by
  obtain ⟨ps, hv, hnd, hrows⟩ := h
  obtain ⟨q, hq, hsub⟩ := laidVars_sub hs hv
  exact ⟨q, hq, hnd.sublist hsub, fun b off hb => hrows b off (hsub.subset hb)⟩
end Go.Proofs.YtffjleceogablaaDoor
