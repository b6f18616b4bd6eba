/-
  What listed variables give, of no layer: errors of package api among them, in whatever order; a part of a row's list; the witness.
-/
import Derived.Test.YtffjleceogablaaDoorLaidA
import Derived.Test.YtffjleceogablaaDoorRows
import Derived.ProofKit
import Derived.LaidMore
import Derived.LaidLaws
import Derived.OpenShut
import Derived.Stop.LaidErr
import Derived.Deep.DeepHandedRow
import Derived.Deep.DeepWitnessRowRef
import Derived.Lib.LaidTab
import Derived.Lib.SmallJoins
import Derived.Lay
namespace Go.Proofs.YtffjleceogablaaDoor
open Go.ChangeShapes Go.WideShapes Go.ChangeAt Go.RowKit
set_option maxRecDepth 100000

/-! ### Errors -/
theorem cellsErr : Tryd.prog.cellsOf 169 = 1 := by kernel_rfl
theorem cellsString : Tryd.prog.cellsOf 9 = 1 := by kernel_rfl
theorem starErr : "*errors.errorString" = "*" ++ "errors.errorString" := by decide
theorem rowErr (u : TypeId) (h : Tryd.prog.typeName? 3 u = some "*errors.errorString") : u = 155 :=
  typeName_ptr_named (nm := "errors.errorString") (by rw [← starErr]; kernel_rfl) (by kernel_rfl) (by decide) u (by rw [← starErr]; exact h)

/-- An error as the rows list it. -/
def errD (text : List UInt8) : DataW Unit := .iface "*errors.errorString" (.ptr (.agg [.lit (.string text)]))

theorem laid_errs {W : World} {PS : List MemPlace} (hrows : ∀ b off, MemPlace.cell b off ∈ PS → (∃ c t, W.heap[b]? = some (.cells c t (0, 0))) ∧ ∀ u v, W.cell? ⟨b, off, none⟩ = some (.iface u v) → Value.okWide Tryd.prog W .any 0 u v) :
    ∀ (L : List (String × List UInt8)) (gs : List Nat) (ps : List MemPlace), (∀ x ∈ ps, x ∈ PS) → ps.Nodup → L.map (fun x => Tryd.prog.globalNamed x.1) = gs.map some → (∀ g ∈ gs, (Tryd.prog.globals[g]?).map (·.type) = some 32) →
      DataW.LaidVars Tryd.prog W (L.map fun x => (x.1, errD x.2)) ps →
      ∃ al : List Addr, al.length = gs.length ∧ (∀ (i : Nat) (g : Nat) (a : Addr), gs[i]? = some g → al[i]? = some a → W.cell? ⟨g, 0, none⟩ = some (.iface 155 (.pointer (some a))) ∧ (∃ c t, W.heap[a.block]? = some (.cells c t (0, 0)))) ∧
        (∀ a ∈ al, MemPlace.cell a.block a.off ∈ ps) ∧ (al.map fun a => MemPlace.cell a.block a.off).Nodup
  | [], gs, ps, _, _, hg, _, _ => by
    obtain rfl : gs = [] := by simpa using hg.symm
    exact ⟨[], rfl, fun i g a h => by simp at h, fun a h => by simp at h, by simp⟩
  | (n, text) :: r, [], ps, _, _, hg, _, _ => by simp at hg
  | (n, text) :: r, g :: gs, ps, hps, hnd, hg, ht, h => by
    simp only [List.map_cons, List.cons.injEq] at hg
    obtain ⟨g0, t0, cs0, f0, p0, q0, hg0, ht0, hv0, hd0, hq, e0⟩ := h
    obtain rfl := Option.some.inj (hg.1.symm.trans hg0)
    obtain rfl := Option.some.inj ((ht g (by simp)).symm.trans ht0)
    obtain ⟨l0⟩ := cs0
    have ok0 : ∀ u v, l0 = [.iface u v] → Value.okWide Tryd.prog W .any 0 u v := fun u v e => by
      subst e
      exact (hrows g 0 (hps _ (by rw [e0]; simp [MemPlace.row]))).2 u v (by simpa using World.var?_cell hg0 hv0 0)
    obtain ⟨a0, s0, rfl, hc0, hs0, hz0, rfl⟩ := errorString_of_trod Tryd.underlying32 rowErr Tryd.underlying155 Tryd.underlying169 rfl rfl Tryd.underlying9 cellsErr cellsString hd0 ok0
    have hsub : q0.Sublist ps := by rw [e0]; exact List.sublist_append_right _ _
    obtain ⟨al, hl, h1, h2, h3⟩ := laid_errs hrows r gs q0 (fun x hx => hps x (hsub.subset hx)) (hnd.sublist hsub) hg.2 (fun g' hg' => ht g' (by simp [hg'])) hq
    have hmem : MemPlace.cell a0.block a0.off ∈ ps := by rw [e0]; simp [MemPlace.row]
    refine ⟨a0 :: al, by simp [hl], fun i g' a hi ha => ?_, fun a ha => ?_, ?_⟩
    · cases i with
      | zero =>
        simp at hi ha
        subst hi ha
        exact ⟨by simpa using World.var?_cell hg0 hv0 0, (hrows _ _ (hps _ hmem)).1⟩
      | succ i => exact h1 i g' a (by simpa using hi) (by simpa using ha)
    · rcases List.mem_cons.1 ha with rfl | ha
      · exact hmem
      · exact hsub.subset (h2 a ha)
    · simp only [List.map_cons, List.nodup_cons]
      refine ⟨fun hm => ?_, h3⟩
      obtain ⟨a, ha, hae⟩ := List.mem_map.1 hm
      rw [e0] at hnd
      have hq1 := h2 a ha
      rw [hae] at hq1
      exact (List.nodup_append.1 hnd).2.2 _ (by simp [MemPlace.row]) _ hq1 rfl

/-- One error, listed alone. -/
theorem err_of_laid {W : World} {n : String} {text : List UInt8} {g : Nat} (hn : Tryd.prog.globalNamed n = some g) (ht : (Tryd.prog.globals[g]?).map (·.type) = some 32) (h : laidMet Tryd.prog [(n, errD text)] W) : ∃ ad, W.cell? ⟨g, 0, none⟩ = some (.iface 155 (.pointer (some ad))) := by
  obtain ⟨ps, hv, hnd, hrows⟩ := h
  obtain ⟨al, hl, h1, _, _⟩ := laid_errs hrows [(n, text)] [g] ps (fun _ h => h) hnd (by simp [hn]) (by simpa using ht) hv
  match al, hl with
  | [a], _ => exact ⟨a, (h1 0 _ a rfl rfl).1⟩

def formBytes : List UInt8 := [114, 101, 109, 105, 116, 58, 32, 102, 111, 114, 109]
end Go.Proofs.YtffjleceogablaaDoor
