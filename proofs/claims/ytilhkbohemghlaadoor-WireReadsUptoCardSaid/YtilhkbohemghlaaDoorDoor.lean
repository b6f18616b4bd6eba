/-
  What the listed errors give: their variables' cells, all apart; and the witness's world.
-/
import Derived.Test.YtilhkbohemghlaaDoorRows
import Derived.Test.YtilhkbohemghlaaDoorErrs
import Derived.ProofKit
import Derived.LaidMore
import Derived.LaidLaws
import Derived.OpenShut
import Derived.Stop.LaidErr
import Derived.Deep.DeepHandedRow
import Derived.Deep.DeepWitnessRowRef
namespace Go.Proofs.YtilhkbohemghlaaDoor
open Go.ChangeShapes Go.WideShapes Go.ChangeAt Go.RowKit
set_option maxRecDepth 100000

theorem cellsErr : Tryd.prog.cellsOf 145 = 1 := by kernel_rfl
theorem cellsString : Tryd.prog.cellsOf 9 = 1 := by kernel_rfl
theorem nameErr : Tryd.prog.typeName? 3 131 = some "*errors.errorString" := by kernel_rfl
theorem starErr : "*errors.errorString" = "*" ++ "errors.errorString" := by decide
theorem rowErr (u : TypeId) (h : Tryd.prog.typeName? 3 u = some "*errors.errorString") : u = 131 :=
  typeName_ptr_named (nm := "errors.errorString") (by rw [← starErr]; kernel_rfl) (by kernel_rfl) (by decide) u (by rw [← starErr]; exact h)

/-- An error as the rows list it. -/
def errD (text : List UInt8) : DataW Unit := .iface "*errors.errorString" (.ptr (.agg [.lit (.string text)]))

theorem laid_errs {W : World} {PS : List MemPlace} (hrows : ∀ b off, MemPlace.cell b off ∈ PS → (∃ c t, W.heap[b]? = some (.cells c t (0, 0))) ∧ ∀ u v, W.cell? ⟨b, off, none⟩ = some (.iface u v) → Value.okWide Tryd.prog W .any 0 u v) :
    ∀ (L : List (String × List UInt8)) (gs : List Nat) (ps : List MemPlace), (∀ x ∈ ps, x ∈ PS) → ps.Nodup → L.map (fun x => Tryd.prog.globalNamed x.1) = gs.map some → (∀ g ∈ gs, (Tryd.prog.globals[g]?).map (·.type) = some 46) →
      DataW.LaidVars Tryd.prog W (L.map fun x => (x.1, errD x.2)) ps →
      ∃ al : List Addr, al.length = gs.length ∧ (∀ (i : Nat) (g : Nat) (a : Addr), gs[i]? = some g → al[i]? = some a → W.cell? ⟨g, 0, none⟩ = some (.iface 131 (.pointer (some a))) ∧ (∃ c t, W.heap[a.block]? = some (.cells c t (0, 0)))) ∧
        (∀ a ∈ al, MemPlace.cell a.block a.off ∈ ps) ∧ (al.map fun a => MemPlace.cell a.block a.off).Nodup
  | [], gs, ps, _, _, hg, _, _ => by
    obtain rfl : gs = [] := by simpa using hg.symm
    exact ⟨[], rfl, fun i g a h => by simp at h, fun a h => by simp at h, by simp⟩
  | (n, text) :: r, [], ps, _, _, hg, _, _ => by simp at hg
  | (n, text) :: r, g :: gs, ps, hps, hnd, hg, ht, h => by
    simp only [List.map_cons, List.cons.injEq] at hg
    obtain ⟨g0, t0, cs0, f0, p0, q0, hg0, ht0, hv0, hd0, hq, e0⟩ := h
    obtain rfl := Option.some.inj (hg.1.symm.trans hg0)
    obtain rfl := Option.some.inj ((ht g (by simp)).symm.trans ht0)
    obtain ⟨l0⟩ := cs0
    have ok0 : ∀ u v, l0 = [.iface u v] → Value.okWide Tryd.prog W .any 0 u v := fun u v e => by
      subst e
      exact (hrows g 0 (hps _ (by rw [e0]; simp [MemPlace.row]))).2 u v (by simpa using World.var?_cell hg0 hv0 0)
    obtain ⟨a0, s0, rfl, hc0, hs0, hz0, rfl⟩ := errorString_of_trod Tryd.underlying46 rowErr Tryd.underlying131 Tryd.underlying145 rfl rfl Tryd.underlying9 cellsErr cellsString hd0 ok0
    have hsub : q0.Sublist ps := by rw [e0]; exact List.sublist_append_right _ _
    obtain ⟨al, hl, h1, h2, h3⟩ := laid_errs hrows r gs q0 (fun x hx => hps x (hsub.subset hx)) (hnd.sublist hsub) hg.2 (fun g' hg' => ht g' (by simp [hg'])) hq
    have hmem : MemPlace.cell a0.block a0.off ∈ ps := by rw [e0]; simp [MemPlace.row]
    refine ⟨a0 :: al, by simp [hl], fun i g' a hi ha => ?_, fun a ha => ?_, ?_⟩
    · cases i with
      | zero =>
        simp at hi ha
        subst hi ha
        exact ⟨by simpa using World.var?_cell hg0 hv0 0, (hrows _ _ (hps _ hmem)).1⟩
      | succ i => exact h1 i g' a (by simpa using hi) (by simpa using ha)
    · rcases List.mem_cons.1 ha with rfl | ha
      · exact hmem
      · exact hsub.subset (h2 a ha)
    · simp only [List.map_cons, List.nodup_cons]
      refine ⟨fun hm => ?_, h3⟩
      obtain ⟨a, ha, hae⟩ := List.mem_map.1 hm
      rw [e0] at hnd
      have hq1 := h2 a ha
      rw [hae] at hq1
      exact (List.nodup_append.1 hnd).2.2 _ (by simp [MemPlace.row]) _ hq1 rfl

/-- The rows' list. -/
def errTexts : List (String × List UInt8) := [
  ("remit/api.ErrShort", [114, 101, 109, 105, 116, 58, 32, 116, 111, 111, 32, 115, 104, 111, 114, 116]),
  ("remit/api.ErrVarint", [114, 101, 109, 105, 116, 58, 32, 118, 97, 114, 105, 110, 116]),
  ("remit/api.ErrLimit", [114, 101, 109, 105, 116, 58, 32, 108, 105, 109, 105, 116]),
  ("remit/api.ErrOrder", [114, 101, 109, 105, 116, 58, 32, 111, 114, 100, 101, 114]),
  ("remit/api.ErrTail", [114, 101, 109, 105, 116, 58, 32, 116, 97, 105, 108]),
  ("remit/api.ErrRange", [114, 101, 109, 105, 116, 58, 32, 114, 97, 110, 103, 101]),
  ("remit/api.ErrForm", [114, 101, 109, 105, 116, 58, 32, 102, 111, 114, 109]),
  ("remit/api.ErrDigits", [114, 101, 109, 105, 116, 58, 32, 99, 104, 101, 99, 107, 32, 100, 105, 103, 105, 116, 115]),
  ("remit/api.ErrAmount", [114, 101, 109, 105, 116, 58, 32, 97, 109, 111, 117, 110, 116]),
  ("remit/api.ErrOverflow", [114, 101, 109, 105, 116, 58, 32, 111, 118, 101, 114, 102, 108, 111, 119]),
  ("remit/api.ErrCurrency", [114, 101, 109, 105, 116, 58, 32, 99, 117, 114, 114, 101, 110, 99, 121]),
  ("remit/api.ErrDown", [114, 101, 109, 105, 116, 58, 32, 100, 111, 119, 110]),
  ("remit/api.ErrSmall", [114, 101, 109, 105, 116, 58, 32, 115, 109, 97, 108, 108]),
  ("remit/api.ErrBlank", [114, 101, 109, 105, 116, 58, 32, 98, 108, 97, 110, 107]),
  ("remit/api.ErrCorrupt", [114, 101, 109, 105, 116, 58, 32, 99, 111, 114, 114, 117, 112, 116]),
  ("remit/api.ErrWorn", [114, 101, 109, 105, 116, 58, 32, 119, 111, 114, 110]),
  ("remit/api.ErrFull", [114, 101, 109, 105, 116, 58, 32, 102, 117, 108, 108]),
  ("remit/api.ErrLarge", [114, 101, 109, 105, 116, 58, 32, 108, 97, 114, 103, 101]),
  ("remit/api.ErrClosed", [114, 101, 109, 105, 116, 58, 32, 99, 108, 111, 115, 101, 100]),
  ("remit/api.ErrAccount", [114, 101, 109, 105, 116, 58, 32, 97, 99, 99, 111, 117, 110, 116]),
  ("remit/api.ErrExists", [114, 101, 109, 105, 116, 58, 32, 101, 120, 105, 115, 116, 115]),
  ("remit/api.ErrFrozen", [114, 101, 109, 105, 116, 58, 32, 102, 114, 111, 122, 101, 110]),
  ("remit/api.ErrFunds", [114, 101, 109, 105, 116, 58, 32, 102, 117, 110, 100, 115]),
  ("remit/api.ErrLegs", [114, 101, 109, 105, 116, 58, 32, 108, 101, 103, 115]),
  ("remit/api.ErrConflict", [114, 101, 109, 105, 116, 58, 32, 99, 111, 110, 102, 108, 105, 99, 116]),
  ("remit/api.ErrId", [114, 101, 109, 105, 116, 58, 32, 105, 100]),
  ("remit/api.ErrPayee", [114, 101, 109, 105, 116, 58, 32, 112, 97, 121, 101, 101]),
  ("remit/api.ErrRail", [114, 101, 109, 105, 116, 58, 32, 114, 97, 105, 108]),
  ("remit/api.ErrBusy", [114, 101, 109, 105, 116, 58, 32, 98, 117, 115, 121]),
  ("remit/api.ErrWindow", [114, 101, 109, 105, 116, 58, 32, 119, 105, 110, 100, 111, 119]),
  ("remit/api.ErrPhase", [114, 101, 109, 105, 116, 58, 32, 112, 104, 97, 115, 101]),
  ("remit/api.ErrToken", [114, 101, 109, 105, 116, 58, 32, 116, 111, 107, 101, 110]),
  ("remit/api.ErrTime", [114, 101, 109, 105, 116, 58, 32, 116, 105, 109, 101]),
  ("remit/api.ErrUnknown", [114, 101, 109, 105, 116, 58, 32, 117, 110, 107, 110, 111, 119, 110]),
  ("remit/api.ErrConfig", [114, 101, 109, 105, 116, 58, 32, 99, 111, 110, 102, 105, 103, 117, 114, 97, 116, 105, 111, 110]),
  ("remit/api.ErrCommand", [114, 101, 109, 105, 116, 58, 32, 99, 111, 109, 109, 97, 110, 100]),
  ("remit/api.ErrUse", [114, 101, 109, 105, 116, 58, 32, 105, 110, 32, 117, 115, 101])]

theorem errTexts_rows : errTexts.map (fun x => (x.1, errD x.2)) = (Rows.wireShortRow.laid : List (String × DataW Unit)) := rfl
theorem errTexts_vars : errTexts.map (fun x => Tryd.prog.globalNamed x.1) = gErrs.map some := by kernel_rfl
theorem errVars_type : ∀ g ∈ gErrs, (Tryd.prog.globals[g]?).map (·.type) = some 46 := by
  have h : (gErrs.all fun g => decide ((Tryd.prog.globals[g]?).map (·.type) = some 46)) = true := by kernel_rfl
  intro g hg
  exact of_decide_eq_true (List.all_eq_true.1 h g hg)

theorem errs_of_laid {W : World} (h : laidMetH Tryd.prog (errTexts.map fun x => (x.1, errD x.2)) W) : ∃ ad, Errs ad W := by
  rw [MakeChecks.laidMetH_plain _ _ _ (by kernel_rfl)] at h
  obtain ⟨ps, hv, hnd, hrows⟩ := h
  obtain ⟨al, hl, h1, _, h3⟩ := laid_errs hrows errTexts gErrs ps (fun x hx => hx) hnd errTexts_vars errVars_type hv
  have hl37 : al.length = 37 := hl
  have hget : ∀ i, i < 37 → al[i]? = some (al.getD i default) := fun i hi => by rw [List.getD_eq_getElem?_getD, List.getElem?_eq_getElem (by omega)]; rfl
  refine ⟨fun n => al.getD (n - 1) default, fun i g hg => ?_, fun i j hi hj he => ?_, fun i hi => ?_⟩
  · have hi : i < 37 := (List.getElem?_eq_some_iff.1 hg).1
    exact (h1 i g _ hg (hget i hi)).1
  · simp only [Nat.add_sub_cancel] at he
    have hi' := hget i hi
    have hj' := hget j hj
    rw [he] at hi'
    exact (List.getElem?_inj (by simp; omega) h3).1 (by rw [List.getElem?_map, List.getElem?_map, hi', hj'])
  · have hg : gErrs[i]? = some (gErrs.getD i 0) := by rw [List.getD_eq_getElem?_getD, List.getElem?_eq_getElem (show i < gErrs.length from hi)]; rfl
    exact (h1 i _ _ hg (hget i hi)).2

/-- The door's own heap meets the condition. -/
theorem door_met (os : Os) (args : Array Value) : laidMetH Tryd.prog (errTexts.map fun x => (x.1, errD x.2)) ((World.doorLaid Tryd.prog 712 os).forCall (fun _ _ => 0) ⟨#[], args, []⟩).memory :=
  laidMetH_of_parts3 (fuel := 8) (laidMet_of_run' 8 (by kernel_rfl) (by kernel_rfl)) (by kernel_rfl) (by kernel_rfl)
end Go.Proofs.YtilhkbohemghlaaDoor
