/-
  What the listed variables give where errors are among them: their variables' cells; and the witnesses' starts.
-/
import Derived.Test.YtfhfbpjhjigbnaaDoorKDoor
import Derived.Test.YtfhfbpjhjigbnaaDoorKFirst
namespace Go.Proofs.YtfhfbpjhjigbnaaDoor
open Go.ChangeShapes Go.WideShapes Go.ChangeAt Go.RowKit
set_option maxRecDepth 100000

theorem cellsErr : Tryd.prog.cellsOf 105 = 1 := by kernel_rfl
theorem cellsString : Tryd.prog.cellsOf 9 = 1 := by kernel_rfl
theorem nameErr : Tryd.prog.typeName? 3 90 = some "*errors.errorString" := by kernel_rfl
theorem starErr : "*errors.errorString" = "*" ++ "errors.errorString" := by decide
theorem rowErr (u : TypeId) (h : Tryd.prog.typeName? 3 u = some "*errors.errorString") : u = 90 :=
  typeName_ptr_named (nm := "errors.errorString") (by rw [← starErr]; kernel_rfl) (by kernel_rfl) (by decide) u (by rw [← starErr]; exact h)

/-- An error as the rows list it. -/
def errD (text : List UInt8) : DataW Unit := .iface "*errors.errorString" (.ptr (.agg [.lit (.string text)]))

theorem laid_errs {W : World} {PS : List MemPlace} (hrows : ∀ b off, MemPlace.cell b off ∈ PS → (∃ c t, W.heap[b]? = some (.cells c t (0, 0))) ∧ ∀ u v, W.cell? ⟨b, off, none⟩ = some (.iface u v) → Value.okWide Tryd.prog W .any 0 u v) :
    ∀ (L : List (String × List UInt8)) (gs : List Nat) (ps : List MemPlace), (∀ x ∈ ps, x ∈ PS) → ps.Nodup → L.map (fun x => Tryd.prog.globalNamed x.1) = gs.map some → (∀ g ∈ gs, (Tryd.prog.globals[g]?).map (·.type) = some 33) →
      DataW.LaidVars Tryd.prog W (L.map fun x => (x.1, errD x.2)) ps →
      ∃ al : List Addr, al.length = gs.length ∧ (∀ (i : Nat) (g : Nat) (a : Addr), gs[i]? = some g → al[i]? = some a → W.cell? ⟨g, 0, none⟩ = some (.iface 90 (.pointer (some a))) ∧ (∃ c t, W.heap[a.block]? = some (.cells c t (0, 0)))) ∧
        (∀ a ∈ al, MemPlace.cell a.block a.off ∈ ps) ∧ (al.map fun a => MemPlace.cell a.block a.off).Nodup
  | [], gs, ps, _, _, hg, _, _ => by
    obtain rfl : gs = [] := by simpa using hg.symm
    exact ⟨[], rfl, fun i g a h => by simp at h, fun a h => by simp at h, by simp⟩
  | (n, text) :: r, [], ps, _, _, hg, _, _ => by simp at hg
  | (n, text) :: r, g :: gs, ps, hps, hnd, hg, ht, h => by
    simp only [List.map_cons, List.cons.injEq] at hg
    obtain ⟨g0, t0, cs0, f0, p0, q0, hg0, ht0, hv0, hd0, hq, e0⟩ := h
    obtain rfl := Option.some.inj (hg.1.symm.trans hg0)
    obtain rfl := Option.some.inj ((ht g (by simp)).symm.trans ht0)
    obtain ⟨l0⟩ := cs0
    have ok0 : ∀ u v, l0 = [.iface u v] → Value.okWide Tryd.prog W .any 0 u v := fun u v e => by
      subst e
      exact (hrows g 0 (hps _ (by rw [e0]; simp [MemPlace.row]))).2 u v (by simpa using World.var?_cell hg0 hv0 0)
    obtain ⟨a0, s0, rfl, hc0, hs0, hz0, rfl⟩ := errorString_of_trod Tryd.underlying33 rowErr Tryd.underlying90 Tryd.underlying105 rfl rfl Tryd.underlying9 cellsErr cellsString hd0 ok0
    have hsub : q0.Sublist ps := by rw [e0]; exact List.sublist_append_right _ _
    obtain ⟨al, hl, h1, h2, h3⟩ := laid_errs hrows r gs q0 (fun x hx => hps x (hsub.subset hx)) (hnd.sublist hsub) hg.2 (fun g' hg' => ht g' (by simp [hg'])) hq
    have hmem : MemPlace.cell a0.block a0.off ∈ ps := by rw [e0]; simp [MemPlace.row]
    refine ⟨a0 :: al, by simp [hl], fun i g' a hi ha => ?_, fun a ha => ?_, ?_⟩
    · cases i with
      | zero =>
        simp at hi ha
        subst hi ha
        exact ⟨by simpa using World.var?_cell hg0 hv0 0, (hrows _ _ (hps _ hmem)).1⟩
      | succ i => exact h1 i g' a (by simpa using hi) (by simpa using ha)
    · rcases List.mem_cons.1 ha with rfl | ha
      · exact hmem
      · exact hsub.subset (h2 a ha)
    · simp only [List.map_cons, List.nodup_cons]
      refine ⟨fun hm => ?_, h3⟩
      obtain ⟨a, ha, hae⟩ := List.mem_map.1 hm
      rw [e0] at hnd
      have hq1 := h2 a ha
      rw [hae] at hq1
      exact (List.nodup_append.1 hnd).2.2 _ (by simp [MemPlace.row]) _ hq1 rfl

/-- What the first of the listed variables give. -/
theorem laidVars_left {P : Program} {w : World} : ∀ (a b : List (String × DataW Unit)) (ps : List MemPlace), DataW.LaidVars P w (a ++ b) ps → ∃ q, DataW.LaidVars P w a q ∧ q.Sublist ps
  | [], _, _, _ => ⟨[], rfl, List.nil_sublist _⟩
  | (n, d) :: a, b, ps, h => by
    obtain ⟨g, t, cs, f, p, q, h1, h2, h3, h4, hq, e⟩ := h
    obtain ⟨q', hq', hs⟩ := laidVars_left a b q hq
    exact ⟨_, ⟨g, t, cs, f, p, q', h1, h2, h3, h4, hq', rfl⟩, by rw [e]; exact List.Sublist.append (List.Sublist.refl _) hs⟩
/-- .. and all but the first. -/
theorem laidVars_tail {P : Program} {w : World} {x : String × DataW Unit} {r : List (String × DataW Unit)} {ps : List MemPlace} (h : DataW.LaidVars P w (x :: r) ps) : ∃ q, DataW.LaidVars P w r q ∧ q.Sublist ps := by
  obtain ⟨n, d⟩ := x
  obtain ⟨g, t, cs, f, p, q, h1, h2, h3, h4, hq, e⟩ := h
  exact ⟨q, hq, by rw [e]; exact List.sublist_append_right _ _⟩

def formText : List (String × List UInt8) := [("remit/api.ErrForm", [114, 101, 109, 105, 116, 58, 32, 102, 111, 114, 109])]
theorem formText_rows : (("unicode/utf8.acceptRanges", Rows.laid_unicode_utf8_acceptRanges) :: (formText.map (fun x => (x.1, errD x.2)) ++ [("unicode/utf8.first", Rows.laid_unicode_utf8_first)])) = (Rows.keysBackUptoRow.laid : List (String × DataW Unit)) := rfl
theorem formText_vars : formText.map (fun x => Tryd.prog.globalNamed x.1) = [0].map some := by kernel_rfl
theorem formVars_type : ∀ g ∈ [0], (Tryd.prog.globals[g]?).map (·.type) = some 33 := by
  intro g hg
  obtain rfl := List.mem_singleton.1 hg
  kernel_rfl

theorem form_of_laid {W : World} (h : laidMetH Tryd.prog Rows.keysBackUptoRow.laid W) : ∃ ef, ErrF ef W := by
  rw [MakeChecks.laidMetH_plain _ _ _ (by kernel_rfl)] at h
  obtain ⟨ps, hv, hnd, hrows⟩ := h
  rw [← formText_rows] at hv
  obtain ⟨q0, hv, hs0⟩ := laidVars_tail hv
  obtain ⟨q1, hv, hs1⟩ := laidVars_left _ _ _ hv
  obtain ⟨al, hl, h1, _, _⟩ := laid_errs hrows formText [0] q1 (fun x hx => hs0.subset (hs1.subset hx)) (hnd.sublist (hs1.trans hs0)) formText_vars formVars_type hv
  match al, hl with
  | [a], _ => exact ⟨a, (h1 0 _ a rfl rfl).1⟩

noncomputable def door3 (os : Os) : World := World.laidAll Tryd.prog os Rows.keysBackUptoRow.laid
theorem door3_met (os : Os) (args : Array Value) : laidMetH Tryd.prog Rows.keysBackUptoRow.laid ((door3 os).forCall (fun _ _ => 0) ⟨#[], args, []⟩).memory := by
  rw [MakeChecks.laidMetH_plain _ _ _ (by kernel_rfl)]
  exact laidMet_laidAll _ (by kernel_rfl) (by kernel_rfl)
end Go.Proofs.YtfhfbpjhjigbnaaDoor
