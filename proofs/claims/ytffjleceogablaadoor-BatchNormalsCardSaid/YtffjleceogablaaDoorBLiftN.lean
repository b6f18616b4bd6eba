/-
  Ops (api.Op) that came in, by the bytes that they take.
-/
import Derived.Test.YtffjleceogablaaDoorBRow
import Derived.Test.YtffjleceogablaaDoorRecsO
import Derived.Test.YtffjleceogablaaDoorReachA
import Derived.Test.YtffjleceogablaaDoorRows
namespace Go.Proofs.YtffjleceogablaaDoor
open Go.ChangeShapes Go.WideShapes Go.ChangeAt Go.RowKit
set_option maxRecDepth 100000

theorem cellsOpN : Tryd.prog.cellsOf 29 = 3 := by kernel_rfl
theorem bytesOpN : Tryd.prog.bytesOf 29 = 40 := by kernel_rfl
theorem cellsBoolN : Tryd.prog.cellsOf 4 = 1 := by kernel_rfl
theorem cellsStrN : Tryd.prog.cellsOf 9 = 1 := by kernel_rfl
/-- One Op's cells that came in. -/
theorem opN_of_trod {H : Type} {enc : TypeId × Value → H} {W : World} (fuel : Nat) (cs : List Value) (x : DataW H × List MemPlace) (hf : DataW.trod enc Tryd.prog W 0 (fun _ => true) true fuel 29 cs = some x) (hw : Reach 29 x.1) :
    ∃ r : Bt.O, cs = opC r ∧ r.key.length ≤ reachBytes := by
  obtain ⟨xs, n, _, hx, hcl, hxl, hel⟩ := DataW.trod_struct Tryd.underlying29 hf
  have hl : cs.length = 3 := by rw [hcl, cellsOpN]
  match cs, hl with
  | [c0, c1, c2], _ =>
  have hx2 : xs.length = 3 := hxl
  match xs, hx2 with
  | [y0, y1, y2], _ =>
  have t0 : DataW.trod enc Tryd.prog W 0 (fun _ => true) true n 4 (([c0, c1, c2].drop 0).take (Tryd.prog.cellsOf 4)) = some y0 := hel 0 _ rfl
  have t1 : DataW.trod enc Tryd.prog W 0 (fun _ => true) true n 9 (([c0, c1, c2].drop 1).take (Tryd.prog.cellsOf 9)) = some y1 := hel 1 _ rfl
  have t2 : DataW.trod enc Tryd.prog W 0 (fun _ => true) true n 9 (([c0, c1, c2].drop 2).take (Tryd.prog.cellsOf 9)) = some y2 := hel 2 _ rfl
  rw [cellsStrN] at t1 t2
  rw [cellsBoolN] at t0
  rw [hx] at hw
  have hw1 : Reach 9 y1.1 := hw.part Tryd.underlying29 (j := 1) rfl rfl
  simp only [List.drop_zero, List.drop_succ_cons, List.take_succ_cons, List.take_zero] at t0 t1 t2
  obtain ⟨z0, e0, rfl⟩ := DataW.trod_bool Tryd.underlying4 t0
  obtain ⟨z1, e1, rfl, _⟩ := DataW.trod_string Tryd.underlying9 t1
  obtain ⟨z2, e2, rfl, _⟩ := DataW.trod_string Tryd.underlying9 t2
  simp only [List.cons.injEq, and_true] at e0 e1 e2
  subst e0 e1 e2
  exact ⟨⟨z0, z1.data.toList, z2.data.toList⟩, by simp [opC, strV], hw1 _ (by simp [DataW.weights])⟩
/-- The Ops that came in. -/
theorem opsN_of_trod {H : Type} {enc : TypeId × Value → H} {W : World} {fuel : Nat} {c : Value} {y : DataW H × List MemPlace} (h : DataW.trod enc Tryd.prog W 0 (fun _ => true) true fuel 22 [c] = some y) (hw : Reach 22 y.1) :
    ∃ (g off : Nat) (ops : List Bt.O), OpsIn W c g off ops ∧ ops.length * 40 ≤ 140737488351232 ∧ ∀ o ∈ ops, o.key.length ≤ maxLen := by
  obtain ⟨g, off, os, h1, h2, h3⟩ := open_recsQ (Q := Reach 29) (f := opC) (P := fun r => r.key.length ≤ reachBytes) Tryd.underlying22 cellsOpN (by decide) (fun _ => rfl) opN_of_trod h (fun l spare e => by rw [e] at hw; exact (hw.slice Tryd.underlying22).2)
  have hl : os.length * 40 ≤ 140737488351232 := by
    rcases h3 with ⟨_, rfl⟩ | ⟨l, spare, e, hl⟩
    · simp
    · rw [e] at hw
      have := (hw.slice Tryd.underlying22).1
      rw [bytesOpN, hl] at this
      unfold reachBytes at this
      omega
  refine ⟨g, off, os, h2 (by omega), hl, fun r hr => ?_⟩
  obtain ⟨k, hk⟩ := List.mem_iff_getElem?.1 hr
  have hh := h1 k r hk
  unfold reachBytes at hh
  unfold maxLen
  omega
end Go.Proofs.YtffjleceogablaaDoor
