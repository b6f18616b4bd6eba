/-
  What came in: each of its rows and texts within reach.
-/
import Derived.Test.YtffjleceogablaaDoorOwn
import Derived.SizedLaws
import Derived.Deep.Slices
import Derived.OpenShut
import Derived.ChangeAt
import Derived.WideShapes
namespace Go.Proofs.YtffjleceogablaaDoor
open Go.ChangeShapes Go.WideShapes Go.ChangeAt Go.RowKit
set_option maxRecDepth 100000

/-- Each of its rows and texts is within reach. -/
def Reach {H : Type} (t : TypeId) (d : DataW H) : Prop := ∀ n ∈ d.weights Tryd.prog t, n ≤ reachBytes
theorem weights_all {H : Type} {P : Program} {e : TypeId} : ∀ {l : List (DataW H)} {d : DataW H}, d ∈ l → ∀ n ∈ d.weights P e, n ∈ DataW.weightsAll P e l
  | [], _, h, _, _ => by cases h
  | x :: r, d, h, n, hn => by
    simp only [DataW.weightsAll, List.mem_append]
    rcases List.mem_cons.1 h with rfl | h
    · exact .inl hn
    · exact .inr (weights_all h n hn)
theorem Reach.each {H : Type} {ts : List TypeId} {ds : List (DataW H)} (h : (DataW.weightsEach Tryd.prog ts ds).all (· ≤ reachBytes) = true) {j : Nat} {t : TypeId} {d : DataW H} (ht : ts[j]? = some t) (hd : ds[j]? = some d) : Reach t d := fun n hn => by
  have := List.all_eq_true.1 h _ (DataW.weights_mem_each ht hd n hn)
  simpa using this
theorem Reach.slice {H : Type} {t e : TypeId} {l spare : List (DataW H)} (hu : Tryd.prog.underlying t = some (.slice e)) (h : Reach t (.slice l spare)) : l.length * Tryd.prog.bytesOf e ≤ reachBytes ∧ ∀ d ∈ l, Reach e d := by
  unfold Reach at h
  simp only [DataW.weights, hu, List.mem_cons, List.mem_append] at h
  refine ⟨?_, fun d hd n hn => h n (.inr (.inl (weights_all hd n hn)))⟩
  have := h _ (.inl rfl)
  have h2 := Nat.mul_le_mul_right (Tryd.prog.bytesOf e) (Nat.le_add_right l.length spare.length)
  omega
theorem Reach.part {H : Type} {t : TypeId} {fs : Array Field} {ps : List (DataW H)} (hu : Tryd.prog.underlying t = some (.struct fs)) (h : Reach t (.agg ps)) {j : Nat} {f : Field} {d : DataW H} (hf : fs[j]? = some f) (hd : ps[j]? = some d) : Reach f.type d := fun n hn => by
  unfold Reach at h
  simp only [DataW.weights, hu] at h
  exact h n (DataW.weights_mem_each (t := f.type) (by simp [hf]) hd n hn)
end Go.Proofs.YtffjleceogablaaDoor
