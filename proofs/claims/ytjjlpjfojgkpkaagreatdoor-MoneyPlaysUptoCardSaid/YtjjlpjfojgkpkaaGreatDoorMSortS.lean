/-
  Layer 4, plain: what a sort of all places by their rests leaves is the row of places, each ahead of those behind it.
-/
import Derived.Test.YtjjlpjfojgkpkaaGreatDoorMSpec
import Derived.Sort.Statements
namespace Go.Proofs.YtjjlpjfojgkpkaaGreatDoor.M
open Go.Sort

/-- How two places compare. -/
def cmpI (x y : Int) : Int := if x < y then -1 else if y < x then 1 else 0
def cmpAt (r : Nat → Nat) (a b : Nat) : Int := if cmpI (r b) (r a) = 0 then cmpI a b else cmpI (r b) (r a)
theorem cmpAt_lt (r : Nat → Nat) (a b : Nat) : decide (cmpAt r a b < 0) = ahead r a b := by
  rw [Bool.eq_iff_iff]
  simp only [ahead, decide_eq_true_eq, Bool.or_eq_true, Bool.and_eq_true, beq_iff_eq]
  by_cases h1 : r b < r a
  · have e : cmpI (r b) (r a) = -1 := if_pos (by omega)
    unfold cmpAt
    rw [e, if_neg (by decide)]
    omega
  · by_cases h2 : r a < r b
    · have e : cmpI (r b) (r a) = 1 := by unfold cmpI; rw [if_neg (by omega), if_pos (by omega)]
      unfold cmpAt
      rw [e, if_neg (by decide)]
      omega
    · have e : cmpI (r b) (r a) = 0 := by unfold cmpI; rw [if_neg (by omega), if_neg (by omega)]
      unfold cmpAt
      rw [e, if_pos rfl]
      unfold cmpI
      split
      · omega
      · split <;> omega
/-- .. of places below n. -/
def cmpF (r : Nat → Nat) (n : Nat) (a b : Fin n) : Int := cmpAt r a.val b.val
def ltF (r : Nat → Nat) (n : Nat) (a b : Fin n) : Bool := decide (cmpF r n a b < 0)
theorem ltF_ahead (r : Nat → Nat) (n : Nat) (a b : Fin n) : ltF r n a b = ahead r a.val b.val := cmpAt_lt r a.val b.val
theorem swoF (r : Nat → Nat) (n : Nat) : SWO (ltF r n) where
  irrefl x := by rw [ltF_ahead]; exact ahead_irrefl r _
  trans x y z h1 h2 := by rw [ltF_ahead] at *; exact ahead_trans h1 h2
  ntrans x y z h1 h2 := by
    rw [ltF_ahead] at *
    simp only [ahead, Bool.or_eq_false_iff, decide_eq_false_iff_not, Bool.and_eq_false_iff, beq_eq_false_iff_ne] at *
    omega
def allF (n : Nat) : Array (Fin n) := Array.ofFn (fun i => i)
theorem allF_size (n : Nat) : (allF n).size = n := by simp [allF]
theorem allF_vals (n : Nat) : (allF n).toList.map Fin.val = List.range n := by
  apply List.ext_getElem
  · simp [allF]
  · intro i h1 h2
    simp [allF]
def valsF {n : Nat} (d : Array (Fin n)) : List Nat := d.toList.map Fin.val
theorem sorted_vals (r : Nat → Nat) (n : Nat) [Inhabited (Fin n)] (d : Array (Fin n)) (hp : PermIn 0 n (allF n) d) (hs : SortedIn (ltF r n) 0 n d) : Sorted r n (valsF d) := by
  obtain ⟨h1, _, h3⟩ := hp
  rw [allF_size] at h1
  have e1 : d.extract 0 n = d := by have := Array.extract_size (xs := d); rwa [h1] at this
  have e2 : (allF n).extract 0 n = allF n := by
    have := Array.extract_size (xs := allF n)
    rwa [allF_size] at this
  rw [e1, e2] at h3
  have hperm : (valsF d).Perm (List.range n) := by rw [← allF_vals]; exact h3.map _
  refine ⟨hperm, ?_⟩
  have hnd : (valsF d).Nodup := hperm.nodup_iff.2 List.nodup_range
  rw [List.pairwise_iff_getElem]
  intro i j hi hj hij
  have hi' : i < d.size := by simpa [valsF] using hi
  have hj' : j < d.size := by simpa [valsF] using hj
  have h := hs i j (Nat.zero_le _) hij (by omega)
  rw [ltF_ahead, getElem!_pos d i hi', getElem!_pos d j hj'] at h
  have ei : (valsF d)[i] = d[i].val := by simp [valsF]
  have ej : (valsF d)[j] = d[j].val := by simp [valsF]
  rw [ei, ej]
  have hne : d[i].val ≠ d[j].val := by
    intro e
    rw [← ei, ← ej] at e
    have := (List.getElem_inj hnd).1 e
    omega
  rcases ahead_total (r := r) hne with h2 | h2
  · exact h2
  · rw [h] at h2; cases h2
end Go.Proofs.YtjjlpjfojgkpkaaGreatDoor.M
