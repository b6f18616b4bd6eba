/-
  Layer 4, plain: shares laid place by place, then ones given out by a row of places.
-/
import Derived.Test.YtjjlpjfojgkpkaaGreatDoorMSpec
namespace Go.Proofs.YtjjlpjfojgkpkaaGreatDoor.M

theorem sumTo_mono (f : Nat → Nat) {k : Nat} : ∀ {n}, k ≤ n → sumTo f k ≤ sumTo f n
  | 0, h => by rw [Nat.le_zero.1 h]; exact Nat.le_refl _
  | n + 1, h => by
    by_cases e : k = n + 1
    · rw [e]; exact Nat.le_refl _
    · have := sumTo_mono f (show k ≤ n by omega)
      rw [show sumTo f (n + 1) = sumTo f n + f n from rfl]; omega
theorem quo_left {a n W k : Nat} {w : Nat → Nat} (h : Split a n W w) (hk : k < n) : a * w k / W ≤ a - sumTo (quo a W w) k := by
  have h1 := sumTo_mono (quo a W w) (show k + 1 ≤ n from hk)
  have h2 := quo_le h
  rw [sumTo] at h1
  have h3 : quo a W w k = a * w k / W := rfl
  omega
/-- Place i of a list of weights. -/
def wAt (ws : List Int) (i : Nat) : Nat := (ws.getD i 0).toNat
theorem wAt_get {ws : List Int} {i : Nat} (h : i < ws.length) : wAt ws i = (ws[i]).toNat := by unfold wAt; rw [List.getD_eq_getElem?_getD, List.getElem?_eq_getElem h]; rfl
def total (ws : List Int) (k : Nat) : Nat := sumTo (wAt ws) k
theorem total_succ (ws : List Int) (k : Nat) : total ws (k + 1) = total ws k + wAt ws k := rfl
theorem total_bound (ws : List Int) (hw : ∀ x ∈ ws, 0 ≤ x ∧ x ≤ 1000000) : ∀ k, k ≤ ws.length → total ws k ≤ 1000000 * k
  | 0, _ => Nat.le_refl _
  | k + 1, h => by
    have ih := total_bound ws hw k (by omega)
    have := hw ws[k] (List.getElem_mem _)
    rw [total_succ, wAt_get (by omega)]
    omega
/-- The first k shares, rounded down. -/
def quos (a W : Nat) (ws : List Int) (k : Nat) : List Int := (List.range k).map fun i => (quo a W (wAt ws) i : Int)
def rems (a W : Nat) (ws : List Int) (k : Nat) : List Int := (List.range k).map fun i => (rem a W (wAt ws) i : Int)
theorem set_next {f : Nat → Int} {n k : Nat} (h : k < n) : ((List.range k).map f ++ List.replicate (n - k) (0 : Int)).set k (f k) = (List.range (k + 1)).map f ++ List.replicate (n - (k + 1)) 0 := by
  rw [List.set_append_right _ _ (by simp), List.length_map, List.length_range, Nat.sub_self]
  obtain ⟨m, hm⟩ : ∃ m, n - k = m + 1 := ⟨n - k - 1, by omega⟩
  rw [hm, show n - (k + 1) = m by omega, List.replicate_succ, List.set_cons_zero, List.range_succ]
  simp
/-- Ones given to those among the first k of o. -/
def given (f : Nat → Nat) (n : Nat) (o : List Nat) (k : Nat) : List Int := (List.range n).map fun i => ((f i + if i ∈ o.take k then 1 else 0 : Nat) : Int)
theorem given_zero (f : Nat → Nat) (n : Nat) (o : List Nat) : given f n o 0 = (List.range n).map fun i => (f i : Int) := by
  unfold given; simp
theorem given_length (f : Nat → Nat) (n : Nat) (o : List Nat) (k : Nat) : (given f n o k).length = n := by simp [given]
theorem given_at {f : Nat → Nat} {n : Nat} {o : List Nat} {k i : Nat} (hi : i < n) : (given f n o k)[i]? = some ((f i + if i ∈ o.take k then 1 else 0 : Nat) : Int) := by
  unfold given; rw [List.getElem?_map, List.getElem?_range hi]; rfl
theorem given_step {f : Nat → Nat} {n : Nat} {o : List Nat} {k : Nat} (hk : k < o.length) (hnd : o.Nodup) (hn : o[k] < n) :
    (given f n o k)[o[k]]? = some (f o[k] : Int) ∧ (given f n o k).set o[k] ((f o[k] : Int) + 1) = given f n o (k + 1) := by
  have hnot : o[k] ∉ o.take k := by
    intro h
    obtain ⟨j, hj, e⟩ := List.mem_iff_getElem.1 h
    rw [List.getElem_take] at e
    have hj' : j < k := by rw [List.length_take] at hj; omega
    have := (List.getElem_inj hnd).1 e
    omega
  constructor
  · rw [given_at hn, if_neg hnot]; rfl
  · apply List.ext_getElem?
    intro i
    rw [List.getElem?_set]
    by_cases hi : o[k] = i
    · subst hi
      rw [if_pos rfl, given_at hn, given_length, if_pos hn, if_pos (List.mem_iff_getElem.2 ⟨k, by rw [List.length_take]; omega, by rw [List.getElem_take]⟩)]
      rfl
    · rw [if_neg hi]
      by_cases hin : i < n
      · rw [given_at hin, given_at hin]
        have : (i ∈ o.take (k + 1)) ↔ i ∈ o.take k := by
          rw [List.take_succ_eq_append_getElem hk, List.mem_append, List.mem_singleton]
          exact ⟨fun h => h.elim id fun e => absurd e.symm hi, .inl⟩
        by_cases hm : i ∈ o.take k
        · rw [if_pos hm, if_pos (this.2 hm)]
        · rw [if_neg hm, if_neg (fun h => hm (this.1 h))]
      · rw [List.getElem?_eq_none (by rw [given_length]; omega), List.getElem?_eq_none (by rw [given_length]; omega)]
/-- The shares. -/
def shares (a W : Nat) (ws : List Int) : List Int := (List.range ws.length).map fun i => (share a ws.length W (wAt ws) i : Int)
theorem given_end {a W : Nat} {ws : List Int} {o : List Nat} (h : Sorted (rem a W (wAt ws)) ws.length o) : given (quo a W (wAt ws)) ws.length o (left a ws.length W (wAt ws)) = shares a W ws := by
  unfold given shares share
  apply List.map_congr_left
  intro i hi
  have hi' := List.mem_range.1 hi
  by_cases hr : rank (rem a W (wAt ws)) ws.length i < left a ws.length W (wAt ws)
  · rw [if_pos hr, if_pos ((h.take _ hi').2 hr)]
  · rw [if_neg hr, if_neg (fun hm => hr ((h.take _ hi').1 hm))]
theorem shares_length (a W : Nat) (ws : List Int) : (shares a W ws).length = ws.length := by simp [shares]
theorem shares_at {a W : Nat} {ws : List Int} {i : Nat} (h : i < ws.length) : (shares a W ws)[i]? = some (share a ws.length W (wAt ws) i : Int) := by
  unfold shares; rw [List.getElem?_map, List.getElem?_range h]; rfl
/-- What Split answers: an error's number, or the shares. -/
def badW (x : Int) : Bool := decide (x < 0) || decide (1000000 < x)
def splitE (a : Int) (ws : List Int) : Nat := if a < 0 then 9 else if ws.any badW ∨ total ws ws.length = 0 then 6 else 0
def splitL (a : Int) (ws : List Int) : List Int := if splitE a ws = 0 then shares a.toNat (total ws ws.length) ws else []
theorem not_bad {ws : List Int} (h : ¬ ws.any badW = true) : ∀ x ∈ ws, 0 ≤ x ∧ x ≤ 1000000 := by
  intro x hx
  have : ¬ badW x = true := fun e => h (List.any_eq_true.2 ⟨x, hx, e⟩)
  simp only [badW, Bool.or_eq_true, decide_eq_true_eq] at this
  omega
theorem splitE_zero {a : Int} {ws : List Int} (h : splitE a ws = 0) : 0 ≤ a ∧ (∀ x ∈ ws, 0 ≤ x ∧ x ≤ 1000000) ∧ 0 < total ws ws.length := by
  unfold splitE at h
  split at h
  · cases h
  · split at h
    · cases h
    · rename_i h1 h2
      exact ⟨by omega, not_bad (fun e => h2 (.inl e)), by omega⟩
theorem left_step {a W : Nat} {ws : List Int} {k : Nat} : a - sumTo (quo a W (wAt ws)) (k + 1) = a - sumTo (quo a W (wAt ws)) k - quo a W (wAt ws) k := by
  rw [sumTo]; omega
end Go.Proofs.YtjjlpjfojgkpkaaGreatDoor.M
