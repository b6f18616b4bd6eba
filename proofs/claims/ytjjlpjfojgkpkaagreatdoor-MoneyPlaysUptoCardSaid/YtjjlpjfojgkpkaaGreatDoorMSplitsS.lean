/-
  Layer 4, plain: what MoneySplits adds up.
-/
import Derived.Test.YtjjlpjfojgkpkaaGreatDoorMGiveS
namespace Go.Proofs.YtjjlpjfojgkpkaaGreatDoor.M

def sumU (ws : List Int) : Nat → Nat
  | 0 => 0
  | k + 1 => (sumU ws k + (ws.getD k 0 % 18446744073709551616).toNat) % 18446744073709551616
theorem sumU_lt (ws : List Int) : ∀ k, sumU ws k < 18446744073709551616
  | 0 => by show 0 < 18446744073709551616; decide
  | k + 1 => Nat.mod_lt _ (by decide)
def goodK (a : Int) (ws : List Int) : Nat → Bool
  | 0 => decide (0 ≤ a)
  | k + 1 => goodK a ws k && decide (0 ≤ ws.getD k 0) && decide (ws.getD k 0 ≤ 1000000)
theorem goodK_iff (a : Int) (ws : List Int) : ∀ k, k ≤ ws.length → (goodK a ws k = true ↔ 0 ≤ a ∧ ∀ i, i < k → 0 ≤ ws.getD i 0 ∧ ws.getD i 0 ≤ 1000000)
  | 0, _ => by simp [goodK]
  | k + 1, h => by
    rw [goodK, Bool.and_eq_true, Bool.and_eq_true, goodK_iff a ws k (by omega), decide_eq_true_eq, decide_eq_true_eq]
    constructor
    · rintro ⟨⟨⟨h1, h2⟩, h3⟩, h4⟩
      refine ⟨h1, fun i hi => ?_⟩
      by_cases e : i = k
      · subst e; exact ⟨h3, h4⟩
      · exact h2 i (by omega)
    · rintro ⟨h1, h2⟩
      exact ⟨⟨⟨h1, fun i hi => h2 i (by omega)⟩, (h2 k (by omega)).1⟩, (h2 k (by omega)).2⟩
theorem getD_at {ws : List Int} {k : Nat} (h : k < ws.length) : ws.getD k 0 = ws[k] := by rw [List.getD_eq_getElem?_getD, List.getElem?_eq_getElem h]; rfl
theorem goodK_any {a : Int} {ws : List Int} (ha : 0 ≤ a) : goodK a ws ws.length = !ws.any badW := by
  rw [Bool.eq_iff_iff, goodK_iff a ws _ (Nat.le_refl _), Bool.not_eq_true', List.any_eq_false]
  constructor
  · rintro ⟨_, h⟩ x hx
    obtain ⟨i, hi, rfl⟩ := List.getElem_of_mem hx
    have := h i hi
    rw [getD_at hi] at this
    simp only [badW, Bool.or_eq_true, decide_eq_true_eq]
    omega
  · intro h
    refine ⟨ha, fun i hi => ?_⟩
    have := h _ (List.getElem_mem hi)
    simp only [badW, Bool.or_eq_true, decide_eq_true_eq] at this
    rw [getD_at hi]
    omega
theorem sumU_total {ws : List Int} (hw : ∀ x ∈ ws, 0 ≤ x ∧ x ≤ 1000000) (hl : ws.length ≤ 17592186044416) : ∀ k, k ≤ ws.length → sumU ws k = total ws k
  | 0, _ => rfl
  | k + 1, h => by
    have ih := sumU_total hw hl k (by omega)
    have hb := total_bound ws hw (k + 1) h
    have hx := hw _ (List.getElem_mem (show k < ws.length by omega))
    rw [total_succ] at hb ⊢
    rw [sumU, ih, getD_at (by omega)]
    rw [wAt_get (by omega)] at hb ⊢
    generalize ws[k] = x at *
    omega
end Go.Proofs.YtjjlpjfojgkpkaaGreatDoor.M
