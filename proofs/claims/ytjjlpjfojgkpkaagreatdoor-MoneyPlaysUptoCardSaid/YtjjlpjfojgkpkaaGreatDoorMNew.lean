/-
  What Split answers, as a row of the call's own.
-/
import Derived.Test.YtjjlpjfojgkpkaaGreatDoorMSplit
import Derived.Test.YtjjlpjfojgkpkaaGreatDoorNewL
namespace Go.Proofs.YtjjlpjfojgkpkaaGreatDoor
open Go.RowKit Go.WideShapes
set_option maxRecDepth 100000

theorem RowI.newL {w : World} {g : Nat} {T : TypeId} {xs : List Int} {B n : Nat} (h : RowI .i64 w g T xs) (hB : B ≤ g) (hl : xs.length ≤ 17592186044416) (hn : n = xs.length) : NewL T B w (.slice (some ⟨g, 0, none⟩) n n) xs := by
  subst hn
  refine ⟨⟨by simp, .inr ⟨g, _, cellsI .i64 xs, rfl, Nat.zero_le _, h, Nat.le_refl _, by unfold maxLen; omega, by rw [cellsI_size, Nat.mul_one], ?_⟩⟩, fun k e => ?_⟩
  · unfold cellsI
    rw [Nat.mul_one, List.take_of_length_le (by simp)]
  · have e' : g = k := by injection e
    omega
theorem SplitV.new {ad : Nat → Addr} {a : Int} {ws : List Int} {w w' : World} {e : Ending} (h : SplitV ad a ws w e w') (hl : ws.length ≤ 17592186044416) :
    ∃ v, e = .returned (.tuple #[v, errV ad (M.splitE a ws)]) ∧ Qt w w' ∧ NewL 2 w.heap.size w' v (ansS a ws) := by
  obtain ⟨v, rfl, q, h⟩ := h
  refine ⟨v, rfl, q, ?_⟩
  rcases h with ⟨h1, rfl⟩ | ⟨h1, g, rfl, hg, hr⟩
  · unfold ansS
    rw [if_neg h1]
    exact ⟨World.ownsRow_nil _ _ _ _, fun g e => by cases e⟩
  · unfold ansS
    rw [if_pos h1]
    exact hr.newL hg (by rw [M.shares_length]; exact hl) (M.shares_length ..).symm
end Go.Proofs.YtjjlpjfojgkpkaaGreatDoor
