/-
  Layer 4, plain: an amount's text read, what is too much told.
-/
import Derived.Test.YtjjlpjfojgkpkaaGreatDoorMSpec
namespace Go.Proofs.YtjjlpjfojgkpkaaGreatDoor.M
theorem val_snoc (s : List UInt8) (k : Nat) (h : k < s.length) : val 0 (s.take (k + 1)) = if isDg s[k] then 10 * val 0 (s.take k) + (s[k].toNat - 48) else val 0 (s.take k) := by
  rw [List.take_succ_eq_append_getElem h, val_append, val]; rfl
/-- The reading's state: what has been read, or that it is too much. -/
structure ParseAt (s : List UInt8) (k x : Nat) (much : Bool) : Prop where
  le : k ≤ s.length
  small : x ≤ 10000000000000000009
  exact_ : much = false → x = val 0 (s.take k)
  great : much = true → 10000000000000000000 < val 0 (s.take k)
theorem ParseAt.start (s : List UInt8) : ParseAt s 0 0 false := ⟨Nat.zero_le _, by decide, fun _ => by simp [val], fun h => by cases h⟩
theorem ParseAt.skip {s : List UInt8} {k x : Nat} {much : Bool} (h : ParseAt s k x much) (hk : k < s.length) (hd : isDg s[k] = false) : ParseAt s (k + 1) x much := by
  have e := val_snoc s k hk
  rw [hd] at e
  exact ⟨hk, h.small, fun hm => by rw [e]; exact h.exact_ hm, fun hm => by rw [e]; exact h.great hm⟩
theorem ParseAt.digit {s : List UInt8} {k x : Nat} {much : Bool} (h : ParseAt s k x much) (hk : k < s.length) (hd : isDg s[k] = true) (hx : x ≤ 1000000000000000000) : ParseAt s (k + 1) (10 * x + (s[k].toNat - 48)) much := by
  have e := val_snoc s k hk
  have hb := dg_bound hd
  rw [hd, if_pos rfl] at e
  refine ⟨hk, by omega, fun hm => by rw [e, h.exact_ hm], fun hm => ?_⟩
  have := h.great hm
  rw [e]; omega
theorem ParseAt.over {s : List UInt8} {k x : Nat} {much : Bool} (h : ParseAt s k x much) (hk : k < s.length) (hd : isDg s[k] = true) (hx : 1000000000000000000 < x) : ParseAt s (k + 1) (10 + (s[k].toNat - 48)) true := by
  have e := val_snoc s k hk
  have hb := dg_bound hd
  rw [hd, if_pos rfl] at e
  refine ⟨hk, by omega, (fun hm => by cases hm), fun _ => ?_⟩
  rw [e]
  cases hm : much with
  | false => have := h.exact_ hm; omega
  | true => have := h.great hm; omega
end Go.Proofs.YtjjlpjfojgkpkaaGreatDoor.M
