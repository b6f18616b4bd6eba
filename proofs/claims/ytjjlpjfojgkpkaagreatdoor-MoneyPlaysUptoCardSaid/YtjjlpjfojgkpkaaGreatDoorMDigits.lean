/-
  Layer 4, plain: a text made from its last digit on.
-/
import Derived.Test.YtjjlpjfojgkpkaaGreatDoorMSpec
namespace Go.Proofs.YtjjlpjfojgkpkaaGreatDoor.M
theorem low_cons : ∀ (j x : Nat), low (j + 1) x = dg (x / 10 ^ j % 10) :: low j x
  | 0, x => by simp [low]
  | j + 1, x => by
    rw [low, low_cons j (x / 10), List.cons_append, Nat.div_div_eq_div_mul, Nat.pow_succ, Nat.mul_comm 10]
    rfl
theorem dec_low : ∀ (j x : Nat), x < 10 ^ (j + 1) → (j = 0 ∨ 10 ^ j ≤ x) → dec x = low (j + 1) x
  | 0, x, h, _ => by
    rw [dec, dif_pos (by simpa using h), low, low, Nat.mod_eq_of_lt (by simpa using h)]; rfl
  | j + 1, x, h, h2 => by
    have hp : 10 ≤ 10 ^ (j + 1) := by rw [Nat.pow_succ]; have := Nat.pow_pos (n := j) (show 0 < 10 by decide); omega
    have hx : 10 ^ (j + 1) ≤ x := by
      rcases h2 with h2 | h2
      · omega
      · exact h2
    rw [dec, dif_neg (by omega), dec_low j (x / 10) (by rw [Nat.pow_succ] at h; omega) (by right; rw [Nat.pow_succ] at hx; omega)]
    rfl
/-- A text's end, digit by digit from the last one on: i rounds done. -/
structure TextAt (X d i x : Nat) (l : List UInt8) : Prop where
  x : x = X / 10 ^ i
  low : i ≤ d → l = low i X
  high : d < i → l = M.low (i - d) (X / 10 ^ d) ++ (if d = 0 then [] else 46 :: M.low d X) ∧ (i = d + 1 ∨ 0 < X / 10 ^ (i - 1))
  len : l.length ≤ i + 1
theorem TextAt.start (X d : Nat) : TextAt X d 0 X [] := ⟨by simp, fun _ => rfl, fun h => by omega, by simp⟩
theorem next_x {X i x : Nat} (h : x = X / 10 ^ i) : x / 10 = X / 10 ^ (i + 1) := by rw [h, Nat.div_div_eq_div_mul, Nat.pow_succ]
theorem TextAt.below {X d i x : Nat} {l : List UInt8} (h : TextAt X d i x l) (hi : i < d) : TextAt X d (i + 1) (x / 10) (dg (x % 10) :: l) := by
  refine ⟨next_x h.x, fun _ => ?_, fun h2 => by omega, by have := h.len; simp; omega⟩
  rw [low_cons, ← h.x, ← h.low (by omega)]
theorem TextAt.point {X d x : Nat} {l : List UInt8} (h : TextAt X d d x l) (hd : 0 < d) : TextAt X d (d + 1) (x / 10) (dg (x % 10) :: 46 :: l) := by
  refine ⟨next_x h.x, fun h2 => by omega, fun _ => ⟨?_, .inl rfl⟩, ?_⟩
  · rw [show d + 1 - d = 1 by omega, if_neg (by omega), ← h.low (Nat.le_refl d), ← h.x]
    simp [M.low]
  · rw [h.low (Nat.le_refl d)]; simp [low_length]
theorem TextAt.whole {X x : Nat} {l : List UInt8} (h : TextAt X 0 0 x l) : TextAt X 0 1 (x / 10) (dg (x % 10) :: l) := by
  refine ⟨next_x h.x, fun h2 => by omega, fun _ => ⟨?_, .inl rfl⟩, ?_⟩
  · rw [h.low (Nat.le_refl 0), h.x]
    simp [M.low]
  · rw [h.low (Nat.le_refl 0)]; simp [M.low]
theorem TextAt.above {X d i x : Nat} {l : List UInt8} (h : TextAt X d i x l) (hi : d < i) (hx : 0 < x) : TextAt X d (i + 1) (x / 10) (dg (x % 10) :: l) := by
  obtain ⟨h1, h2⟩ := h.high hi
  refine ⟨next_x h.x, fun h2 => by omega, fun _ => ⟨?_, .inr (by rw [Nat.add_sub_cancel, ← h.x]; exact hx)⟩, by have := h.len; simp; omega⟩
  rw [show i + 1 - d = (i - d) + 1 by omega, low_cons, Nat.div_div_eq_div_mul, ← Nat.pow_add, show d + (i - d) = i by omega, ← h.x, h1]
  rfl
theorem TextAt.done {X d i x : Nat} {l : List UInt8} (h : TextAt X d i x l) (hi : d < i) (hx : x = 0) : l = text d X := by
  obtain ⟨h1, h2⟩ := h.high hi
  have hz : X / 10 ^ i = 0 := by rw [← h.x]; exact hx
  obtain ⟨j, rfl⟩ : ∃ j, i = d + (j + 1) := ⟨i - d - 1, by omega⟩
  unfold text
  rw [h1, show d + (j + 1) - d = j + 1 by omega]
  congr 1
  have hp : 0 < 10 ^ (j + 1) := Nat.pow_pos (by decide)
  rw [Nat.pow_add, ← Nat.div_div_eq_div_mul] at hz
  have hlt : X / 10 ^ d < 10 ^ (j + 1) := by
    rcases Nat.div_eq_zero_iff.1 hz with h0 | h0
    · omega
    · exact h0
  refine (dec_low j _ hlt ?_).symm
  rcases h2 with h2 | h2
  · left; omega
  · right
    rw [show d + (j + 1) - 1 = d + j by omega, Nat.pow_add, ← Nat.div_div_eq_div_mul] at h2
    have hp2 : 0 < 10 ^ j := Nat.pow_pos (by decide)
    exact (Nat.div_pos_iff.1 h2).2
theorem TextAt.bound {X d i x : Nat} {l : List UInt8} (h : TextAt X d i x l) (hX : X < 18446744073709551616) (hx : 0 < x) : i ≤ 19 := by
  rcases Nat.lt_or_ge 19 i with hi | hi
  · have h1 : 10 ^ 20 ≤ 10 ^ i := Nat.pow_le_pow_right (by decide) hi
    have h2 : X / 10 ^ i = 0 := Nat.div_eq_of_lt (Nat.lt_of_lt_of_le hX (Nat.le_trans (by decide) h1))
    rw [← h.x] at h2; omega
  · exact hi
end Go.Proofs.YtjjlpjfojgkpkaaGreatDoor.M
