/-
  Layer 4, plain: a number's digits filled up with noughts and cut at the point are its text; sums in two words modulo 2^128.
-/
import Derived.Test.YtjjlpjfojgkpkaaGreatDoorMDigits
namespace Go.Proofs.YtjjlpjfojgkpkaaGreatDoor.M
theorem low_zeros (j x : Nat) (h : x < 10 ^ j) : ∀ k, low (k + j) x = List.replicate k 48 ++ low j x
  | 0 => by simp
  | k + 1 => by
    have h2 : x < 10 ^ (k + j) := Nat.lt_of_lt_of_le h (Nat.pow_le_pow_right (by decide) (by omega))
    rw [show k + 1 + j = (k + j) + 1 by omega, low_cons, low_zeros j x h k, Nat.div_eq_of_lt h2, List.replicate_succ]
    rfl
theorem low_split (d x : Nat) : ∀ n, low (n + d) x = low n (x / 10 ^ d) ++ low d x
  | 0 => by simp [low]
  | n + 1 => by
    rw [show n + 1 + d = (n + d) + 1 by omega, low_cons, low_split d x n, low_cons n, Nat.div_div_eq_div_mul, ← Nat.pow_add, Nat.add_comm d n]
    rfl
theorem dec_spec (x : Nat) : ∃ j, dec x = low (j + 1) x ∧ x < 10 ^ (j + 1) ∧ (j = 0 ∨ 10 ^ j ≤ x) := by
  induction x using Nat.strongRecOn with
  | ind x ih =>
    by_cases h : x < 10
    · exact ⟨0, dec_low 0 x (by simpa using h) (.inl rfl), by simpa using h, .inl rfl⟩
    · obtain ⟨j, _, h2, h3⟩ := ih (x / 10) (by omega)
      have a1 : x < 10 ^ (j + 1 + 1) := by rw [Nat.pow_succ]; omega
      have a2 : 10 ^ (j + 1) ≤ x := by
        rw [Nat.pow_succ]
        rcases h3 with h3 | h3
        · subst h3; simp; omega
        · omega
      exact ⟨j + 1, dec_low (j + 1) x a1 (.inr a2), a1, .inr a2⟩
/-- Filled up. -/
def pad (d x : Nat) : List UInt8 := List.replicate (d + 1 - (dec x).length) 48 ++ dec x
theorem pad_spec (d x : Nat) : ∃ n, 1 ≤ n ∧ (pad d x).length = n + d ∧ (pad d x).take n = dec (x / 10 ^ d) ∧ (pad d x).drop n = low d x := by
  obtain ⟨j, h1, h2, h3⟩ := dec_spec x
  have hl : (dec x).length = j + 1 := by rw [h1, low_length]
  by_cases hd : d ≤ j
  · have e : pad d x = low ((j - d + 1) + d) x := by
      unfold pad
      rw [hl, show d + 1 - (j + 1) = 0 by omega, List.replicate_zero, List.nil_append, h1, show j - d + 1 + d = j + 1 by omega]
    rw [e, low_split]
    refine ⟨j - d + 1, by omega, by rw [List.length_append, low_length, low_length], ?_, ?_⟩
    · rw [List.take_left' (low_length _ _)]
      refine (dec_low (j - d) _ ?_ ?_).symm
      · rw [Nat.div_lt_iff_lt_mul (Nat.pow_pos (by decide)), ← Nat.pow_add, show j - d + 1 + d = j + 1 by omega]; exact h2
      · by_cases hj : j = d
        · left; omega
        · right
          rcases h3 with h3 | h3
          · omega
          · rw [Nat.le_div_iff_mul_le (Nat.pow_pos (by decide)), ← Nat.pow_add, show j - d + d = j by omega]; exact h3
    · rw [List.drop_left' (low_length _ _)]
  · have hx : x < 10 ^ d := Nat.lt_of_lt_of_le h2 (Nat.pow_le_pow_right (by decide) (by omega))
    have e : pad d x = low (1 + d) x := by
      unfold pad
      rw [hl, h1, ← low_zeros (j + 1) x h2, show d + 1 - (j + 1) + (j + 1) = 1 + d by omega]
    rw [e, low_split]
    refine ⟨1, by omega, by rw [List.length_append, low_length, low_length], ?_, ?_⟩
    · rw [List.take_left' (low_length _ _), Nat.div_eq_of_lt hx]
      exact (dec_low 0 0 (by decide) (.inl rfl)).symm
    · rw [List.drop_left' (low_length _ _)]
theorem pad_text (d x : Nat) : M.text d x = (pad d x).take ((pad d x).length - d) ++ if d = 0 then [] else 46 :: (pad d x).drop ((pad d x).length - d) := by
  obtain ⟨n, h1, h2, h3, h4⟩ := pad_spec d x
  rw [h2, Nat.add_sub_cancel, h3, h4]
  rfl
theorem pad_zero (x : Nat) : M.text 0 x = pad 0 x := by
  rw [pad_text, if_pos rfl, List.append_nil, Nat.sub_zero, List.take_length]

/-! ### A sum in two words -/
def TwoMod (h l : Nat) (v : Int) : Prop := h < 18446744073709551616 ∧ l < 18446744073709551616 ∧ (h : Int) * 18446744073709551616 + l = v % 340282366920938463463374607431768211456
theorem TwoMod.zero : TwoMod 0 0 0 := ⟨by decide, by decide, by decide⟩
theorem TwoMod.step {h l : Nat} {v x : Int} (t : TwoMod h l v) (x0 : -9223372036854775808 ≤ x) (x1 : x < 9223372036854775808) :
    ∃ (xl xh c l' h' : Nat), (xl : Int) = x % 18446744073709551616 ∧ (xh : Int) = x / 9223372036854775808 % 18446744073709551616 ∧ c = (l + xl) / 18446744073709551616 ∧ l' = (l + xl) % 18446744073709551616 ∧ h' = (h + xh + c) % 18446744073709551616 ∧ TwoMod h' l' (v + x) := by
  obtain ⟨t1, t2, t3⟩ := t
  obtain ⟨xl, xh, e1, e2, e3⟩ : ∃ xl xh : Nat, (xl : Int) = x % 18446744073709551616 ∧ (xh : Int) = x / 9223372036854775808 % 18446744073709551616 ∧ ((xh : Int) * 18446744073709551616 + xl = x ∨ (xh : Int) * 18446744073709551616 + xl = x + 340282366920938463463374607431768211456) := by
    by_cases hx : x < 0
    · exact ⟨(x + 18446744073709551616).toNat, 18446744073709551615, by omega, by omega, by omega⟩
    · exact ⟨x.toNat, 0, by omega, by omega, by omega⟩
  have hl : xl < 18446744073709551616 := by omega
  have hh : xh < 18446744073709551616 := by omega
  refine ⟨xl, xh, _, _, _, e1, e2, rfl, rfl, rfl, by omega, by omega, ?_⟩
  clear e1 e2
  have d1 := Nat.div_add_mod (l + xl) 18446744073709551616
  have d2 := Nat.div_add_mod (h + xh + (l + xl) / 18446744073709551616) 18446744073709551616
  have m1 := Nat.mod_lt (l + xl) (show 0 < 18446744073709551616 by decide)
  have m2 := Nat.mod_lt (h + xh + (l + xl) / 18446744073709551616) (show 0 < 18446744073709551616 by decide)
  generalize (l + xl) % 18446744073709551616 = l' at *
  generalize (l + xl) / 18446744073709551616 = c at *
  generalize (h + xh + c) % 18446744073709551616 = h' at *
  generalize (h + xh + c) / 18446744073709551616 = f at *
  omega
theorem TwoMod.fit {h l : Nat} {v : Int} (t : TwoMod h l v) (v0 : -85070591730234615865843651857942052864 ≤ v) (v1 : v ≤ 85070591730234615865843651857942052864) :
    ∃ s : Int, -9223372036854775808 ≤ s ∧ s < 9223372036854775808 ∧ s = (if l < 9223372036854775808 then (l : Int) else (l : Int) - 18446744073709551616) ∧ (((h : Int) = s / 9223372036854775808 % 18446744073709551616 ∧ fit v = some s) ∨ (¬ (h : Int) = s / 9223372036854775808 % 18446744073709551616 ∧ fit v = none)) := by
  obtain ⟨t1, t2, t3⟩ := t
  refine ⟨_, ?_, ?_, rfl, ?_⟩
  · split <;> omega
  · split <;> omega
  · unfold M.fit
    split
    · by_cases hh : h = 0
      · left
        refine ⟨by omega, ?_⟩
        rw [if_pos (by omega)]; congr 1; omega
      · right
        refine ⟨by omega, if_neg (by omega)⟩
    · by_cases hh : h = 18446744073709551615
      · left
        refine ⟨by omega, ?_⟩
        rw [if_pos (by omega)]; congr 1; omega
      · right
        refine ⟨by omega, if_neg (by omega)⟩
end Go.Proofs.YtjjlpjfojgkpkaaGreatDoor.M
