/-
  Layer 4, plain: two words divided by one, digit by digit of 32 bits (the library's Div64).
-/
namespace Go.Proofs.YtjjlpjfojgkpkaaGreatDoor.M

/-- The digit's quotient: (u B + d) / (y1 B + y0). -/
def digQ (u d y1 y0 : Nat) : Nat := (u * 4294967296 + d) / (y1 * 4294967296 + y0)
theorem digQ_lt_iff {u d y1 y0 q r : Nat} (hy : 0 < y1) (h : u = q * y1 + r) : digQ u d y1 y0 < q ↔ r * 4294967296 + d < q * y0 := by
  unfold digQ
  rw [Nat.div_lt_iff_lt_mul (by omega), h, Nat.add_mul, Nat.mul_add, Nat.mul_assoc]
  omega
theorem digQ_lt {u d y1 y0 : Nat} (hd : d < 4294967296) (hu : u < y1 * 4294967296 + y0) : digQ u d y1 y0 < 4294967296 := by
  unfold digQ
  rw [Nat.div_lt_iff_lt_mul (by omega)]
  have := Nat.mul_le_mul_right 4294967296 (show u + 1 ≤ y1 * 4294967296 + y0 from hu)
  rw [Nat.add_mul] at this
  rw [Nat.mul_comm 4294967296]
  omega
/-- The guess q, and what it leaves, r. -/
structure DigAt (u d y1 y0 q r : Nat) : Prop where
  sum : u = q * y1 + r
  ge : digQ u d y1 y0 ≤ q
  le : q ≤ 4294967297
theorem DigAt.start {u d y1 y0 : Nat} (h1 : 2147483648 ≤ y1) (h0 : y0 < 4294967296) (hd : d < 4294967296) (hu : u < y1 * 4294967296 + y0) : DigAt u d y1 y0 (u / y1) (u % y1) := by
  refine ⟨by rw [Nat.mul_comm]; exact (Nat.div_add_mod u y1).symm, ?_, ?_⟩
  · unfold digQ
    have a : (u * 4294967296 + d) / (y1 * 4294967296 + y0) ≤ (u * 4294967296 + d) / (y1 * 4294967296) := Nat.div_le_div_left (by omega) (by omega)
    have b : (u * 4294967296 + d) / (y1 * 4294967296) = u / y1 := by
      rw [Nat.mul_comm y1, ← Nat.div_div_eq_div_mul]
      congr 1
      omega
    omega
  · have : u / y1 < 4294967298 := by
      rw [Nat.div_lt_iff_lt_mul (by omega)]
      omega
    omega
/-- One less. -/
theorem DigAt.less {u d y1 y0 q r : Nat} (h : DigAt u d y1 y0 q r) (hlt : digQ u d y1 y0 < q) : DigAt u d y1 y0 (q - 1) (r + y1) := by
  refine ⟨?_, by omega, by have := h.le; omega⟩
  have := h.sum
  obtain ⟨k, rfl⟩ : ∃ k, q = k + 1 := ⟨q - 1, by omega⟩
  rw [Nat.add_mul] at this
  rw [Nat.add_sub_cancel]
  omega
/-- It is the digit, where the test fails .. -/
theorem DigAt.done {u d y1 y0 q r : Nat} (h : DigAt u d y1 y0 q r) (hlt : ¬ digQ u d y1 y0 < q) : q = digQ u d y1 y0 := by
  have := h.ge; omega
/-- .. and where what it leaves is too much, behind one less. -/
theorem DigAt.over {u d y1 y0 q r : Nat} (h1 : 0 < y1) (h0 : y0 < 4294967296) (h : DigAt u d y1 y0 q r) (hlt : digQ u d y1 y0 < q) (hr : 4294967296 ≤ r + y1) : q - 1 = digQ u d y1 y0 := by
  have h2 := h.less hlt
  refine h2.done fun hn => ?_
  have h3 := (digQ_lt_iff (d := d) (y0 := y0) h1 h2.sum).1 hn
  have h4 : (q - 1) * y0 ≤ 4294967296 * y0 := Nat.mul_le_mul_right _ (by have := h.le; omega)
  have h5 := Nat.mul_le_mul_right 4294967296 hr
  omega
theorem DigAt.test {u d y1 y0 q r : Nat} (hy : 0 < y1) (h : DigAt u d y1 y0 q r) : digQ u d y1 y0 < q ↔ r * 4294967296 + d < q * y0 := digQ_lt_iff hy h.sum
/-- What is left behind the digit. -/
theorem digQ_rest {u d y1 y0 : Nat} : u * 4294967296 + d - digQ u d y1 y0 * (y1 * 4294967296 + y0) = (u * 4294967296 + d) % (y1 * 4294967296 + y0) ∧ digQ u d y1 y0 * (y1 * 4294967296 + y0) ≤ u * 4294967296 + d := by
  have := Nat.div_add_mod (u * 4294967296 + d) (y1 * 4294967296 + y0)
  unfold digQ
  rw [Nat.mul_comm ((u * 4294967296 + d) / (y1 * 4294967296 + y0))]
  omega

/-- THE TWO DIGITS are the quotient, what is left the rest: U = hi 2^64 + lo shifted by 2^s. -/
theorem two_digits {U yo p u d1 d0 y Q1 R1 Q0 R0 : Nat} (hyo : 0 < yo) (hp : 0 < p) (hy : y = yo * p) (hU : U * p = (u * 4294967296 + d1) * 4294967296 + d0) (e1 : u * 4294967296 + d1 = Q1 * y + R1) (e0 : R1 * 4294967296 + d0 = Q0 * y + R0) (hR : R0 < y) :
    U / yo = Q1 * 4294967296 + Q0 ∧ U % yo = R0 / p := by
  have hsum : U * p = y * (Q1 * 4294967296 + Q0) + R0 := by
    generalize 4294967296 = B at *
    rw [hU, e1, Nat.add_mul, Nat.mul_add y, Nat.add_assoc, e0, Nat.mul_comm y Q0, ← Nat.mul_assoc, Nat.mul_comm y Q1, Nat.add_assoc]
  constructor
  · rw [← Nat.mul_div_mul_right U yo hp, ← hy, hsum, Nat.mul_add_div (by rw [hy]; exact Nat.mul_pos hyo hp), Nat.div_eq_of_lt hR, Nat.add_zero]
  · have h2 : U * p % y = R0 := by rw [hsum, Nat.mul_add_mod, Nat.mod_eq_of_lt hR]
    rw [hy, Nat.mul_mod_mul_right] at h2
    rw [← h2, Nat.mul_div_cancel _ hp]
/-- A round of the search for a digit. -/
theorem dig_round {u d y1 y0 q r : Nat} (h1 : 2147483648 ≤ y1) (h0 : y0 < 4294967296) (hd : d < 4294967296) (hu : u < y1 * 4294967296 + y0) (h : DigAt u d y1 y0 q r) (_hr : r < 4294967296) :
    (q = digQ u d y1 y0 ∧ q < 4294967296 ∧ ¬ 4294967296 * r + d < q * y0 ∧ q * y0 < 18446744073709551616) ∨
    (1 ≤ q ∧ (4294967296 ≤ q ∨ (q < 4294967296 ∧ 4294967296 * r + d < q * y0 ∧ q * y0 < 18446744073709551616)) ∧ ((4294967296 ≤ r + y1 ∧ q - 1 = digQ u d y1 y0) ∨ (r + y1 < 4294967296 ∧ DigAt u d y1 y0 (q - 1) (r + y1)))) := by
  have ht := h.test (by omega)
  rw [Nat.mul_comm r] at ht
  have hQ := digQ_lt hd hu
  have hm : q < 4294967296 → q * y0 < 18446744073709551616 := fun hq => by
    have h3 : q * y0 ≤ 4294967295 * 4294967295 := Nat.mul_le_mul (by omega) (by omega)
    omega
  by_cases hlt : digQ u d y1 y0 < q
  · right
    refine ⟨by omega, ?_, ?_⟩
    · by_cases hq : 4294967296 ≤ q
      · exact .inl hq
      · exact .inr ⟨by omega, ht.1 hlt, hm (by omega)⟩
    · by_cases hr1 : 4294967296 ≤ r + y1
      · exact .inl ⟨hr1, h.over (by omega) h0 hlt hr1⟩
      · exact .inr ⟨by omega, h.less hlt⟩
  · left
    have e := h.done hlt
    exact ⟨e, by omega, fun hh => hlt (ht.2 hh), hm (by omega)⟩
/-- The two words, shifted. -/
theorem shift_parts {hi lo y s : Nat} (hs : s ≤ 63) (hlo : lo < 18446744073709551616) (hhi : hi < y) (hy : y * 2 ^ s < 18446744073709551616) :
    hi * 2 ^ s < 18446744073709551616 ∧ lo / 2 ^ (64 - s) < 2 ^ s ∧ (hi * 18446744073709551616 + lo) * 2 ^ s = (hi * 2 ^ s + lo / 2 ^ (64 - s)) * 18446744073709551616 + lo * 2 ^ s % 18446744073709551616 ∧ hi * 2 ^ s + lo / 2 ^ (64 - s) < y * 2 ^ s := by
  have hp : 2 ^ (64 - s) * 2 ^ s = 18446744073709551616 := by rw [← Nat.pow_add, show 64 - s + s = 64 by omega]
  have p0 : 0 < 2 ^ s := Nat.pow_pos (by decide)
  have p1 : 0 < 2 ^ (64 - s) := Nat.pow_pos (by decide)
  have e : lo * 2 ^ s / 18446744073709551616 = lo / 2 ^ (64 - s) := by rw [← hp, Nat.mul_div_mul_right _ _ p0]
  have h1 : hi * 2 ^ s < 18446744073709551616 := Nat.lt_of_le_of_lt (Nat.mul_le_mul_right _ (Nat.le_of_lt hhi)) hy
  have h2 : lo / 2 ^ (64 - s) < 2 ^ s := by rw [Nat.div_lt_iff_lt_mul p1, Nat.mul_comm, hp]; exact hlo
  have h3 := Nat.div_add_mod (lo * 2 ^ s) 18446744073709551616
  rw [e] at h3
  have h4 : hi * 2 ^ s + 2 ^ s ≤ y * 2 ^ s := by rw [← Nat.succ_mul]; exact Nat.mul_le_mul_right _ hhi
  refine ⟨h1, h2, ?_, by omega⟩
  rw [Nat.add_mul, Nat.mul_right_comm, Nat.add_mul]
  omega
theorem or_add {hi s x : Nat} (hx : x < 2 ^ s) : hi * 2 ^ s ||| x = hi * 2 ^ s + x := by
  rw [Nat.mul_comm]; exact (Nat.two_pow_add_eq_or_of_lt hx hi).symm
end Go.Proofs.YtjjlpjfojgkpkaaGreatDoor.M
