/-
  Layer 4, plain: an amount's text is read as the amount; what is read is the text of what was read.
-/
import Derived.Test.YtjjlpjfojgkpkaaGreatDoorMIsS
namespace Go.Proofs.YtjjlpjfojgkpkaaGreatDoor.M

theorem strip_minus (t : List UInt8) : strip (45 :: t) = t := by
  unfold strip; simp
theorem head_text (d x : Nat) : (M.text d x).head? ≠ some 45 := by
  obtain ⟨c, s, h, hc⟩ := text_head d x
  rw [h]
  intro e
  simp at e
  rw [e] at hc
  exact absurd hc (by decide)
theorem strip_other {s : List UInt8} (h : ¬ s.head? = some 45) : strip s = s := by
  cases s with
  | nil => rfl
  | cons c t =>
    simp at h
    unfold strip
    simp [h]
theorem strip_text (d x : Nat) : strip (M.text d x) = M.text d x := strip_other (head_text d x)
theorem parse_text {d : Nat} (hd : d ≤ 6) {a : Int} (a0 : -9223372036854775808 ≤ a) (a1 : a < 9223372036854775808) : parseR (textI d a) d = (a, 0) := by
  unfold parseR
  rw [if_neg (by omega), Int.toNat_natCast]
  unfold textI
  have hF : ∀ x, formT d (M.text d x) = true := fun x => (formT_iff d _).2 ⟨_, _, text_form d x⟩
  by_cases h : a < 0
  · rw [if_pos h]
    have hv : val 0 (45 :: M.text d a.natAbs) = a.natAbs := by rw [← val_strip, strip_minus, val_text]
    rw [if_neg (by unfold formB; rw [strip_minus, hF]; decide), if_pos (show (45 :: M.text d a.natAbs).head? = some 45 from rfl), hv, if_neg (by omega), if_neg (by omega)]
    congr 1
    omega
  · rw [if_neg h]
    have hv : val 0 (M.text d a.natAbs) = a.natAbs := val_text d _
    rw [if_neg (by unfold formB; rw [strip_text, hF]; decide), if_neg (head_text d _), hv, if_neg (by omega)]
    congr 1
    omega
theorem parse_kind {s : List UInt8} {d : Nat} (hd : d ≤ 6) : (parseR s d).2 = 0 ∨ ((parseR s d).1 = 0 ∧ ((parseR s d).2 = 7 ∨ (parseR s d).2 = 10)) := by
  unfold parseR
  rw [if_neg (by omega)]
  split
  · right; exact ⟨rfl, .inl rfl⟩
  · split
    · split
      · right; exact ⟨rfl, .inl rfl⟩
      · split
        · right; exact ⟨rfl, .inr rfl⟩
        · left; rfl
    · split
      · right; exact ⟨rfl, .inr rfl⟩
      · left; rfl
theorem strip_head {s : List UInt8} (h : s.head? = some 45) : s = 45 :: strip s := by
  cases s with
  | nil => cases h
  | cons c t =>
    simp at h
    subst h
    rw [strip_minus]
theorem parse_back {s : List UInt8} {d : Nat} (hd : d ≤ 6) (h : (parseR s d).2 = 0) : textI d (parseR s d).1 = s ∧ -9223372036854775808 ≤ (parseR s d).1 ∧ (parseR s d).1 < 9223372036854775808 := by
  unfold parseR at h ⊢
  rw [if_neg (by omega), Int.toNat_natCast] at h ⊢
  by_cases h1 : formB d s = false
  · rw [if_pos h1] at h; cases h
  · rw [if_neg h1] at h ⊢
    have h1' : formT d (strip s) = true := by simpa [formB] using h1
    obtain ⟨hd', tl, hf⟩ := (formT_iff d _).1 h1'
    have ht := hf.text
    rw [val_strip] at ht
    by_cases h2 : s.head? = some 45
    · rw [if_pos h2] at h ⊢
      by_cases h3 : val 0 s = 0
      · rw [if_pos h3] at h; cases h
      · rw [if_neg h3] at h ⊢
        by_cases h4 : 9223372036854775808 < val 0 s
        · rw [if_pos h4] at h; cases h
        · rw [if_neg h4]
          refine ⟨?_, by show -9223372036854775808 ≤ -(val 0 s : Int); omega, by show -(val 0 s : Int) < _; omega⟩
          unfold textI
          rw [if_pos (by show -(val 0 s : Int) < 0; omega), show (-(val 0 s : Int)).natAbs = val 0 s by omega, ht]
          exact (strip_head h2).symm
    · rw [if_neg h2] at h ⊢
      by_cases h4 : 9223372036854775808 ≤ val 0 s
      · rw [if_pos h4] at h; cases h
      · rw [if_neg h4]
        refine ⟨?_, by show -9223372036854775808 ≤ (val 0 s : Int); omega, by show (val 0 s : Int) < _; omega⟩
        unfold textI
        rw [if_neg (by show ¬ (val 0 s : Int) < 0; omega), show ((val 0 s : Int)).natAbs = val 0 s by omega, ht]
        exact strip_other h2
theorem dec_len : ∀ (k x : Nat), x < 10 ^ (k + 1) → (dec x).length ≤ k + 1
  | 0, x, h => by
    rw [dec, dif_pos (by omega)]
    simp
  | k + 1, x, h => by
    by_cases h0 : x < 10
    · rw [dec, dif_pos h0]; simp
    · rw [dec, dif_neg h0, List.length_append]
      have := dec_len k (x / 10) (by rw [Nat.pow_succ] at h; omega)
      simp only [List.length_cons, List.length_nil]
      omega
theorem textI_len {d : Nat} (hd : d ≤ 6) {a : Int} (a0 : -9223372036854775808 ≤ a) (a1 : a < 9223372036854775808) : (textI d a).length ≤ 28 := by
  have h : ∀ x, x ≤ 9223372036854775808 → (M.text d x).length ≤ 27 := by
    intro x hx
    unfold M.text
    have h1 := dec_len 18 (x / 10 ^ d) (Nat.lt_of_le_of_lt (Nat.div_le_self _ _) (Nat.lt_of_le_of_lt hx (by decide)))
    rw [List.length_append]
    split
    · simp; omega
    · simp only [List.length_cons, low_length]; omega
  unfold textI
  split
  · have := h a.natAbs (by omega)
    simp; omega
  · exact Nat.le_trans (h a.natAbs (by omega)) (by decide)
end Go.Proofs.YtjjlpjfojgkpkaaGreatDoor.M
