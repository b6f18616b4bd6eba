/-
  Layer 4, plain: the form of an amount's text, looked at byte by byte.
-/
import Derived.Test.YtjjlpjfojgkpkaaGreatDoorMSpec
namespace Go.Proofs.YtjjlpjfojgkpkaaGreatDoor.M
/-- n digits, then a point (if anything stands there), then digits. -/
def fl : Nat → List UInt8 → Bool
  | _, [] => true
  | 0, c :: s => c == 46 && allDg s
  | n + 1, c :: s => isDg c && fl n s
def strip : List UInt8 → List UInt8
  | [] => []
  | c :: t => if c = 45 then t else c :: t
/-- Is s the text, with d digits, of some whole number (a 0 with a sign let in)? -/
def formT (d : Nat) (t : List UInt8) : Bool :=
  let p := if d = 0 then 0 else d + 1
  if t.length < p + 1 then false else (t.length - p == 1 || t.head? != some 48) && fl (t.length - p) t
def formB (d : Nat) (s : List UInt8) : Bool := formT d (strip s)
/-- What is left to be looked at from i on. -/
def look (n : Nat) (t : List UInt8) (i : Nat) : Bool := if i ≤ n then fl (n - i) (t.drop i) else allDg (t.drop i)
theorem look_zero (n : Nat) (t : List UInt8) : look n t 0 = fl n t := by unfold look; rw [if_pos (Nat.zero_le _)]; rfl
theorem look_point {n : Nat} {t : List UInt8} (h : n < t.length) : look n t n = (t[n] == 46 && look n t (n + 1)) := by
  unfold look
  rw [if_pos (Nat.le_refl _), if_neg (by omega), Nat.sub_self, List.drop_eq_getElem_cons h, fl]
theorem look_digit {n i : Nat} {t : List UInt8} (h : i < t.length) (hi : i ≠ n) : look n t i = (isDg t[i] && look n t (i + 1)) := by
  unfold look
  by_cases hle : i ≤ n
  · rw [if_pos hle, if_pos (by omega), List.drop_eq_getElem_cons h, show n - i = (n - (i + 1)) + 1 by omega, fl]
  · rw [if_neg hle, if_neg (by omega), List.drop_eq_getElem_cons h]; rfl
theorem look_over (n : Nat) (t : List UInt8) : look n t t.length = true := by
  unfold look
  rw [List.drop_length]
  split
  · cases n - t.length <;> rfl
  · rfl
theorem fl_parts : ∀ (n : Nat) (t : List UInt8), n ≤ t.length → fl n t = true → allDg (t.take n) = true ∧ (t.drop n = [] ∨ ∃ tl, t.drop n = 46 :: tl ∧ allDg tl = true)
  | 0, [], _, _ => ⟨rfl, .inl rfl⟩
  | n + 1, [], h, _ => by simp at h
  | 0, c :: t, _, h => by
    rw [fl, Bool.and_eq_true, beq_iff_eq] at h
    exact ⟨rfl, .inr ⟨t, by rw [List.drop_zero, h.1], h.2⟩⟩
  | n + 1, c :: t, hl, h => by
    rw [fl, Bool.and_eq_true] at h
    obtain ⟨h1, h2⟩ := fl_parts n t (by simpa using hl) h.2
    refine ⟨?_, h2⟩
    rw [List.take_succ_cons]
    show (isDg c && allDg (t.take n)) = true
    rw [h.1, h1]; rfl
theorem fl_of : ∀ (hd tl : List UInt8), allDg hd = true → allDg tl = true → fl hd.length (hd ++ 46 :: tl) = true ∧ fl hd.length hd = true
  | [], tl, _, h => ⟨by show ((46 : UInt8) == 46 && allDg tl) = true; rw [h]; rfl, rfl⟩
  | c :: hd, tl, h1, h2 => by
    have h3 : isDg c = true ∧ allDg hd = true := by
      have : (isDg c && allDg hd) = true := h1
      rwa [Bool.and_eq_true] at this
    obtain ⟨a, b⟩ := fl_of hd tl h3.2 h2
    exact ⟨by show (isDg c && fl hd.length (hd ++ 46 :: tl)) = true; rw [h3.1, a]; rfl, by show (isDg c && fl hd.length hd) = true; rw [h3.1, b]; rfl⟩
/-- THE FORM, in its parts. -/
theorem formT_iff (d : Nat) (t : List UInt8) : formT d t = true ↔ ∃ hd tl, Form d t hd tl := by
  unfold formT
  by_cases h0 : d = 0
  · subst h0
    simp only [if_true]
    constructor
    · intro h
      split at h
      · cases h
      · rename_i hl
        simp only [Nat.sub_zero, Bool.and_eq_true, Bool.or_eq_true, beq_iff_eq, bne_iff_ne] at h
        obtain ⟨h1, h2⟩ := fl_parts _ _ (Nat.le_refl _) h.2
        rw [List.take_length] at h1
        refine ⟨t, [], by simp, fun e => hl (by rw [e]; decide), h.1, h1, rfl, rfl⟩
    · rintro ⟨hd, tl, h⟩
      have e : t = hd := by have := h.parts; simpa using this
      subst e
      have hl : 0 < t.length := List.length_pos_iff.2 h.some_
      rw [if_neg (by omega)]
      simp only [Nat.sub_zero, Bool.and_eq_true, Bool.or_eq_true, beq_iff_eq, bne_iff_ne]
      exact ⟨h.ahead, (fl_of t [] h.hdDg rfl).2⟩
  · simp only [if_neg h0]
    constructor
    · intro h
      split at h
      · cases h
      · rename_i hl
        simp only [Bool.and_eq_true, Bool.or_eq_true, beq_iff_eq, bne_iff_ne] at h
        obtain ⟨h1, h2⟩ := fl_parts _ _ (Nat.sub_le _ _) h.2
        have hn : t.length - (d + 1) < t.length := by omega
        rcases h2 with h2 | ⟨tl, h2, h3⟩
        · rw [List.drop_eq_nil_iff] at h2; omega
        · have hlt := congrArg List.length h2
          rw [List.length_drop, List.length_cons] at hlt
          have htk : (t.take (t.length - (d + 1))).length = t.length - (d + 1) := by rw [List.length_take]; omega
          refine ⟨t.take (t.length - (d + 1)), tl, by rw [if_neg h0, ← h2, List.take_append_drop], fun e => ?_, ?_, h1, h3, by omega⟩
          · rw [e] at htk; simp at htk; omega
          · rcases h.1 with h4 | h4
            · left; omega
            · right
              rw [List.head?_take, if_neg (by omega)]; exact h4
    · rintro ⟨hd, tl, h⟩
      have hl : 0 < hd.length := List.length_pos_iff.2 h.some_
      have e := h.parts
      rw [if_neg h0] at e
      have hlen : t.length = hd.length + (d + 1) := by rw [e, List.length_append, List.length_cons, h.len]
      rw [if_neg (by omega), show t.length - (d + 1) = hd.length by omega]
      simp only [Bool.and_eq_true, Bool.or_eq_true, beq_iff_eq, bne_iff_ne]
      refine ⟨?_, by rw [e]; exact (fl_of hd tl h.hdDg h.tlDg).1⟩
      rcases h.ahead with h4 | h4
      · exact .inl h4
      · right
        rw [e, List.head?_append]
        cases hh : hd.head? with
        | none => exact absurd (List.head?_eq_none_iff.1 hh) h.some_
        | some c => rw [hh] at h4; exact h4
end Go.Proofs.YtjjlpjfojgkpkaaGreatDoor.M
