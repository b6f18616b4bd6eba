/-
  Layer 4, plain: an amount's text parted at the point, its point struck, its digits read by the library.
-/
import Derived.Test.YtjjlpjfojgkpkaaGreatDoorMForms
import Derived.Lib.ReplaceLaws
import Derived.Lib.IndexMore
import Derived.Lib.IndexBytes
import Derived.Lib.SlTrimSet
import Derived.Lib.ParseIntB
namespace Go.Proofs.YtjjlpjfojgkpkaaGreatDoor.M
open Go.Lib

/-! ### The point -/
theorem byte_none : ∀ (l : List UInt8), (46 : UInt8) ∉ l → indexByte l 46 = -1
  | [], _ => rfl
  | c :: l, h => by
    have h1 : (c == 46) = false := by rw [beq_eq_false_iff_ne]; intro e; exact h (by rw [e]; simp)
    have h2 := byte_none l (fun hm => h (by simp [hm]))
    simp [indexByte, h1, h2]
theorem byte_at : ∀ (a b : List UInt8), (46 : UInt8) ∉ a → indexByte (a ++ 46 :: b) 46 = a.length
  | [], b, _ => by simp [indexByte]
  | c :: a, b, h => by
    have h1 : (c == 46) = false := by rw [beq_eq_false_iff_ne]; intro e; exact h (by rw [e]; simp)
    have h2 := byte_at a b (fun hm => h (by simp [hm]))
    rw [List.cons_append, indexByte, h1, h2]
    have h3 : ((a.length : Int) == -1) = false := by rw [beq_eq_false_iff_ne]; omega
    rw [h3]
    simp
theorem point_or (t : List UInt8) : ((46 : UInt8) ∉ t) ∨ ∃ a b, t = a ++ 46 :: b ∧ (46 : UInt8) ∉ a := by
  induction t with
  | nil => left; simp
  | cons c t ih =>
    by_cases hc : c = 46
    · right; exact ⟨[], t, by rw [hc]; rfl, by simp⟩
    · rcases ih with h | ⟨a, b, rfl, h⟩
      · left; simp [h, Ne.symm hc]
      · right; exact ⟨c :: a, b, rfl, by simp [h, Ne.symm hc]⟩
theorem cut_none {t : List UInt8} (h : (46 : UInt8) ∉ t) : cut t [46] = (t, [], false) := by
  unfold cut; rw [index_one, byte_none t h, if_neg (by decide)]
theorem cut_at {a b : List UInt8} (h : (46 : UInt8) ∉ a) : cut (a ++ 46 :: b) [46] = (a, b, true) := by
  unfold cut
  rw [index_one, byte_at a b h, if_pos (by omega)]
  simp
theorem strike_none {t : List UInt8} (h : (46 : UInt8) ∉ t) : replace t [46] [] 1 = t := by
  unfold replace
  rw [if_neg (by decide)]
  have hi : (index t [46] == -1) = true := by rw [index_one, byte_none t h]; rfl
  cases hk : replaceNum t [46] 1 with
  | zero => rfl
  | succ k => rw [replaceK, if_pos hi]
theorem strike_at {a b : List UInt8} (h : (46 : UInt8) ∉ a) : replace (a ++ 46 :: b) [46] [] 1 = a ++ b := by
  unfold replace
  rw [if_neg (by decide)]
  have hi : index (a ++ 46 :: b) [46] = a.length := by rw [index_one, byte_at a b h]
  have hc : 1 ≤ count (a ++ 46 :: b) [46] := by
    unfold count countFrom
    rw [if_neg (by rw [hi]; simp <;> omega)]
    omega
  have hn : replaceNum (a ++ 46 :: b) [46] 1 = 1 := by
    unfold replaceNum
    split
    · omega
    · rfl
  rw [hn, replaceK_hit [46] [] 0 _ a.length hi, replaceK]
  simp
theorem digit_no_point {l : List UInt8} (h : allDg l = true) : (46 : UInt8) ∉ l := by
  intro hm
  have := List.all_eq_true.1 h _ hm
  revert this; decide

/-! ### The library's reading -/
theorem parse_digits : ∀ (l : List UInt8) (acc : Nat), allDg l = true → acc < 18446744073709551616 → parseUintM 18446744073709551615 acc l = if val acc l ≤ 18446744073709551615 then .ok (val acc l) else .range
  | [], acc, _, h => by rw [parseUintM, val, if_pos (by omega)]
  | c :: r, acc, h, ha => by
    have hc : isDg c = true ∧ allDg r = true := by
      have : (isDg c && allDg r) = true := h
      rwa [Bool.and_eq_true] at this
    have hb : 48 ≤ c.toNat ∧ c.toNat ≤ 57 := of_decide_eq_true hc.1
    have hge : ∀ v, v ≤ val v r := fun v => by
      have := (val_lt r.length r v rfl hc.2).1
      have hp : 0 < 10 ^ r.length := Nat.pow_pos (by decide)
      have := Nat.mul_le_mul_left v (show 1 ≤ 10 ^ r.length by omega)
      omega
    have hv : val acc (c :: r) = val (10 * acc + (c.toNat - 48)) r := by rw [val, if_pos hc.1]
    have h1 := hge (10 * acc + (c.toNat - 48))
    rw [hv, parseUintM, if_pos hb]
    by_cases h2 : 1844674407370955162 ≤ acc
    · rw [if_pos h2, if_neg (by omega)]
    · rw [if_neg h2]
      by_cases h3 : 18446744073709551615 < acc * 10 + (c.toNat - 48)
      · rw [if_pos h3, if_neg (by omega)]
      · rw [if_neg h3, parse_digits r _ hc.2 (by omega), show acc * 10 + (c.toNat - 48) = 10 * acc + (c.toNat - 48) by omega]
/-- What the library reads of digits, a sign ahead of them or none. -/
theorem parse_signed {l : List UInt8} (hne : l ≠ []) (h : allDg l = true) : parseIntB 64 (45 :: l) = if val 0 l ≤ 9223372036854775808 then .ok (-(val 0 l : Int)) else .range := by
  unfold parseIntB
  have e : parseUintB 64 l = if val 0 l ≤ 18446744073709551615 then .ok (val 0 l) else .range := by
    unfold parseUintB; rw [if_neg hne]; exact parse_digits l 0 h (by decide)
  simp only [show (45 : UInt8).toNat = 45 from rfl, or_true, if_true, e]
  by_cases h1 : val 0 l ≤ 18446744073709551615
  · simp only [if_pos h1]
    simp only [not_true, false_and, if_false, true_and, Nat.reducePow, Nat.reduceSub]
    by_cases h2 : val 0 l ≤ 9223372036854775808
    · rw [if_pos h2, if_neg (by omega)]
    · rw [if_neg h2, if_pos (by omega)]
  · simp only [if_neg h1]
    rw [if_neg (by omega)]
theorem parse_plain {l : List UInt8} (hne : l ≠ []) (h : allDg l = true) : parseIntB 64 l = if val 0 l < 9223372036854775808 then .ok (val 0 l : Int) else .range := by
  obtain ⟨c, r, rfl⟩ : ∃ c r, l = c :: r := by cases l with | nil => exact absurd rfl hne | cons c r => exact ⟨c, r, rfl⟩
  have hc : isDg c = true := by
    have : (isDg c && allDg r) = true := h
    exact (Bool.and_eq_true _ _ ▸ this).1
  have hb : 48 ≤ c.toNat ∧ c.toNat ≤ 57 := of_decide_eq_true hc
  unfold parseIntB
  have e : parseUintB 64 (c :: r) = if val 0 (c :: r) ≤ 18446744073709551615 then .ok (val 0 (c :: r)) else .range := by
    unfold parseUintB; rw [if_neg hne]; exact parse_digits _ 0 h (by decide)
  have n1 : ¬ (c.toNat = 43 ∨ c.toNat = 45) := by omega
  have n2 : ¬ c.toNat = 45 := by omega
  simp only [n1, if_false, e]
  generalize val 0 (c :: r) = v
  by_cases h1 : v ≤ 18446744073709551615
  · simp only [if_pos h1, n2, not_false_eq_true, true_and, false_and, if_false, Nat.reducePow, Nat.reduceSub]
    by_cases h2 : v < 9223372036854775808
    · rw [if_pos h2, if_neg (by omega)]
    · rw [if_neg h2, if_pos (by omega)]
  · simp only [if_neg h1]
    rw [if_neg (by omega)]

/-! ### The form, by the parts -/
/-- Something other than noughts and the point? -/
def more (t : List UInt8) : Bool := !(trimS t [48, 46]).isEmpty
theorem more_eq (t : List UInt8) : more t = t.any fun c => !([48, 46] : List UInt8).contains c := by
  unfold more trimS trimLeftS trimRightS
  have dw : ∀ (l : List UInt8), (l.dropWhile (([48, 46] : List UInt8).contains ·)).isEmpty = l.all (([48, 46] : List UInt8).contains ·) := by
    intro l
    induction l with
    | nil => rfl
    | cons c l ih =>
      rw [List.dropWhile_cons, List.all_cons]
      split
      · rename_i h; rw [ih, h]; rfl
      · rename_i h; simp only [Bool.not_eq_true] at h; rw [h]; rfl
  have hall : ∀ l : List UInt8, (l.reverse.dropWhile (([48, 46] : List UInt8).contains ·)).reverse.all (([48, 46] : List UInt8).contains ·) = l.all (([48, 46] : List UInt8).contains ·) := by
    intro l
    rw [List.all_reverse]
    have : ∀ m : List UInt8, (m.dropWhile (([48, 46] : List UInt8).contains ·)).all (([48, 46] : List UInt8).contains ·) = m.all (([48, 46] : List UInt8).contains ·) := by
      intro m
      induction m with
      | nil => rfl
      | cons c m ih =>
        rw [List.dropWhile_cons]
        split
        · rename_i h; rw [ih, List.all_cons, h]; rfl
        · rfl
    rw [this, List.all_reverse]
  rw [dw, hall, List.not_all_eq_any_not]
theorem val_zero : ∀ (t : List UInt8) (v : Nat), val v t = 0 ↔ v * 10 ^ (t.filter isDg).length = 0 ∧ t.all (fun c => !isDg c || c == 48) = true
  | [], v => by simp [val]
  | c :: t, v => by
    rw [val, val_zero t, List.all_cons, List.filter_cons]
    by_cases hc : isDg c = true
    · have hb : 48 ≤ c.toNat ∧ c.toNat ≤ 57 := of_decide_eq_true hc
      have h48 : (c == 48) = decide (c.toNat - 48 = 0) := by
        rw [Bool.eq_iff_iff, beq_iff_eq, decide_eq_true_eq]
        constructor
        · intro e; rw [e]; rfl
        · intro e
          apply UInt8.toNat_inj.1
          show c.toNat = 48
          omega
      rw [if_pos hc, if_pos hc, hc, h48]
      have hp1 : 10 ^ (t.filter isDg).length ≠ 0 := Nat.ne_of_gt (Nat.pow_pos (by decide))
      have hp2 : 10 ^ ((t.filter isDg).length + 1) ≠ 0 := Nat.ne_of_gt (Nat.pow_pos (by decide))
      rw [List.length_cons, Nat.mul_eq_zero, Nat.mul_eq_zero, Bool.not_true, Bool.false_or, Bool.and_eq_true, decide_eq_true_eq]
      constructor
      · rintro ⟨h1 | h1, h2⟩
        · exact ⟨.inl (by omega), by omega, h2⟩
        · exact absurd h1 hp1
      · rintro ⟨h1 | h1, h2, h3⟩
        · exact ⟨.inl (by omega), h3⟩
        · exact absurd h1 hp2
    · rw [if_neg hc, if_neg hc]
      simp only [Bool.not_eq_true] at hc
      rw [hc]; simp

/-! ### All together -/
/-- The parts have the form? -/
def partsB (d : Nat) (t : List UInt8) : Bool :=
  ((cut t [46]).2.2 == decide (0 < d)) && ((cut t [46]).2.1.length == d) && !(cut t [46]).1.isEmpty && allDg (cut t [46]).1 && allDg (cut t [46]).2.1 && !(decide (1 < (cut t [46]).1.length) && (cut t [46]).1.head? == some 48)
theorem partsB_iff (d : Nat) (t : List UInt8) : partsB d t = true ↔ ∃ hd tl, Form d t hd tl := by
  unfold partsB
  constructor
  · intro h
    simp only [Bool.and_eq_true, beq_iff_eq, Bool.not_eq_true', Bool.and_eq_false_iff, decide_eq_false_iff_not, beq_eq_false_iff_ne, List.isEmpty_eq_false_iff] at h
    obtain ⟨⟨⟨⟨⟨h1, h2⟩, h3⟩, h4⟩, h5⟩, h6⟩ := h
    refine ⟨(cut t [46]).1, (cut t [46]).2.1, ?_, h3, ?_, h4, h5, h2⟩
    · rcases point_or t with hp | ⟨a, b, rfl, hp⟩
      · rw [cut_none hp] at h1 ⊢
        have hd : d = 0 := by
          rcases Nat.eq_zero_or_pos d with h0 | h0
          · exact h0
          · rw [decide_eq_true h0] at h1; cases h1
        rw [if_pos hd, List.append_nil]
      · rw [cut_at hp] at h1 ⊢
        have hd : 0 < d := of_decide_eq_true h1.symm
        rw [if_neg (by omega)]
    · rcases h6 with h6 | h6
      · left
        have := List.length_pos_iff.2 h3
        omega
      · exact .inr h6
  · rintro ⟨hd, tl, h⟩
    have hp := digit_no_point h.hdDg
    have hc : cut t [46] = (hd, tl, decide (0 < d)) := by
      by_cases h0 : d = 0
      · have e := h.parts
        rw [if_pos h0, List.append_nil] at e
        have ht : tl = [] := List.eq_nil_of_length_eq_zero (by rw [h.len, h0])
        rw [e, ht, cut_none hp, decide_eq_false (by omega)]
      · have e := h.parts
        rw [if_neg h0] at e
        rw [e, cut_at hp, decide_eq_true (by omega)]
    rw [hc]
    simp only [Bool.and_eq_true, beq_iff_eq, Bool.not_eq_true', Bool.and_eq_false_iff, decide_eq_false_iff_not, beq_eq_false_iff_ne, List.isEmpty_eq_false_iff]
    refine ⟨⟨⟨⟨⟨trivial, h.len⟩, h.some_⟩, h.hdDg⟩, h.tlDg⟩, ?_⟩
    rcases h.ahead with h6 | h6
    · left; omega
    · exact .inr h6
theorem partsB_eq (d : Nat) (t : List UInt8) : partsB d t = formT d t := by
  rw [Bool.eq_iff_iff, partsB_iff, formT_iff]
theorem Form.no_more {d : Nat} {t hd tl : List UInt8} (h : Form d t hd tl) : more t = false ↔ val 0 t = 0 := by
  rw [more_eq, val_zero, Nat.zero_mul]
  have hall : ∀ c ∈ t, isDg c = true ∨ c = 46 := by
    intro c hc
    rw [h.parts] at hc
    rcases List.mem_append.1 hc with hc | hc
    · exact .inl (List.all_eq_true.1 h.hdDg c hc)
    · split at hc
      · cases hc
      · rcases List.mem_cons.1 hc with hc | hc
        · exact .inr hc
        · exact .inl (List.all_eq_true.1 h.tlDg c hc)
  rw [List.any_eq_false, List.all_eq_true]
  simp only [true_and, Bool.not_eq_true', Bool.not_eq_false, Bool.or_eq_true, beq_iff_eq]
  constructor
  · intro k c hc
    have := k c hc
    have h3 : c = 48 ∨ c = 46 := by simpa using this
    rcases h3 with rfl | rfl
    · exact .inr rfl
    · left; decide
  · intro k c hc
    rcases hall c hc with h1 | rfl
    · rcases k c hc with h2 | rfl
      · rw [h1] at h2; cases h2
      · decide
    · decide
/-- Is s an amount's text? -/
def isB (d : Nat) (s : List UInt8) : Bool := partsB d (strip s) && (!(s.head? == some 45) || more (strip s))
theorem val_strip (s : List UInt8) : val 0 (strip s) = val 0 s := by
  unfold strip
  split
  · rfl
  · rename_i c t
    split
    · rename_i h; subst h; rfl
    · rfl
theorem isB_true {d : Nat} {s : List UInt8} (h : isB d s = true) : formB d s = true ∧ (s.head? = some 45 → val 0 s ≠ 0) := by
  unfold isB at h
  rw [Bool.and_eq_true, partsB_eq] at h
  refine ⟨h.1, fun h45 h0 => ?_⟩
  obtain ⟨hd, tl, hf⟩ := (formT_iff d _).1 h.1
  rw [← val_strip] at h0
  have := hf.no_more.2 h0
  have h2 := h.2
  rw [this, h45] at h2
  cases h2
theorem isB_false {d : Nat} {s : List UInt8} (h : isB d s = false) : formB d s = false ∨ (formB d s = true ∧ s.head? = some 45 ∧ val 0 s = 0) := by
  unfold isB at h
  rw [Bool.and_eq_false_iff, partsB_eq] at h
  by_cases hF : formB d s = true
  · right
    rcases h with h | h
    · unfold formB at hF; rw [h] at hF; cases hF
    · obtain ⟨hd, tl, hf⟩ := (formT_iff d _).1 hF
      simp only [Bool.or_eq_false_iff, Bool.not_eq_false', beq_iff_eq] at h
      exact ⟨hF, h.1, by rw [← val_strip]; exact hf.no_more.1 h.2⟩
  · left; simpa using hF
/-- What Parse answers: the number, and the error's. -/
def parseR (s : List UInt8) (n : Int) : Int × Nat :=
  if n < 0 ∨ 6 < n then (0, 6)
  else if formB n.toNat s = false then (0, 7)
  else if s.head? = some 45 then
    if val 0 s = 0 then (0, 7)
    else if 9223372036854775808 < val 0 s then (0, 10)
    else (-(val 0 s : Int), 0)
  else if 9223372036854775808 ≤ val 0 s then (0, 10)
  else (val 0 s, 0)
theorem parseR_range {s : List UInt8} {n : Int} (h : n < 0 ∨ 6 < n) : parseR s n = (0, 6) := if_pos h
theorem parseR_form {s : List UInt8} {d : Nat} (hd : d ≤ 6) (h : isB d s = false) : parseR s d = (0, 7) := by
  unfold parseR
  rw [if_neg (by omega), Int.toNat_natCast]
  rcases isB_false h with h1 | ⟨h1, h2, h3⟩
  · rw [if_pos h1]
  · rw [if_neg (by rw [h1]; decide), if_pos h2, if_pos h3]
/-- What the library makes of the text with its point struck. -/
theorem parseR_read {s : List UInt8} {d : Nat} (hd : d ≤ 6) (h : isB d s = true) :
    (∃ v, parseIntB 64 (replace s [46] [] 1) = .ok v ∧ parseR s d = (v, 0)) ∨ (parseIntB 64 (replace s [46] [] 1) = .range ∧ parseR s d = (0, 10)) := by
  obtain ⟨h1, h2⟩ := isB_true h
  obtain ⟨hd', tl, hf⟩ := (formT_iff d _).1 h1
  have hp := digit_no_point hf.hdDg
  -- the digits, with no point
  have hst : replace (strip s) [46] [] 1 = hd' ++ tl := by
    by_cases h0 : d = 0
    · have e := hf.parts
      rw [if_pos h0, List.append_nil] at e
      have ht : tl = [] := List.eq_nil_of_length_eq_zero (by rw [hf.len, h0])
      rw [e, ht, List.append_nil, strike_none hp]
    · have e := hf.parts
      rw [if_neg h0] at e
      rw [e, strike_at hp]
  have hv : val 0 (hd' ++ tl) = val 0 s := by
    rw [← val_strip s, hf.parts, val_append, val_append]
    by_cases h0 : d = 0
    · have ht : tl = [] := List.eq_nil_of_length_eq_zero (by rw [hf.len, h0])
      rw [if_pos h0, ht]
    · rw [if_neg h0, val_point]
  have hdg : allDg (hd' ++ tl) = true := by rw [allDg_append, hf.hdDg, hf.tlDg]; rfl
  have hne : hd' ++ tl ≠ [] := fun e => hf.some_ (List.append_eq_nil_iff.1 e).1
  unfold parseR
  rw [if_neg (by omega), Int.toNat_natCast, if_neg (by rw [h1]; decide)]
  by_cases h45 : s.head? = some 45
  · obtain ⟨t, rfl⟩ : ∃ t, s = 45 :: t := by
      cases s with
      | nil => cases h45
      | cons c t => injection h45 with h45; exact ⟨t, by rw [h45]⟩
    have hs : strip (45 :: t) = t := rfl
    rw [hs] at hst
    have hrep : replace (45 :: t) [46] [] 1 = 45 :: (hd' ++ tl) := by
      rcases point_or t with hq | ⟨a, b, rfl, hq⟩
      · rw [strike_none (by simp [hq]), ← hst, strike_none hq]
      · rw [show 45 :: (a ++ 46 :: b) = (45 :: a) ++ 46 :: b from rfl, strike_at (by simp [hq]), ← hst, strike_at hq]; rfl
    rw [hrep, parse_signed hne hdg, hv, if_pos h45, if_neg (h2 h45)]
    by_cases hb : val 0 (45 :: t) ≤ 9223372036854775808
    · rw [if_pos hb, if_neg (by omega)]; exact .inl ⟨_, rfl, rfl⟩
    · rw [if_neg hb, if_pos (by omega)]; exact .inr ⟨rfl, rfl⟩
  · have hs : strip s = s := by
      unfold strip
      split
      · rfl
      · split
        · rename_i h; subst h; exact absurd rfl h45
        · rfl
    rw [hs] at hst
    rw [hst, parse_plain hne hdg, hv, if_neg h45]
    by_cases hb : val 0 s < 9223372036854775808
    · rw [if_pos hb, if_neg (by omega)]; exact .inl ⟨_, rfl, rfl⟩
    · rw [if_neg hb, if_pos (by omega)]; exact .inr ⟨rfl, rfl⟩
end Go.Proofs.YtjjlpjfojgkpkaaGreatDoor.M
