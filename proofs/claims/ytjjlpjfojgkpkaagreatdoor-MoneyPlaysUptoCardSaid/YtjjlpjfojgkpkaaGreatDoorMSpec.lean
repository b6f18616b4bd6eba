/-
  Layer 4, plain: products divided bit by bit, shares by a rate, to the nearest and even at a half; an amount's digits.
-/
namespace Go.Proofs.YtjjlpjfojgkpkaaGreatDoor.M

/-! ### A product divided -/
theorem twice_div (y d : Nat) (hd : 0 < d) : 2 * y / d = 2 * (y / d) + (if d ≤ 2 * (y % d) then 1 else 0) ∧ 2 * y % d = if d ≤ 2 * (y % d) then 2 * (y % d) - d else 2 * (y % d) := by
  have h := Nat.div_add_mod y d
  have hm := Nat.mod_lt y hd
  generalize y / d = q at *
  generalize y % d = r at *
  have e : 2 * y = 2 * r + d * (2 * q) := by rw [← h, Nat.mul_add, Nat.mul_left_comm, Nat.add_comm]
  rw [e, Nat.add_mul_div_left _ _ hd, Nat.add_mul_mod_self_left]
  split
  · have h1 : 2 * r / d = 1 := by
      rw [show 2 * r = (2 * r - d) + d by omega, Nat.add_div_right _ hd, Nat.div_eq_of_lt (by omega)]
    have h2 : 2 * r % d = 2 * r - d := by
      rw [Nat.mod_eq_sub_mod (by omega), Nat.mod_eq_of_lt (by omega)]
    omega
  · rw [Nat.div_eq_of_lt (by omega), Nat.mod_eq_of_lt (by omega)]
    omega
theorem more_div (y x d : Nat) (hd : 0 < d) : (y + x) / d = y / d + x / d + (if d ≤ y % d + x % d then 1 else 0) ∧ (y + x) % d = if d ≤ y % d + x % d then y % d + x % d - d else y % d + x % d := by
  have h := Nat.div_add_mod y d
  have hm := Nat.mod_lt y hd
  have h' := Nat.div_add_mod x d
  have hm' := Nat.mod_lt x hd
  generalize y / d = q at *
  generalize y % d = r at *
  generalize x / d = q' at *
  generalize x % d = r' at *
  have e : y + x = (r + r') + d * (q + q') := by rw [← h, ← h', Nat.mul_add]; omega
  rw [e, Nat.add_mul_div_left _ _ hd, Nat.add_mul_mod_self_left]
  split
  · have h1 : (r + r') / d = 1 := by
      rw [show r + r' = (r + r' - d) + d by omega, Nat.add_div_right _ hd, Nat.div_eq_of_lt (by omega)]
    have h2 : (r + r') % d = r + r' - d := by
      rw [Nat.mod_eq_sub_mod (by omega), Nat.mod_eq_of_lt (by omega)]
    omega
  · rw [Nat.div_eq_of_lt (by omega), Nat.mod_eq_of_lt (by omega)]
    omega
/-- One bit more of n: i bits are still to come. -/
theorem bit_more (n i : Nat) : n / 2 ^ i = 2 * (n / 2 ^ (i + 1)) + n / 2 ^ i % 2 := by
  rw [Nat.pow_succ, ← Nat.div_div_eq_div_mul]; omega

/-! ### To the nearest, a half to the even -/
/-- y divided by 10000, to the nearest; of two equally near the even one. -/
def near (y : Nat) : Nat := if 10000 < 2 * (y % 10000) ∨ (2 * (y % 10000) = 10000 ∧ y / 10000 % 2 = 1) then y / 10000 + 1 else y / 10000
theorem near_zero : near 0 = 0 := rfl
theorem near_whole (x : Nat) : near (x * 10000) = x := by
  unfold near
  rw [Nat.mul_mod_left, Nat.mul_div_cancel _ (by decide), if_neg (by omega)]
theorem near_mono {y z : Nat} (h : y ≤ z) : near y ≤ near z := by
  unfold near
  split <;> split <;> omega
theorem near_le (x n : Nat) (h : n ≤ 10000) : near (x * n) ≤ x := by
  have := near_mono (Nat.mul_le_mul_left x h)
  rwa [near_whole] at this
theorem near_close (y : Nat) : 2 * (near y * 10000) ≤ 2 * y + 10000 ∧ 2 * y ≤ 2 * (near y * 10000) + 10000 := by
  unfold near
  split <;> omega
/-- The share of an amount, below 0 too. -/
def rate (a : Int) (n : Nat) : Int := if a < 0 then -(near (a.natAbs * n) : Int) else (near (a.natAbs * n) : Int)
theorem rate_neg (a : Int) (n : Nat) : rate (-a) n = -rate a n := by
  unfold rate
  rw [Int.natAbs_neg]
  split <;> split
  · omega
  · omega
  · omega
  · have : a = 0 := by omega
    subst this
    simp [near_zero]
theorem rate_mono {a b : Int} (n : Nat) (h : a ≤ b) : rate a n ≤ rate b n := by
  unfold rate
  split <;> split
  · have := near_mono (Nat.mul_le_mul_right n (show b.natAbs ≤ a.natAbs by omega)); omega
  · omega
  · omega
  · have := near_mono (Nat.mul_le_mul_right n (show a.natAbs ≤ b.natAbs by omega)); omega
theorem rate_more {a : Int} {n m : Nat} (ha : 0 ≤ a) (h : n ≤ m) : rate a n ≤ rate a m := by
  unfold rate
  rw [if_neg (by omega), if_neg (by omega)]
  have := near_mono (Nat.mul_le_mul_left a.natAbs h); omega
theorem rate_none (a : Int) : rate a 0 = 0 := by unfold rate; rw [Nat.mul_zero, near_zero]; split <;> rfl
theorem rate_all (a : Int) : rate a 10000 = a := by unfold rate; rw [near_whole]; split <;> omega
theorem rate_abs {a : Int} {n : Nat} (h : n ≤ 10000) : (rate a n).natAbs ≤ a.natAbs := by
  have := near_le a.natAbs n h
  unfold rate
  split <;> omega

/-! ### Digits -/
def dg (n : Nat) : UInt8 := (48 + n).toUInt8
theorem dg_toNat {n : Nat} (h : n < 10) : (dg n).toNat = 48 + n := by
  unfold dg; rw [Nat.toUInt8, UInt8.toNat_ofNat']; exact Nat.mod_eq_of_lt (by omega)
/-- The last d digits of x. -/
def low : Nat → Nat → List UInt8
  | 0, _ => []
  | d + 1, x => low d (x / 10) ++ [dg (x % 10)]
/-- x in digits, without noughts ahead. -/
def dec (x : Nat) : List UInt8 := if _h : x < 10 then [dg x] else dec (x / 10) ++ [dg (x % 10)]
termination_by x
/-- The text of a number that isn't below 0, d digits behind the point. -/
def text (d x : Nat) : List UInt8 := dec (x / 10 ^ d) ++ if d = 0 then [] else 46 :: low d x
def isDg (c : UInt8) : Bool := decide (48 ≤ c.toNat ∧ c.toNat ≤ 57)
/-- What digits stand for, behind v; what is no digit is passed over. -/
def val : Nat → List UInt8 → Nat
  | v, [] => v
  | v, c :: s => val (if isDg c then 10 * v + (c.toNat - 48) else v) s
theorem val_append : ∀ (s t : List UInt8) (v : Nat), val v (s ++ t) = val (val v s) t
  | [], _, _ => rfl
  | _ :: s, t, _ => val_append s t _
theorem isDg_dg {n : Nat} (h : n < 10) : isDg (dg n) = true := by unfold isDg; rw [dg_toNat h]; exact decide_eq_true (by omega)
theorem val_dg {n : Nat} (h : n < 10) (v : Nat) : val v [dg n] = 10 * v + n := by
  rw [val, isDg_dg h, dg_toNat h]
  simp only [if_true, val]
  omega
theorem val_dec (x : Nat) : val 0 (dec x) = x := by
  induction x using Nat.strongRecOn with
  | ind x ih =>
    rw [dec]
    split
    · rename_i h; rw [val_dg h]; omega
    · rename_i h
      rw [val_append, ih (x / 10) (by omega), val_dg (by omega)]; omega
theorem low_length : ∀ (d x : Nat), (low d x).length = d
  | 0, _ => rfl
  | d + 1, x => by rw [low, List.length_append, low_length]; rfl
theorem val_low : ∀ (d x v : Nat), val v (low d x) = v * 10 ^ d + x % 10 ^ d
  | 0, x, v => by rw [low, val]; omega
  | d + 1, x, v => by
    rw [low, val_append, val_low d, val_dg (by omega), Nat.pow_succ, Nat.mul_comm (10 ^ d) 10, Nat.mod_mul]
    rw [Nat.mul_add, ← Nat.mul_assoc, Nat.mul_comm 10 v, Nat.mul_assoc]
    omega
theorem val_point (v : Nat) (s : List UInt8) : val v (46 :: s) = val v s := by
  have : isDg 46 = false := by decide
  rw [val, this]; rfl
/-- THE TEXT IS READ BACK. -/
theorem val_text (d x : Nat) : val 0 (text d x) = x := by
  unfold text
  rw [val_append, val_dec]
  split
  · rename_i h; subst h; rw [val]; simp
  · rw [val_point, val_low, Nat.mul_comm]; exact Nat.div_add_mod _ _
theorem dec_ne (x : Nat) : dec x ≠ [] := by
  rw [dec]; split <;> simp
/-- Digits alone. -/
def allDg (s : List UInt8) : Bool := s.all isDg
theorem allDg_append (s t : List UInt8) : allDg (s ++ t) = (allDg s && allDg t) := by simp [allDg]
theorem allDg_dec (x : Nat) : allDg (dec x) = true := by
  induction x using Nat.strongRecOn with
  | ind x ih =>
    rw [dec]
    split
    · rename_i h; simp [allDg, isDg_dg h]
    · rename_i h
      rw [allDg_append, ih (x / 10) (by omega)]
      simp [allDg, isDg_dg (show x % 10 < 10 by omega)]
theorem allDg_low : ∀ (d x : Nat), allDg (low d x) = true
  | 0, _ => rfl
  | d + 1, x => by rw [low, allDg_append, allDg_low d]; simp [allDg, isDg_dg (show x % 10 < 10 by omega)]
/-- The head of a number's digits is 0 only of 0 itself. -/
theorem dec_head (x : Nat) : (dec x).head? = some 48 → x = 0 := by
  induction x using Nat.strongRecOn with
  | ind x ih =>
    rw [dec]
    split
    · rename_i h
      intro e
      have e2 : dg x = 48 := by simpa using e
      have := congrArg UInt8.toNat e2
      rw [dg_toNat h] at this
      have h48 : (48 : UInt8).toNat = 48 := rfl
      omega
    · rename_i h
      intro e
      rw [List.head?_append] at e
      cases hd : (dec (x / 10)).head? with
      | none => exact absurd (List.head?_eq_none_iff.1 hd) (dec_ne _)
      | some c =>
        rw [hd] at e
        have e2 : c = 48 := by simpa using e
        have := ih (x / 10) (by omega) (by rw [hd, e2])
        omega
theorem dec_zero : dec 0 = [48] := by rw [dec]; rfl
end Go.Proofs.YtjjlpjfojgkpkaaGreatDoor.M
namespace Go.Proofs.YtjjlpjfojgkpkaaGreatDoor.M
theorem dg_of {c : UInt8} (h : isDg c = true) : dg (c.toNat - 48) = c := by
  have hb : 48 ≤ c.toNat ∧ c.toNat ≤ 57 := of_decide_eq_true h
  apply UInt8.toNat_inj.1
  rw [dg_toNat (by omega)]; omega
theorem val_one {c : UInt8} (h : isDg c = true) (v : Nat) : val v [c] = 10 * v + (c.toNat - 48) := by rw [val, h]; rfl
theorem dg_bound {c : UInt8} (h : isDg c = true) : c.toNat - 48 < 10 := by
  have hb : 48 ≤ c.toNat ∧ c.toNat ≤ 57 := of_decide_eq_true h
  omega
/-- DIGITS WITHOUT NOUGHTS AHEAD are those of what they stand for. -/
theorem dec_of : ∀ (n : Nat) (s : List UInt8), s.length = n → s ≠ [] → allDg s = true → (s.length = 1 ∨ s.head? ≠ some 48) → dec (val 0 s) = s
  | 0, s, hn, hne, _, _ => absurd (List.eq_nil_of_length_eq_zero hn) hne
  | n + 1, s, hn, hne, hd, hh => by
    obtain ⟨l, c, rfl⟩ : ∃ l c, s = l ++ [c] := ⟨s.dropLast, s.getLast hne, (List.dropLast_concat_getLast hne).symm⟩
    rw [allDg_append, Bool.and_eq_true] at hd
    have hc : isDg c = true := by have := hd.2; simpa [allDg] using this
    have hb := dg_bound hc
    rw [val_append, val_one hc]
    by_cases hl : l = []
    · subst hl
      show dec (10 * 0 + (c.toNat - 48)) = [c]
      rw [dec, dif_pos (by omega), Nat.mul_zero, Nat.zero_add, dg_of hc]
    · have hlen : 0 < l.length := List.length_pos_iff.2 hl
      have hh2 : (l ++ [c]).head? ≠ some 48 := by
        rcases hh with h | h
        · simp at h; exact absurd h hl
        · exact h
      have hh3 : l.head? ≠ some 48 := by
        intro e
        apply hh2
        rw [List.head?_append, e]; rfl
      have ih := dec_of n l (by simpa using hn) hl hd.1 (.inr hh3)
      have hpos : 0 < val 0 l := by
        rcases Nat.eq_zero_or_pos (val 0 l) with h0 | h0
        · rw [h0, dec_zero] at ih
          exact absurd (by rw [← ih]; rfl) hh3
        · exact h0
      rw [dec, dif_neg (by omega), show (10 * val 0 l + (c.toNat - 48)) / 10 = val 0 l by omega, ih, show (10 * val 0 l + (c.toNat - 48)) % 10 = c.toNat - 48 by omega, dg_of hc]
theorem low_of : ∀ (n : Nat) (s : List UInt8) (v : Nat), s.length = n → allDg s = true → low n (val v s) = s
  | 0, s, v, hn, _ => by rw [List.eq_nil_of_length_eq_zero hn]; rfl
  | n + 1, s, v, hn, hd => by
    have hne : s ≠ [] := fun e => by rw [e] at hn; simp at hn
    obtain ⟨l, c, rfl⟩ : ∃ l c, s = l ++ [c] := ⟨s.dropLast, s.getLast hne, (List.dropLast_concat_getLast hne).symm⟩
    rw [allDg_append, Bool.and_eq_true] at hd
    have hc : isDg c = true := by have := hd.2; simpa [allDg] using this
    have hb := dg_bound hc
    rw [val_append, val_one hc, low, show (10 * val v l + (c.toNat - 48)) / 10 = val v l by omega, low_of n l v (by simpa using hn) hd.1, show (10 * val v l + (c.toNat - 48)) % 10 = c.toNat - 48 by omega, dg_of hc]
theorem val_lt : ∀ (n : Nat) (s : List UInt8) (v : Nat), s.length = n → allDg s = true → val v s = v * 10 ^ n + val 0 s ∧ val 0 s < 10 ^ n
  | 0, s, v, hn, _ => by rw [List.eq_nil_of_length_eq_zero hn]; simp [val]
  | n + 1, s, v, hn, hd => by
    have hne : s ≠ [] := fun e => by rw [e] at hn; simp at hn
    obtain ⟨l, c, rfl⟩ : ∃ l c, s = l ++ [c] := ⟨s.dropLast, s.getLast hne, (List.dropLast_concat_getLast hne).symm⟩
    rw [allDg_append, Bool.and_eq_true] at hd
    have hc : isDg c = true := by have := hd.2; simpa [allDg] using this
    have hb := dg_bound hc
    obtain ⟨h1, h2⟩ := val_lt n l v (by simpa using hn) hd.1
    rw [val_append, val_append, val_one hc, val_one hc, h1, Nat.pow_succ]
    constructor
    · rw [Nat.mul_add, ← Nat.mul_assoc v, Nat.mul_comm (v * 10 ^ n) 10]; omega
    · omega
/-- The parts of a text. -/
structure Form (d : Nat) (s hd tl : List UInt8) : Prop where
  parts : s = hd ++ if d = 0 then [] else 46 :: tl
  some_ : hd ≠ []
  ahead : hd.length = 1 ∨ hd.head? ≠ some 48
  hdDg : allDg hd = true
  tlDg : allDg tl = true
  len : tl.length = d
/-- WHAT HAS THE FORM is the text of what it stands for. -/
theorem Form.text {d : Nat} {s hd tl : List UInt8} (h : Form d s hd tl) : text d (val 0 s) = s := by
  have hv : val 0 s = val 0 hd * 10 ^ d + val 0 tl ∧ val 0 tl < 10 ^ d := by
    rw [h.parts, val_append]
    by_cases h0 : d = 0
    · have ht : tl = [] := List.eq_nil_of_length_eq_zero (by rw [h.len, h0])
      subst h0 ht
      simp [val]
    · rw [if_neg h0, val_point]
      exact val_lt d tl _ h.len h.tlDg
  have hq : val 0 s / 10 ^ d = val 0 hd := by
    rw [hv.1, Nat.mul_comm, Nat.mul_add_div (Nat.pow_pos (by decide)), Nat.div_eq_of_lt hv.2]; rfl
  unfold M.text
  rw [hq, dec_of _ hd rfl h.some_ h.hdDg h.ahead]
  conv => rhs; rw [h.parts]
  by_cases h0 : d = 0
  · rw [if_pos h0, if_pos h0]
  · rw [if_neg h0, if_neg h0]
    congr 2
    have := low_of d tl (val 0 hd) h.len h.tlDg
    rw [← this]
    congr 1
    rw [(val_lt d tl (val 0 hd) h.len h.tlDg).1, hv.1]
theorem text_form (d x : Nat) : Form d (M.text d x) (dec (x / 10 ^ d)) (low d x) := by
  refine ⟨rfl, dec_ne _, ?_, allDg_dec _, allDg_low _ _, low_length _ _⟩
  by_cases h : (dec (x / 10 ^ d)).head? = some 48
  · left
    rw [dec_head _ h, dec_zero]; rfl
  · exact .inr h
theorem text_inj {d x y : Nat} (h : M.text d x = M.text d y) : x = y := by rw [← val_text d x, h, val_text]

/-! ### The sign -/
def textI (d : Nat) (a : Int) : List UInt8 := if a < 0 then 45 :: M.text d a.natAbs else M.text d a.natAbs
theorem text_head (d x : Nat) : ∃ c s, M.text d x = c :: s ∧ isDg c = true := by
  unfold M.text
  cases hd : dec (x / 10 ^ d) with
  | nil => exact absurd hd (dec_ne _)
  | cons c l =>
    have := allDg_dec (x / 10 ^ d)
    rw [hd] at this
    refine ⟨c, _, rfl, ?_⟩
    simp [allDg] at this
    exact this.1
theorem textI_inj {d : Nat} {a b : Int} (h : textI d a = textI d b) : a = b := by
  have no : ∀ (x : Nat) (s : List UInt8), M.text d x ≠ 45 :: s := by
    intro x s e
    obtain ⟨c, t, h1, h2⟩ := text_head d x
    rw [e] at h1
    injection h1 with h1
    subst h1
    revert h2; decide
  unfold textI at h
  split at h <;> split at h
  · injection h with _ h
    have := text_inj h; omega
  · exact absurd h.symm (no _ _)
  · exact absurd h (no _ _)
  · have := text_inj h; omega
end Go.Proofs.YtjjlpjfojgkpkaaGreatDoor.M
namespace Go.Proofs.YtjjlpjfojgkpkaaGreatDoor.M
/-! ### Shares -/
/-- j stands ahead of i: its rest is greater, or the same and it stands first. -/
def ahead (r : Nat → Nat) (j i : Nat) : Bool := decide (r i < r j) || (r j == r i && decide (j < i))
theorem ahead_irrefl (r : Nat → Nat) (i : Nat) : ahead r i i = false := by simp [ahead]
theorem ahead_asymm {r : Nat → Nat} {i j : Nat} (h : ahead r i j = true) : ahead r j i = false := by
  simp only [ahead, Bool.or_eq_true, decide_eq_true_eq, Bool.and_eq_true, beq_iff_eq] at h
  simp only [ahead, Bool.or_eq_false_iff, decide_eq_false_iff_not, Bool.and_eq_false_iff, beq_eq_false_iff_ne]
  omega
theorem ahead_trans {r : Nat → Nat} {i j k : Nat} (h : ahead r i j = true) (h2 : ahead r j k = true) : ahead r i k = true := by
  simp only [ahead, Bool.or_eq_true, decide_eq_true_eq, Bool.and_eq_true, beq_iff_eq] at *
  omega
theorem ahead_total {r : Nat → Nat} {i j : Nat} (h : i ≠ j) : ahead r i j = true ∨ ahead r j i = true := by
  simp only [ahead, Bool.or_eq_true, decide_eq_true_eq, Bool.and_eq_true, beq_iff_eq]
  omega
/-- How many of the first n stand ahead of i. -/
def rank (r : Nat → Nat) (n i : Nat) : Nat := ((List.range n).filter fun j => ahead r j i).length
/-- A row of all places, each ahead of those behind it. -/
structure Sorted (r : Nat → Nat) (n : Nat) (o : List Nat) : Prop where
  perm : o.Perm (List.range n)
  sorted : o.Pairwise fun i j => ahead r i j = true
theorem filter_split {r : Nat → Nat} {o1 o2 : List Nat} {i : Nat} (h : (o1 ++ i :: o2).Pairwise fun i j => ahead r i j = true) : (o1 ++ i :: o2).filter (fun j => ahead r j i) = o1 := by
  rw [List.pairwise_append] at h
  obtain ⟨_, h2, h3⟩ := h
  rw [List.pairwise_cons] at h2
  have f1 : o1.filter (fun j => ahead r j i) = o1 := List.filter_eq_self.2 (fun j hj => h3 j hj i (by simp))
  have f2 : o2.filter (fun j => ahead r j i) = [] := List.filter_eq_nil_iff.2 (fun j hj => by rw [ahead_asymm (h2.1 j hj)]; simp)
  rw [List.filter_append, List.filter_cons, ahead_irrefl, f1, f2]
  simp
theorem Sorted.rank {r : Nat → Nat} {n : Nat} {o : List Nat} (h : Sorted r n o) {k : Nat} (hk : k < o.length) : rank r n o[k] = k := by
  unfold M.rank
  rw [← (h.perm.filter _).length_eq]
  have hs : o = o.take k ++ o[k] :: o.drop (k + 1) := by rw [List.getElem_cons_drop, List.take_append_drop]
  have hp := h.sorted
  rw [hs] at hp
  have := filter_split hp
  rw [← hs] at this
  rw [this, List.length_take]; omega
theorem Sorted.length {r : Nat → Nat} {n : Nat} {o : List Nat} (h : Sorted r n o) : o.length = n := by rw [h.perm.length_eq, List.length_range]
theorem Sorted.mem {r : Nat → Nat} {n : Nat} {o : List Nat} (h : Sorted r n o) {i : Nat} : i ∈ o ↔ i < n := by rw [h.perm.mem_iff, List.mem_range]
/-- THE FIRST k OF THE ROW are those of rank below k. -/
theorem Sorted.take {r : Nat → Nat} {n : Nat} {o : List Nat} (h : Sorted r n o) (k : Nat) {i : Nat} (hi : i < n) : i ∈ o.take k ↔ M.rank r n i < k := by
  obtain ⟨j, hj, rfl⟩ := List.getElem_of_mem (h.mem.2 hi)
  rw [h.rank hj, List.mem_iff_getElem]
  constructor
  · rintro ⟨m, hm, e⟩
    rw [List.getElem_take] at e
    have hm2 : m < o.length := by rw [List.length_take] at hm; omega
    have := h.rank hm2
    rw [e, h.rank hj] at this
    rw [List.length_take] at hm
    omega
  · intro hk
    exact ⟨j, by rw [List.length_take]; omega, by rw [List.getElem_take]⟩
theorem Sorted.nodup {r : Nat → Nat} {n : Nat} {o : List Nat} (h : Sorted r n o) : o.Nodup := h.perm.nodup_iff.2 List.nodup_range
theorem sorted_ex (r : Nat → Nat) (n : Nat) : ∃ o, Sorted r n o := by
  let le : Nat → Nat → Bool := fun i j => ahead r i j || i == j
  refine ⟨(List.range n).mergeSort le, List.mergeSort_perm _ _, ?_⟩
  have hp : ((List.range n).mergeSort le).Pairwise fun i j => le i j = true := by
    apply List.pairwise_mergeSort
    · intro a b c h1 h2
      simp only [le, Bool.or_eq_true, beq_iff_eq] at *
      rcases h1 with h1 | rfl
      · rcases h2 with h2 | rfl
        · exact .inl (ahead_trans h1 h2)
        · exact .inl h1
      · exact h2
    · intro a b
      simp only [le, Bool.or_eq_true, beq_iff_eq]
      by_cases h : a = b
      · exact .inl (.inr h)
      · rcases ahead_total (r := r) h with h1 | h1
        · exact .inl (.inl h1)
        · exact .inr (.inl h1)
  have hn : ((List.range n).mergeSort le).Nodup := (List.mergeSort_perm _ _).nodup_iff.2 List.nodup_range
  have := hp.and hn
  exact this.imp (fun {a b} h => by
    obtain ⟨h1, h2⟩ := h
    simp only [le, Bool.or_eq_true, beq_iff_eq] at h1
    rcases h1 with h1 | h1
    · exact h1
    · exact absurd h1 h2)
/-- k places have a rank below k. -/
theorem rank_count (r : Nat → Nat) {n k : Nat} (hk : k ≤ n) : ((List.range n).filter fun i => decide (rank r n i < k)).length = k := by
  obtain ⟨o, h⟩ := sorted_ex r n
  rw [← (h.perm.filter _).length_eq]
  have hs : o = o.take k ++ o.drop k := (List.take_append_drop k o).symm
  have f1 : (o.take k).filter (fun i => decide (rank r n i < k)) = o.take k := List.filter_eq_self.2 (fun i hi => decide_eq_true ((h.take k (h.mem.1 (List.mem_of_mem_take hi))).1 hi))
  have f2 : (o.drop k).filter (fun i => decide (rank r n i < k)) = [] := List.filter_eq_nil_iff.2 (fun i hi hlt => by
    have hm := (h.take k (h.mem.1 (List.mem_of_mem_drop hi))).2 (of_decide_eq_true hlt)
    have hnd := h.nodup
    rw [hs] at hnd
    exact (List.nodup_append.1 hnd).2.2 _ hm _ hi rfl)
  rw [hs, List.filter_append, f1, f2, List.append_nil, List.length_take, h.length]; omega
theorem rank_step {r : Nat → Nat} {n i j : Nat} (h : ahead r j i = true) (hj : j < n) : rank r n j < rank r n i := by
  obtain ⟨o, ho⟩ := sorted_ex r n
  unfold rank
  have hsub : ((List.range n).filter fun k => ahead r k j).Sublist ((List.range n).filter fun k => ahead r k i) := by
    have : (List.range n).filter (fun k => ahead r k j) = ((List.range n).filter fun k => ahead r k i).filter fun k => ahead r k j := by
      rw [List.filter_filter]
      apply List.filter_congr
      intro k _
      cases hk : ahead r k j with
      | false => rfl
      | true => rw [ahead_trans hk h]; rfl
    rw [this]
    exact List.filter_sublist
  have hlt : ¬ ((List.range n).filter fun k => ahead r k i).length ≤ ((List.range n).filter fun k => ahead r k j).length := by
    intro hle
    have e := hsub.eq_of_length_le hle
    have hm : j ∈ (List.range n).filter fun k => ahead r k i := List.mem_filter.2 ⟨List.mem_range.2 hj, h⟩
    rw [← e] at hm
    have := (List.mem_filter.1 hm).2
    rw [ahead_irrefl] at this
    cases this
  omega
end Go.Proofs.YtjjlpjfojgkpkaaGreatDoor.M
namespace Go.Proofs.YtjjlpjfojgkpkaaGreatDoor.M
def sumTo (f : Nat → Nat) : Nat → Nat
  | 0 => 0
  | n + 1 => sumTo f n + f n
theorem sumTo_add (f g : Nat → Nat) : ∀ n, sumTo (fun i => f i + g i) n = sumTo f n + sumTo g n
  | 0 => rfl
  | n + 1 => by simp only [sumTo, sumTo_add f g n]; omega
theorem sumTo_mul (c : Nat) (f : Nat → Nat) : ∀ n, sumTo (fun i => c * f i) n = c * sumTo f n
  | 0 => rfl
  | n + 1 => by simp only [sumTo, sumTo_mul c f n, Nat.mul_add]
theorem sumTo_congr {f g : Nat → Nat} : ∀ {n}, (∀ i, i < n → f i = g i) → sumTo f n = sumTo g n
  | 0, _ => rfl
  | n + 1, h => by simp only [sumTo]; rw [sumTo_congr (fun i hi => h i (by omega)), h n (by omega)]
theorem sumTo_count (p : Nat → Bool) : ∀ n, sumTo (fun i => if p i then 1 else 0) n = ((List.range n).filter p).length
  | 0 => rfl
  | n + 1 => by
    rw [sumTo, sumTo_count p n, List.range_succ, List.filter_append, List.length_append, List.filter_cons]
    split <;> simp
theorem sumTo_bound (f : Nat → Nat) (m : Nat) : ∀ n, (∀ i, i < n → f i ≤ m) → sumTo f n ≤ ((List.range n).filter fun i => decide (f i ≠ 0)).length * m
  | 0, _ => by simp [sumTo]
  | n + 1, h => by
    have ih := sumTo_bound f m n (fun i hi => h i (by omega))
    have hn := h n (by omega)
    rw [sumTo, List.range_succ, List.filter_append, List.length_append, List.filter_cons]
    by_cases h0 : f n = 0
    · rw [h0]; simpa using ih
    · rw [if_pos (by simpa using h0)]
      simp only [List.filter_nil, List.length_cons, List.length_nil]
      rw [Nat.add_mul]; omega
theorem sumTo_le (f : Nat → Nat) : ∀ n i, i < n → f i ≤ sumTo f n
  | 0, _, h => by omega
  | n + 1, i, h => by
    rw [sumTo]
    by_cases hi : i = n
    · subst hi; omega
    · have := sumTo_le f n i (by omega); omega

/-- Shares of a by weights w of n places whose sum is W. -/
structure Split (a n W : Nat) (w : Nat → Nat) : Prop where
  sum : sumTo w n = W
  pos : 0 < W
section
variable {a n W : Nat} {w : Nat → Nat}
def quo (a W : Nat) (w : Nat → Nat) (i : Nat) : Nat := a * w i / W
def rem (a W : Nat) (w : Nat → Nat) (i : Nat) : Nat := a * w i % W
def left (a n W : Nat) (w : Nat → Nat) : Nat := a - sumTo (quo a W w) n
theorem rem_lt (h : Split a n W w) (i : Nat) : rem a W w i < W := Nat.mod_lt _ h.pos
theorem quo_rem (a W : Nat) (w : Nat → Nat) (i : Nat) : W * quo a W w i + rem a W w i = a * w i := Nat.div_add_mod _ _
theorem split_sum (h : Split a n W w) : W * sumTo (quo a W w) n + sumTo (rem a W w) n = a * W := by
  rw [← sumTo_mul, ← sumTo_add, sumTo_congr (fun i _ => quo_rem a W w i), sumTo_mul, h.sum]
theorem quo_le (h : Split a n W w) : sumTo (quo a W w) n ≤ a := by
  have := split_sum h
  have h2 : W * sumTo (quo a W w) n ≤ W * a := by rw [Nat.mul_comm W a]; omega
  exact Nat.le_of_mul_le_mul_left h2 h.pos
theorem left_rem (h : Split a n W w) : sumTo (rem a W w) n = W * left a n W w := by
  have h1 := split_sum h
  have h2 := quo_le h
  unfold left
  rw [Nat.mul_sub, Nat.mul_comm W a]
  omega
/-- The places with a rest. -/
def rested (a n W : Nat) (w : Nat → Nat) : Nat := ((List.range n).filter fun i => decide (rem a W w i ≠ 0)).length
theorem left_rested (h : Split a n W w) : left a n W w ≤ rested a n W w := by
  have h1 := sumTo_bound (rem a W w) (W - 1) n (fun i _ => by have := rem_lt h i; omega)
  rw [left_rem h] at h1
  have h2 : W * left a n W w ≤ rested a n W w * (W - 1) := h1
  have hW := h.pos
  have h3 : rested a n W w * (W - 1) ≤ rested a n W w * W := Nat.mul_le_mul_left _ (by omega)
  have h4 : W * left a n W w ≤ W * rested a n W w := by rw [Nat.mul_comm W (rested a n W w)]; omega
  exact Nat.le_of_mul_le_mul_left h4 hW
theorem rested_le : rested a n W w ≤ n := by
  have := List.length_filter_le (fun i => decide (rem a W w i ≠ 0)) (List.range n)
  simpa [rested] using this
theorem left_le (h : Split a n W w) : left a n W w ≤ n := Nat.le_trans (left_rested h) rested_le
/-- WHO HAS NO REST gets none more. -/
theorem rank_rested {i : Nat} (h0 : rem a W w i = 0) : rested a n W w ≤ rank (rem a W w) n i := by
  unfold rested rank
  have : (List.range n).filter (fun i => decide (rem a W w i ≠ 0)) = (List.range n).filter (fun j => decide (rem a W w j ≠ 0) && ahead (rem a W w) j i) := by
    apply List.filter_congr
    intro j _
    by_cases hj : rem a W w j = 0
    · simp [hj]
    · have : ahead (rem a W w) j i = true := by
        simp only [ahead, Bool.or_eq_true, decide_eq_true_eq]; left; omega
      simp [this]
  rw [this, ← List.filter_filter]
  exact List.length_filter_le _ _
/-- The share of place i. -/
def share (a n W : Nat) (w : Nat → Nat) (i : Nat) : Nat := quo a W w i + if rank (rem a W w) n i < left a n W w then 1 else 0
/-- NOTHING IS LOST. -/
theorem share_sum (h : Split a n W w) : sumTo (share a n W w) n = a := by
  unfold share
  rw [sumTo_add]
  have : sumTo (fun i => if rank (rem a W w) n i < left a n W w then 1 else 0) n = left a n W w := by
    have h1 := sumTo_count (fun i => decide (rank (rem a W w) n i < left a n W w)) n
    rw [rank_count _ (left_le h)] at h1
    simpa using h1
  rw [this]
  have := quo_le h
  unfold left; omega
theorem share_none (h : Split a n W w) {i : Nat} (h0 : rem a W w i = 0) : share a n W w i = quo a W w i := by
  unfold share
  have h1 := rank_rested (n := n) h0
  have h2 := left_rested h
  rw [if_neg (by omega)]; rfl
theorem share_le (h : Split a n W w) {i : Nat} (hi : i < n) : share a n W w i ≤ a := by
  have := sumTo_le (share a n W w) n i hi
  rwa [share_sum h] at this
theorem share_near (i : Nat) : quo a W w i ≤ share a n W w i ∧ share a n W w i ≤ quo a W w i + 1 := by
  unfold share; split <;> omega
/-- A GREATER WEIGHT doesn't get less; of two alike the first doesn't. -/
theorem share_mono (h : Split a n W w) {i j : Nat} (hj : j < n) (hw : w i < w j ∨ (w i = w j ∧ j < i)) : share a n W w i ≤ share a n W w j := by
  have qi := quo_rem a W w i
  have qj := quo_rem a W w j
  have ri := rem_lt h i
  have rj := rem_lt h j
  have hle : a * w i ≤ a * w j := Nat.mul_le_mul_left _ (by omega)
  have hq : quo a W w i ≤ quo a W w j := Nat.div_le_div_right hle
  rcases Nat.lt_or_ge (quo a W w i) (quo a W w j) with hlt | hge
  · have := (share_near (a := a) (n := n) (W := W) (w := w) i).2
    have := (share_near (a := a) (n := n) (W := W) (w := w) j).1
    omega
  · have he : quo a W w i = quo a W w j := by omega
    rw [he] at qi
    by_cases hr : rem a W w i = rem a W w j
    · rcases hw with hw | ⟨hw, hji⟩
      · have ha : a = 0 := by
          have e : a * w i = a * w j := by omega
          rcases Nat.eq_zero_or_pos a with h0 | h0
          · exact h0
          · exact absurd (Nat.eq_of_mul_eq_mul_left h0 e) (by omega)
        have hl : left a n W w = 0 := by unfold left; omega
        unfold share; rw [he, hl]; simp
      · have hah : ahead (rem a W w) j i = true := by
          simp only [ahead, Bool.or_eq_true, Bool.and_eq_true, decide_eq_true_eq, beq_iff_eq]; right; omega
        have := rank_step hah hj
        unfold share; rw [he]
        split <;> split <;> omega
    · have hah : ahead (rem a W w) j i = true := by
        simp only [ahead, Bool.or_eq_true, Bool.and_eq_true, decide_eq_true_eq, beq_iff_eq]; left; omega
      have := rank_step hah hj
      unfold share; rw [he]
      split <;> split <;> omega
end
end Go.Proofs.YtjjlpjfojgkpkaaGreatDoor.M
namespace Go.Proofs.YtjjlpjfojgkpkaaGreatDoor.M
/-! ### Merging halves -/
/-- Two rows of places merged: of equal rests the first row's. -/
def merge (r : Nat → Nat) : List Nat → List Nat → List Nat
  | [], b => b
  | a, [] => a
  | x :: a, y :: b => if r y ≤ r x then x :: merge r a (y :: b) else y :: merge r (x :: a) b
termination_by a b => a.length + b.length
theorem merge_nil (r : Nat → Nat) (a : List Nat) : merge r a [] = a := by cases a <;> simp [merge]
theorem nil_merge (r : Nat → Nat) (b : List Nat) : merge r [] b = b := by simp [merge]
theorem merge_yes {r : Nat → Nat} {x y : Nat} (a b : List Nat) (h : r y ≤ r x) : merge r (x :: a) (y :: b) = x :: merge r a (y :: b) := by rw [merge, if_pos h]
theorem merge_no {r : Nat → Nat} {x y : Nat} (a b : List Nat) (h : ¬ r y ≤ r x) : merge r (x :: a) (y :: b) = y :: merge r (x :: a) b := by rw [merge, if_neg h]
theorem merge_perm (r : Nat → Nat) : ∀ (n : Nat) (a b : List Nat), a.length + b.length = n → (merge r a b).Perm (a ++ b)
  | _, [], b, _ => by rw [nil_merge]; exact List.Perm.refl _
  | _, x :: a, [], _ => by rw [merge_nil, List.append_nil]
  | 0, x :: a, y :: b, h => by simp at h
  | n + 1, x :: a, y :: b, h => by
    by_cases hr : r y ≤ r x
    · rw [merge_yes a b hr]
      exact (merge_perm r n a (y :: b) (by simp at h ⊢; omega)).cons x
    · rw [merge_no a b hr]
      have ih := (merge_perm r n (x :: a) b (by simp at h ⊢; omega)).cons y
      exact ih.trans (List.perm_middle.symm)
theorem merge_sorted (r : Nat → Nat) : ∀ (n : Nat) (a b : List Nat), a.length + b.length = n → a.Pairwise (fun i j => ahead r i j = true) → b.Pairwise (fun i j => ahead r i j = true) → (∀ x ∈ a, ∀ y ∈ b, x < y) → (merge r a b).Pairwise fun i j => ahead r i j = true
  | _, [], b, _, _, hb, _ => by rw [nil_merge]; exact hb
  | _, x :: a, [], _, ha, _, _ => by rw [merge_nil]; exact ha
  | 0, x :: a, y :: b, h, _, _, _ => by simp at h
  | n + 1, x :: a, y :: b, h, ha, hb, hab => by
    obtain ⟨ha1, ha2⟩ := List.pairwise_cons.1 ha
    obtain ⟨hb1, hb2⟩ := List.pairwise_cons.1 hb
    by_cases hr : r y ≤ r x
    · rw [merge_yes a b hr, List.pairwise_cons]
      have hxy : ahead r x y = true := by
        have := hab x (by simp) y (by simp)
        simp only [ahead, Bool.or_eq_true, decide_eq_true_eq, Bool.and_eq_true, beq_iff_eq]; omega
      refine ⟨fun z hz => ?_, merge_sorted r n a (y :: b) (by simp at h ⊢; omega) ha2 hb (fun u hu v hv => hab u (by simp [hu]) v hv)⟩
      rcases List.mem_append.1 ((merge_perm r _ a (y :: b) rfl).mem_iff.1 hz) with h1 | h1
      · exact ha1 z h1
      · rcases List.mem_cons.1 h1 with rfl | h1
        · exact hxy
        · exact ahead_trans hxy (hb1 z h1)
    · rw [merge_no a b hr, List.pairwise_cons]
      have hyx : ahead r y x = true := by
        simp only [ahead, Bool.or_eq_true, decide_eq_true_eq]; left; omega
      refine ⟨fun z hz => ?_, merge_sorted r n (x :: a) b (by simp at h ⊢; omega) ha hb2 (fun u hu v hv => hab u hu v (by simp [hv]))⟩
      rcases List.mem_append.1 ((merge_perm r _ (x :: a) b rfl).mem_iff.1 hz) with h1 | h1
      · rcases List.mem_cons.1 h1 with rfl | h1
        · exact hyx
        · exact ahead_trans hyx (ha1 z h1)
      · exact hb1 z h1
/-- What sorts a row of rising places. -/
structure Sorts (r : Nat → Nat) (l o : List Nat) : Prop where
  perm : o.Perm l
  sorted : o.Pairwise fun i j => ahead r i j = true
theorem Sorts.short {r : Nat → Nat} {l : List Nat} (h : l.length < 2) : Sorts r l l := by
  refine ⟨List.Perm.refl _, ?_⟩
  match l, h with
  | [], _ => exact List.Pairwise.nil
  | [x], _ => simp
theorem Sorts.merge {r : Nat → Nat} {l a b : List Nat} {k : Nat} (hl : l.Pairwise (· < ·)) (ha : Sorts r (l.take k) a) (hb : Sorts r (l.drop k) b) : Sorts r l (M.merge r a b) := by
  have hs : l = l.take k ++ l.drop k := (List.take_append_drop k l).symm
  refine ⟨?_, merge_sorted r _ a b rfl ha.sorted hb.sorted fun x hx y hy => ?_⟩
  · refine (merge_perm r _ a b rfl).trans ?_
    conv => rhs; rw [hs]
    exact ha.perm.append hb.perm
  · rw [hs, List.pairwise_append] at hl
    exact hl.2.2 x (ha.perm.mem_iff.1 hx) y (hb.perm.mem_iff.1 hy)
theorem Sorts.row {r : Nat → Nat} {n : Nat} {o : List Nat} (h : Sorts r (List.range n) o) : Sorted r n o := ⟨h.perm, h.sorted⟩

/-! ### Sums -/
def sumI : List Int → Int
  | [] => 0
  | x :: l => x + sumI l
theorem sumI_append : ∀ (a b : List Int), sumI (a ++ b) = sumI a + sumI b
  | [], b => by simp [sumI]
  | x :: a, b => by rw [List.cons_append, sumI, sumI, sumI_append a b]; omega
theorem sumI_bound : ∀ (l : List Int) (m : Int), (∀ x ∈ l, -m ≤ x ∧ x ≤ m) → -(m * l.length) ≤ sumI l ∧ sumI l ≤ m * l.length
  | [], m, _ => by simp [sumI]
  | x :: l, m, h => by
    have h0 := h x (by simp)
    have ih := sumI_bound l m (fun y hy => h y (by simp [hy]))
    rw [sumI, List.length_cons]
    have e : m * ((l.length + 1 : Nat) : Int) = m * (l.length : Int) + m := by
      rw [Int.natCast_add, Int.mul_add]; simp
    rw [e]; omega
def fit (v : Int) : Option Int := if -9223372036854775808 ≤ v ∧ v < 9223372036854775808 then some v else none
/-- A whole number in two words: hi, and lo from 0 to 2^64 - 1. -/
def two (hi : Int) (lo : Nat) : Int := hi * 18446744073709551616 + lo
theorem two_plus (h1 h2 : Int) (l1 l2 : Nat) (a : l1 < 18446744073709551616) (b : l2 < 18446744073709551616) :
    two (if (l1 + l2) % 18446744073709551616 < l1 then h1 + h2 + 1 else h1 + h2) ((l1 + l2) % 18446744073709551616) = two h1 l1 + two h2 l2 := by
  unfold two
  split <;> omega
theorem fit_two (hi : Int) (lo : Nat) (h : lo < 18446744073709551616) :
    fit (two hi lo) = if hi = 0 ∧ lo < 9223372036854775808 then some (lo : Int) else if hi = -1 ∧ 9223372036854775808 ≤ lo then some ((lo : Int) - 18446744073709551616) else none := by
  unfold fit two
  split
  · split
    · congr 1; omega
    · split
      · congr 1; omega
      · omega
  · split
    · omega
    · split
      · omega
      · rfl
end Go.Proofs.YtjjlpjfojgkpkaaGreatDoor.M
