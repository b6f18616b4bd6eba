/-
  Layer 7, plain: numbers as bytes, the sector of a stamp and a payload, what counts, and what tears leave.
-/
import Derived.Test.YtnnkibhlildojaaDoorCSpec
namespace Go.Proofs.YtnnkibhlildojaaDoor.E
set_option maxRecDepth 100000

/-! ### Numbers, the lowest byte first -/
def low : Nat → Nat → List UInt8
  | 0, _ => []
  | n + 1, x => x.toUInt8 :: low n (x / 256)
def num : List UInt8 → Nat
  | [] => 0
  | c :: s => c.toNat + 256 * num s
theorem low_length : ∀ (n x : Nat), (low n x).length = n
  | 0, _ => rfl
  | n + 1, x => by rw [low, List.length_cons, low_length n]
theorem u8_mod (n : Nat) : n.toUInt8.toNat = n % 256 := by rw [Nat.toUInt8, UInt8.toNat_ofNat']
theorem num_low : ∀ (n x : Nat), num (low n x) = x % 256 ^ n
  | 0, x => by rw [low, num, Nat.pow_zero, Nat.mod_one]
  | n + 1, x => by
    rw [low, num, num_low n, u8_mod, Nat.pow_succ, Nat.mul_comm (256 ^ n) 256, Nat.mod_mul]
theorem num_lt : ∀ (s : List UInt8), num s < 256 ^ s.length
  | [] => by decide
  | c :: s => by
    have h1 := num_lt s
    have h2 := c.toNat_lt
    rw [num, List.length_cons, Nat.pow_succ]
    omega
theorem num_append : ∀ (s t : List UInt8), num (s ++ t) = num s + 256 ^ s.length * num t
  | [], t => by simp [num]
  | c :: s, t => by
    rw [List.cons_append, num, num, num_append s t, List.length_cons, Nat.pow_succ, Nat.mul_comm (256 ^ s.length) 256, Nat.mul_add, Nat.mul_assoc, Nat.add_assoc]
theorem num_inj : ∀ {s t : List UInt8}, s.length = t.length → num s = num t → s = t
  | [], [], _, _ => rfl
  | [], _ :: _, h, _ => by simp at h
  | _ :: _, [], h, _ => by simp at h
  | c :: s, d :: t, h, e => by
    rw [num, num] at e
    have h1 := c.toNat_lt
    have h2 := d.toNat_lt
    have hs : s.length = t.length := by simpa using h
    have e1 : c.toNat = d.toNat := by omega
    have e2 : num s = num t := by omega
    rw [UInt8.toNat_inj.1 e1, num_inj hs e2]
theorem num_zeros : ∀ n, num (List.replicate n 0) = 0
  | 0 => rfl
  | n + 1 => by rw [List.replicate_succ, num, num_zeros n]; rfl

/-! ### The sector -/
def pad (p : List UInt8) : List UInt8 := p ++ List.replicate (234 - p.length) 0
def front3 (st : Nat) (p : List UInt8) : List UInt8 := low 8 st ++ (low 2 p.length ++ pad p)
def sct (st : Nat) (p : List UInt8) : List UInt8 := front3 st p ++ (low 4 (C.sum (front3 st p)) ++ low 8 st)
def front (t : List UInt8) : Nat := num (t.take 8)
def back (t : List UInt8) : Nat := num (t.drop 248)
def size (t : List UInt8) : Nat := num ((t.drop 8).take 2)
def pay (t : List UInt8) : List UInt8 := (t.drop 10).take (size t)
theorem pad_length {p : List UInt8} (h : p.length ≤ 234) : (pad p).length = 234 := by unfold pad; simp; omega
theorem front3_length (st : Nat) {p : List UInt8} (h : p.length ≤ 234) : (front3 st p).length = 244 := by
  unfold front3; simp [low_length, pad_length h]
theorem sct_length (st : Nat) {p : List UInt8} (h : p.length ≤ 234) : (sct st p).length = 256 := by
  unfold sct; simp [low_length, front3_length st h]
theorem sct_take (st : Nat) (p : List UInt8) : (sct st p).take 8 = low 8 st := by
  unfold sct front3
  rw [List.append_assoc, List.take_append_of_le_length (by rw [low_length]; omega)]
  exact List.take_of_length_le (by rw [low_length]; omega)
theorem sct_drop (st : Nat) {p : List UInt8} (h : p.length ≤ 234) : (sct st p).drop 248 = low 8 st := by
  unfold sct
  rw [← List.append_assoc]
  exact List.drop_left' (by simp [low_length, front3_length st h])
theorem sct_front {st : Nat} (hs : st < 2 ^ 64) (p : List UInt8) : front (sct st p) = st := by
  unfold front; rw [sct_take, num_low]; exact Nat.mod_eq_of_lt hs
theorem sct_back {st : Nat} (hs : st < 2 ^ 64) {p : List UInt8} (h : p.length ≤ 234) : back (sct st p) = st := by
  unfold back; rw [sct_drop st h, num_low]; exact Nat.mod_eq_of_lt hs
theorem sct_size (st : Nat) {p : List UInt8} (h : p.length ≤ 234) : size (sct st p) = p.length := by
  unfold size sct front3
  rw [List.append_assoc, List.drop_left' (low_length 8 st), List.append_assoc, List.take_append_of_le_length (by rw [low_length]; omega), List.take_of_length_le (by rw [low_length]; omega), num_low]
  exact Nat.mod_eq_of_lt (by omega)
theorem sct_pay (st : Nat) {p : List UInt8} (h : p.length ≤ 234) : pay (sct st p) = p := by
  unfold pay
  rw [sct_size st h]
  unfold sct front3 pad
  have e : low 8 st ++ (low 2 p.length ++ (p ++ List.replicate (234 - p.length) 0)) = (low 8 st ++ low 2 p.length) ++ (p ++ List.replicate (234 - p.length) 0) := by simp
  rw [e, List.append_assoc, List.drop_left' (by simp [low_length]), List.append_assoc, List.take_left' rfl]

/-- What a text tells under a stamp. -/
def openS (st : Nat) (raw : List UInt8) : Option (List UInt8) :=
  if raw.length = 256 ∧ st ≠ 0 ∧ size raw ≤ 234 ∧ raw = sct st (pay raw) then some (pay raw) else none
def counts (st : Nat) (raw : List UInt8) : Bool := (openS st raw).isSome
theorem pay_length {raw : List UInt8} (h : raw.length = 256) (hs : size raw ≤ 234) : (pay raw).length = size raw := by
  unfold pay; simp; omega
theorem open_some {st : Nat} {raw p : List UInt8} (h : openS st raw = some p) : p.length ≤ 234 ∧ st ≠ 0 ∧ raw = sct st p := by
  unfold openS at h
  split at h
  · rename_i k
    obtain ⟨k1, k2, k3, k4⟩ := k
    injection h with h
    rw [← h]
    exact ⟨by rw [pay_length k1 k3]; exact k3, k2, k4⟩
  · cases h
theorem open_sct {st : Nat} (hs : st ≠ 0) {p : List UInt8} (h : p.length ≤ 234) : openS st (sct st p) = some p := by
  unfold openS
  rw [if_pos ⟨sct_length st h, hs, by rw [sct_size st h]; exact h, by rw [sct_pay st h]⟩, sct_pay st h]
theorem counts_sct {st : Nat} (hs : st ≠ 0) {p : List UInt8} (h : p.length ≤ 234) : counts st (sct st p) = true := by
  unfold counts; rw [open_sct hs h]; rfl
theorem counts_ends {st : Nat} (hs : st < 2 ^ 64) {raw : List UInt8} (h : counts st raw = true) : st ≠ 0 ∧ front raw = st ∧ back raw = st := by
  unfold counts at h
  obtain ⟨p, hp⟩ := Option.isSome_iff_exists.1 h
  obtain ⟨h1, h2, rfl⟩ := open_some hp
  exact ⟨h2, sct_front hs p, sct_back hs h1⟩
/-- Under no other stamp. -/
theorem open_other {st o : Nat} (hs : st < 2 ^ 64) (ho : o < 2 ^ 64) {p : List UInt8} (hz : st ≠ 0) (h : p.length ≤ 234) : counts o (sct st p) = decide (o = st) := by
  by_cases e : o = st
  · subst e; rw [counts_sct hz h]; simp
  · cases hc : counts o (sct st p) with
    | false => simp [e]
    | true =>
      have := (counts_ends ho hc).2.1
      rw [sct_front hs] at this
      exact absurd this.symm e

/-! ### Tears -/
def tear (a b : List UInt8) (n : Nat) : List UInt8 := b.take n ++ a.drop n
theorem tear_length {a b : List UInt8} (ha : a.length = 256) (hb : b.length = 256) {n : Nat} (hn : n ≤ 256) : (tear a b n).length = 256 := by
  unfold tear; simp; omega
theorem tear_back {a b : List UInt8} (hb : b.length = 256) {n : Nat} (hn : n ≤ 248) : back (tear a b n) = back a := by
  unfold back tear
  rw [List.drop_append, List.drop_eq_nil_of_le (by simp; omega), List.nil_append, List.length_take, List.drop_drop]
  congr 2; omega
theorem tear_front {a b : List UInt8} (hb : b.length = 256) {n : Nat} (hn : 8 ≤ n) : front (tear a b n) = front b := by
  unfold front tear
  rw [List.take_append_of_le_length (by simp; omega), List.take_take]
  congr 2; omega
theorem tear_new {a b : List UInt8} (ha : a.length = 256) (hb : b.length = 256) {n : Nat} (hn : n ≤ 256) (h8 : 248 ≤ n) (h : back (tear a b n) = back b) : tear a b n = b := by
  have h1 : (tear a b n).take 248 = b.take 248 := by
    unfold tear
    rw [List.take_append_of_le_length (by simp; omega), List.take_take]
    congr 1; omega
  have h2 : (tear a b n).drop 248 = b.drop 248 := num_inj (by rw [List.length_drop, List.length_drop, tear_length ha hb hn, hb]) h
  rw [← List.take_append_drop 248 (tear a b n), h1, h2, List.take_append_drop]
theorem tear_old {a b : List UInt8} (ha : a.length = 256) (hb : b.length = 256) {n : Nat} (h8 : n ≤ 8) (h : front (tear a b n) = front a) : tear a b n = a := by
  have h1 : (tear a b n).drop 8 = a.drop 8 := by
    unfold tear
    rw [List.drop_append, List.drop_eq_nil_of_le (by simp; omega), List.nil_append, List.length_take, List.drop_drop]
    congr 1; omega
  have h2 : (tear a b n).take 8 = a.take 8 := num_inj (by rw [List.length_take, List.length_take, tear_length ha hb (by omega), ha]) h
  rw [← List.take_append_drop 8 (tear a b n), h1, h2, List.take_append_drop]
theorem tear_back_le {a b : List UInt8} (ha : a.length = 256) (hb : b.length = 256) {n : Nat} (hn : n ≤ 256) (h : back a ≤ back b) : back (tear a b n) ≤ back b := by
  by_cases h8 : n ≤ 248
  · rw [tear_back hb h8]; exact h
  · obtain ⟨k, rfl⟩ : ∃ k, n = 248 + k := ⟨n - 248, by omega⟩
    have e : (tear a b (248 + k)).drop 248 = (b.drop 248).take k ++ (a.drop 248).drop k := by
      unfold tear
      rw [List.drop_append, List.drop_take, List.length_take, List.drop_drop, List.drop_drop]
      congr 2
      · omega
      · omega
    have e1 := num_append ((b.drop 248).take k) ((a.drop 248).drop k)
    have e2 := num_append ((b.drop 248).take k) ((b.drop 248).drop k)
    have e3 := num_append ((a.drop 248).take k) ((a.drop 248).drop k)
    rw [List.take_append_drop] at e2 e3
    have hl : ((b.drop 248).take k).length = k := by simp; omega
    have hl2 : ((a.drop 248).take k).length = k := by simp; omega
    have b1 := num_lt ((b.drop 248).take k)
    rw [hl] at e1 e2 b1
    rw [hl2] at e3
    unfold back at h ⊢
    rw [e, e1]
    rw [e2, e3] at h
    generalize num ((b.drop 248).take k) = x at *
    generalize num ((a.drop 248).take k) = y at *
    generalize num ((b.drop 248).drop k) = u at *
    generalize num ((a.drop 248).drop k) = v at *
    rw [e2]
    have hvu : v ≤ u := by
      apply Nat.le_of_not_lt
      intro hlt
      have := Nat.mul_le_mul_left (256 ^ k) (show u + 1 ≤ v from hlt)
      rw [Nat.mul_add, Nat.mul_one] at this
      omega
    have := Nat.mul_le_mul_left (256 ^ k) hvu
    omega

/-- ONE TEAR. -/
theorem one_tear {a b : List UInt8} (ha : a.length = 256) (hb : b.length = 256) {o st : Nat} (hfa : front a = o) (hba : back a = o) (hfb : front b = st) (hbb : back b = st) (hne : st ≠ o) {n : Nat} (hn : n ≤ 256)
    {x : Nat} (hx : x < 2 ^ 64) (hc : counts x (tear a b n) = true) : (x = st ∧ tear a b n = b) ∨ (x = o ∧ tear a b n = a) := by
  obtain ⟨h0, h1, h2⟩ := counts_ends hx hc
  by_cases h8 : 8 ≤ n
  · have hf := tear_front (a := a) hb h8
    have hxs : x = st := by rw [← h1, hf, hfb]
    by_cases h248 : n ≤ 248
    · have hk := tear_back (a := a) hb h248
      rw [h2, hba] at hk
      exact absurd (hxs.symm.trans hk) hne
    · exact Or.inl ⟨hxs, tear_new ha hb hn (by omega) (by rw [h2, hbb]; exact hxs)⟩
  · have hk := tear_back (a := a) hb (show n ≤ 248 by omega)
    have hxo : x = o := by rw [← h2, hk, hba]
    exact Or.inr ⟨hxo, tear_old ha hb (by omega) (by rw [h1, hfa]; exact hxo)⟩
/-- MANY TEARS: one of them. -/
theorem next_tear {a b : List UInt8} (ha : a.length = 256) (hb : b.length = 256) {o st : Nat} (hba : back a ≤ o) (hbb : back b = st) (hlt : o < st) {n : Nat} (hn : n ≤ 256) :
    back (tear a b n) ≤ st ∧ (∀ {x : Nat}, x < 2 ^ 64 → st < x → counts x (tear a b n) = false) ∧ (st < 2 ^ 64 → counts st (tear a b n) = true → tear a b n = b) := by
  have h1 : back (tear a b n) ≤ st := by
    have := tear_back_le ha hb hn (by omega : back a ≤ back b)
    omega
  refine ⟨h1, fun {x} hx hs => ?_, fun hst hc => ?_⟩
  · cases hc : counts x (tear a b n) with
    | false => rfl
    | true =>
      have := (counts_ends hx hc).2.2
      omega
  · obtain ⟨h0, h2, h3⟩ := counts_ends hst hc
    by_cases h248 : n ≤ 248
    · have hk := tear_back (a := a) hb h248
      omega
    · exact tear_new ha hb hn (by omega) (by omega)
end Go.Proofs.YtnnkibhlildojaaDoor.E
