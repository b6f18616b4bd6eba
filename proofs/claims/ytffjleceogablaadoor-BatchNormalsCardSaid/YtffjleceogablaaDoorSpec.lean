/-
  Plain facts on bytes, of no program: the forms of values (wire) and their reading, lists of bytes alone.
-/
import Derived.Lib.Varint
import Derived.Lib.VarintBits
import Derived.Lib.VarintDec
import Derived.Lib.Zigzag
namespace Go.Proofs.YtffjleceogablaaDoor
open Go.Lib (uvarint uvarint_small uvarint_big)

/-- n bytes of x, the low one first. -/
def lowB : Nat → Nat → List UInt8
  | 0, _ => []
  | n + 1, x => (x % 256).toUInt8 :: lowB n (x / 256)

theorem lowB_length : ∀ n x, (lowB n x).length = n
  | 0, _ => rfl
  | n + 1, x => by simp [lowB, lowB_length n]

theorem lowB_snoc : ∀ n x, lowB (n + 1) x = lowB n x ++ [(x / 256 ^ n % 256).toUInt8]
  | 0, x => by simp [lowB]
  | n + 1, x => by
    rw [lowB, lowB_snoc n (x / 256), lowB, List.cons_append]
    rw [Nat.div_div_eq_div_mul, Nat.pow_succ, Nat.mul_comm 256]

/-- The bits as a float is written: one NaN. -/
def isNaNB (bits : Nat) : Bool := decide (bits / 8388608 % 256 = 255 ∧ bits % 8388608 ≠ 0)
def canon (bits : Nat) : Nat := if isNaNB bits then 2143289344 else bits
def floatB (bits : Nat) : List UInt8 := lowB 4 (canon bits)
def textB (s : List UInt8) : List UInt8 := uvarint s.length ++ s
def eachB : List (List UInt8) → List UInt8
  | [] => []
  | s :: r => textB s ++ eachB r
def textsB (l : List (List UInt8)) : List UInt8 := uvarint l.length ++ eachB l

theorem eachB_append : ∀ l m, eachB (l ++ m) = eachB l ++ eachB m
  | [], m => rfl
  | s :: r, m => by simp [eachB, eachB_append r m]

/-- THE READING OF A VARINT from its byte number i on, acc read so far: an error's number, or the value and how many bytes. -/
def vd (i acc : Nat) : List UInt8 → Nat ⊕ (Nat × Nat)
  | [] => .inl 1
  | b :: r => if i = 9 ∧ 1 < b.toNat then .inl 2 else
    if 128 ≤ b.toNat then vd (i + 1) (acc + b.toNat % 128 * 128 ^ i) r else
    if b.toNat = 0 ∧ 0 < i then .inl 2 else .inr (acc + b.toNat % 128 * 128 ^ i, i + 1)

def varintD (l : List UInt8) : Nat ⊕ (Nat × Nat) := vd 0 0 l

theorem toUInt8_toNat {n : Nat} (h : n < 256) : n.toUInt8.toNat = n := by simp; omega

/-- What was written is read, whatever stands behind it. -/
theorem vd_uvarint (t : List UInt8) : ∀ (k i acc x : Nat), i + k = 9 → x < 2 * 128 ^ k → (0 < i → 0 < x) → vd i acc (uvarint x ++ t) = .inr (acc + x * 128 ^ i, i + (uvarint x).length) := by
  intro k
  induction k with
  | zero =>
    intro i acc x hi hx h0
    have hx' : x < 2 := by simpa using hx
    rw [uvarint_small (by omega)]
    have hb : x.toUInt8.toNat = x := toUInt8_toNat (by omega)
    simp only [List.cons_append, List.nil_append, vd, hb]
    rw [if_neg (by omega), if_neg (by omega), if_neg (by omega)]
    simp [Nat.mod_eq_of_lt (show x < 128 by omega)]
  | succ k ih =>
    intro i acc x hi hx h0
    by_cases hs : x < 128
    · rw [uvarint_small hs]
      have hb : x.toUInt8.toNat = x := toUInt8_toNat (by omega)
      simp only [List.cons_append, List.nil_append, vd, hb]
      rw [if_neg (by omega), if_neg (by omega), if_neg (by omega)]
      simp [Nat.mod_eq_of_lt hs]
    · rw [uvarint_big (by omega)]
      have hb : (x % 128 + 128).toUInt8.toNat = x % 128 + 128 := toUInt8_toNat (by omega)
      simp only [List.cons_append, vd, hb]
      rw [if_neg (by omega), if_pos (by omega), ih (i + 1) _ (x / 128) (by omega) (by rw [Nat.pow_succ] at hx; omega) (by omega)]
      have e1 : (x % 128 + 128) % 128 = x % 128 := by omega
      have e2 : x % 128 * 128 ^ i + x / 128 * 128 ^ (i + 1) = x * 128 ^ i := by
        rw [Nat.pow_succ, ← Nat.mul_assoc, Nat.mul_right_comm, ← Nat.add_mul]
        congr 1
        omega
      rw [e1, Nat.add_assoc, e2]
      simp only [List.length_cons]
      congr 2
      omega

theorem varintD_uvarint {x : Nat} (h : x < 18446744073709551616) (t : List UInt8) : varintD (uvarint x ++ t) = .inr (x, (uvarint x).length) := by
  rw [varintD, vd_uvarint t 9 0 0 x (by omega) (by simpa using h) (by omega)]
  simp

/-- What is read is just the bytes that its value is written as. -/
theorem vd_inv : ∀ (l : List UInt8) (i acc x n : Nat), i ≤ 9 → vd i acc l = .inr (x, n) → ∃ y, x = acc + y * 128 ^ i ∧ y < 2 * 128 ^ (9 - i) ∧ (0 < i → 0 < y) ∧ n = i + (uvarint y).length ∧ ∃ t, l = uvarint y ++ t
  | [], i, acc, x, n, hi, h => by simp [vd] at h
  | b :: r, i, acc, x, n, hi, h => by
    rw [vd] at h
    have hb := b.toNat_lt
    split at h
    · cases h
    · rename_i h9
      split at h
      · rename_i hbig
        have hi9 : i ≠ 9 := by omega
        obtain ⟨y, hx, hy, hp, hn, t, ht⟩ := vd_inv r (i + 1) _ x n (by omega) h
        have hy1 := hp (by omega)
        refine ⟨b.toNat % 128 + 128 * y, ?_, ?_, fun _ => by omega, ?_, t, ?_⟩
        · rw [hx, Nat.add_assoc, Nat.pow_succ, Nat.add_mul, ← Nat.mul_assoc y, Nat.mul_right_comm y, Nat.mul_comm y 128]
        · have e : 9 - i = (9 - (i + 1)) + 1 := by omega
          rw [e, Nat.pow_succ]
          omega
        · have h1 : 128 ≤ b.toNat % 128 + 128 * y := by omega
          rw [uvarint_big h1, List.length_cons, show (b.toNat % 128 + 128 * y) / 128 = y by omega, hn]
          omega
        · have h1 : 128 ≤ b.toNat % 128 + 128 * y := by omega
          rw [uvarint_big h1, show (b.toNat % 128 + 128 * y) / 128 = y by omega, ht, List.cons_append]
          congr 1
          rw [show (b.toNat % 128 + 128 * y) % 128 + 128 = b.toNat by omega]
          simp
      · rename_i hsm
        split at h
        · cases h
        · rename_i h0
          simp only [Sum.inr.injEq, Prod.mk.injEq] at h
          obtain ⟨rfl, rfl⟩ := h
          have hlt : b.toNat < 128 := by omega
          refine ⟨b.toNat, by rw [Nat.mod_eq_of_lt hlt], ?_, fun hi0 => by omega, by rw [uvarint_small hlt]; simp, r, ?_⟩
          · by_cases e9 : i = 9
            · subst e9; simp; omega
            · have e : 9 - i = (9 - (i + 1)) + 1 := by omega
              rw [e, Nat.pow_succ]
              have := Nat.pow_pos (n := 9 - (i + 1)) (show 0 < 128 by omega)
              omega
          · rw [uvarint_small hlt]; simp

theorem varintD_inv {l : List UInt8} {x n : Nat} (h : varintD l = .inr (x, n)) : x < 18446744073709551616 ∧ n = (uvarint x).length ∧ ∃ t, l = uvarint x ++ t := by
  obtain ⟨y, hx, hy, _, hn, t, ht⟩ := vd_inv l 0 0 x n (by omega) h
  simp at hx
  subst hx
  exact ⟨by simpa using hy, by simpa using hn, t, ht⟩

/-- Cut anywhere ahead of its end it is too short. -/
theorem vd_cut : ∀ (k i acc x c : Nat), i + k = 9 → x < 2 * 128 ^ k → c < (uvarint x).length → vd i acc ((uvarint x).take c) = .inl 1 := by
  intro k
  induction k with
  | zero =>
    intro i acc x c hi hx hc
    have hx' : x < 2 := by simpa using hx
    rw [uvarint_small (by omega)] at hc ⊢
    obtain rfl : c = 0 := by simpa using hc
    rfl
  | succ k ih =>
    intro i acc x c hi hx hc
    by_cases hs : x < 128
    · rw [uvarint_small hs] at hc ⊢
      obtain rfl : c = 0 := by simpa using hc
      rfl
    · rw [uvarint_big (by omega)] at hc ⊢
      cases c with
      | zero => rfl
      | succ c =>
        have hb : (x % 128 + 128).toUInt8.toNat = x % 128 + 128 := toUInt8_toNat (by omega)
        simp only [List.take_succ_cons, vd, hb]
        rw [if_neg (by omega), if_pos (by omega)]
        exact ih (i + 1) _ (x / 128) c (by omega) (by rw [Nat.pow_succ] at hx; omega) (by simpa using hc)

theorem varintD_cut {x : Nat} (h : x < 18446744073709551616) {c : Nat} (hc : c < (uvarint x).length) : varintD ((uvarint x).take c) = .inl 1 :=
  vd_cut 9 0 0 x c (by omega) (by simpa using h) hc

/-- The number of l's bytes, the low one first. -/
def lowN : List UInt8 → Nat
  | [] => 0
  | b :: r => b.toNat + 256 * lowN r

theorem lowN_lt : ∀ l : List UInt8, lowN l < 256 ^ l.length
  | [] => by simp [lowN]
  | b :: r => by
    have h1 := lowN_lt r
    have h2 := b.toNat_lt
    simp only [lowN, List.length_cons, Nat.pow_succ]
    omega

theorem lowN_lowB : ∀ n x, lowN (lowB n x) = x % 256 ^ n
  | 0, x => by simp [lowB, lowN, Nat.mod_one]
  | n + 1, x => by
    rw [lowB, lowN, lowN_lowB n, toUInt8_toNat (by omega), Nat.pow_succ, Nat.mul_comm (256 ^ n), Nat.mod_mul]

theorem lowB_lowN : ∀ l : List UInt8, lowB l.length (lowN l) = l
  | [] => rfl
  | b :: r => by
    have h2 := b.toNat_lt
    rw [List.length_cons, lowB, lowN]
    rw [show (b.toNat + 256 * lowN r) % 256 = b.toNat by omega, show (b.toNat + 256 * lowN r) / 256 = lowN r by omega, lowB_lowN r]
    simp

end Go.Proofs.YtffjleceogablaaDoor
