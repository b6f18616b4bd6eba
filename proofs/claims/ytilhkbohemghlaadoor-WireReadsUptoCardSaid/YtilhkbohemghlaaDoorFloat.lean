/-
  Plain facts on float32: turned to float64, what is no NaN equals itself; a NaN doesn't.
-/
import Derived.Laws.FloatArith
import Derived.Laws.NewFold
import Derived.Test.YtilhkbohemghlaaDoorSpec
namespace Go.Proofs.YtilhkbohemghlaaDoor
open Ieee

theorem order_self (d : Datum) (h : d.isNaN = false) : d.order d = some Ordering.eq := by
  cases d with
  | number s m e => simp [Datum.order]
  | infinity s => simp [Datum.order]
  | nan s f => simp [Datum.isNaN] at h

theorem order_nan (d : Datum) (h : d.isNaN = true) : d.order d = none := by
  cases d with
  | number s m e => simp [Datum.isNaN] at h
  | infinity s => simp [Datum.isNaN] at h
  | nan s f => simp [Datum.order]

theorem single_nan (x : Nat) (hx : x < 4294967296) : (single.read x).isNaN = isNaNB x := by
  unfold Format.read isNaNB
  have e1 : single.signWeight = 2147483648 := by decide
  have e2 : single.binade = 8388608 := by decide
  have e3 : single.infRung = 2139095040 := by decide
  simp only [e1, e2, e3]
  split
  · simp only [Datum.isNaN]; symm; rw [decide_eq_false_iff_not]; omega
  · split
    · simp only [Datum.isNaN]; symm; rw [decide_eq_false_iff_not]; omega
    · split
      · simp only [Datum.isNaN]; symm; rw [decide_eq_false_iff_not]; omega
      · simp only [Datum.isNaN]; symm; rw [decide_eq_true_eq]; omega

theorem single_number {x : Nat} {s : Bool} {m : Nat} {e : Int} (h : single.read x = .number s m e) : m < 16777216 ∧ -149 ≤ e ∧ e ≤ 104 := by
  have e1 : single.signWeight = 2147483648 := by decide
  have e2 : single.binade = 8388608 := by decide
  have e3 : single.infRung = 2139095040 := by decide
  have e4 : single.leastPlace = -149 := by decide
  unfold Format.read at h
  simp only [e1, e2, e3, e4] at h
  split at h
  · injection h with _ h2 h3; omega
  · split at h
    · injection h with _ h2 h3; omega
    · split at h <;> cases h

theorem double_word (s : Bool) (rung : Nat) (h : rung < 9218868437227405312) : (double.read (double.word s rung)).isNaN = false ∧ (double.read (double.word s rung)).isInfinity = false := by
  have e1 : double.signWeight = 9223372036854775808 := by decide
  have e2 : double.binade = 4503599627370496 := by decide
  have e3 : double.infRung = 9218868437227405312 := by decide
  have e5 : double.word s rung % 9223372036854775808 = rung := by
    unfold Format.word
    rw [e1]
    split <;> omega
  unfold Format.read
  simp only [e1, e2, e3, e5]
  split
  · exact ⟨rfl, rfl⟩
  · exact ⟨rfl, rfl⟩

theorem log2_le {m : Nat} (h0 : m ≠ 0) (h : m < 16777216) : m.log2 ≤ 23 := by
  rw [← Nat.lt_succ_iff, Nat.succ_eq_add_one, Nat.log2_lt h0]; exact h

theorem rung_le (a k c : Nat) (ha : a ≤ 1149) (hk : k < 9007199254740992) : min (a * 4503599627370496 + k) c < 9218868437227405312 := by
  have h1 : a * 4503599627370496 ≤ 1149 * 4503599627370496 := Nat.mul_le_mul_right _ ha
  have h2 : min (a * 4503599627370496 + k) c ≤ a * 4503599627370496 + k := Nat.min_le_left _ _
  omega

theorem double_write (s : Bool) (m : Nat) (e : Int) (hm : m < 16777216) (h0 : -149 ≤ e) (h1 : e ≤ 104) : ∃ rung, rung < 9218868437227405312 ∧ double.write (.number s m e) = double.word s rung := by
  have e1 : double.fractionBits = 52 := rfl
  have e4 : double.leastPlace = -1074 := by decide
  have e2 : double.binade = 4503599627370496 := by decide
  have e3 : double.infRung = 9218868437227405312 := by decide
  unfold Format.write Format.nearest
  simp only
  by_cases hz : m = 0
  · rw [if_pos hz]; exact ⟨0, by decide, rfl⟩
  · rw [if_neg hz]
    have hl := log2_le hz hm
    refine ⟨_, ?_, rfl⟩
    simp only [e1, e2, e3, e4]
    have hlast : max (e + (m.log2 : Int) - ((52 : Nat) : Int)) (-1074) = e + (m.log2 : Int) - 52 := by omega
    rw [hlast]
    have hd : (e + (m.log2 : Int) - 52 - e).toNat = 0 := by omega
    have hu : (e - (e + (m.log2 : Int) - 52)).toNat = 52 - m.log2 := by omega
    rw [hd, hu]
    have hcut : Toward.even.cut s (m <<< (52 - m.log2)) 0 = m <<< (52 - m.log2) := by
      unfold Toward.cut
      simp [Nat.mod_one]
    rw [hcut, Nat.shiftLeft_eq]
    have hk : m * 2 ^ (52 - m.log2) < 9007199254740992 := by
      have h2 : m < 2 ^ (m.log2 + 1) := Nat.lt_log2_self
      have h3 : m * 2 ^ (52 - m.log2) < 2 ^ (m.log2 + 1) * 2 ^ (52 - m.log2) := Nat.mul_lt_mul_of_pos_right h2 (Nat.pow_pos (by omega))
      rw [← Nat.pow_add, show m.log2 + 1 + (52 - m.log2) = 53 by omega] at h3
      exact h3
    exact rung_le _ _ _ (by omega) hk

/-- WIDENED: what is no NaN is a float64 that equals itself. -/
theorem widen (x : Nat) (hx : x < 4294967296) (hn : isNaNB x = false) : ∃ r, floatToFloatBits .f32 x .f64 = some r ∧ Ieee.double.order r r = some Ordering.eq := by
  have hs := single_nan x hx
  rw [hn] at hs
  unfold floatToFloatBits
  rw [if_neg (by decide)]
  show ∃ r, (match single.read x with
    | .nan _ _ => none
    | .infinity s => some (double.write (.infinity s))
    | .number s m e => if (double.read (double.write (.number s m e))).isInfinity then none else some (double.write (.number s m e))) = some r ∧ _
  cases hd : single.read x with
  | nan s f => rw [hd] at hs; simp [Datum.isNaN] at hs
  | infinity s =>
    refine ⟨_, rfl, ?_⟩
    cases s <;> decide
  | number s m e =>
    obtain ⟨hm, h0, h1⟩ := single_number hd
    obtain ⟨rung, hr, hw⟩ := double_write s m e hm h0 h1
    have hq := double_word s rung hr
    simp only [hw, hq.2]
    exact ⟨_, rfl, order_self _ hq.1⟩

/-- WIDENED: a NaN is some float64 that doesn't equal itself; one draw. -/
theorem widen_nan (P : Program) (src dst : TypeId) (hsrc : (P.underlying src).isSome = true) (hdst : P.underlying dst = some (.float .f64)) (x : Nat) (hx : x < 4294967296) (hn : isNaNB x = true) (w : World) :
    ∃ y, (convert src dst (.float .f32 x)).run P w = .ok (.float .f64 y) w.drew ∧ Ieee.double.order y y = none := by
  have hs := single_nan x hx
  rw [hn] at hs
  obtain ⟨u, hu⟩ := Option.isSome_iff_exists.1 hsrc
  cases hd : single.read x with
  | number s m e => rw [hd] at hs; simp [Datum.isNaN] at hs
  | infinity s => rw [hd] at hs; simp [Datum.isNaN] at hs
  | nan s f =>
    have hd' : FloatKind.f32.decode x = .nan s f := hd
    refine ⟨(Question.nanConv .f64 x).cut (w.tape w.drawn (.nanConv .f64 x)), ?_, ?_⟩
    · cases u <;> simp [convert, run_underlying hu, run_underlying hdst, Conv.floatToFloat, hd', Question.forced]
    · refine order_nan _ ?_
      generalize w.tape w.drawn (.nanConv .f64 x) = t
      have e1 : double.signWeight = 9223372036854775808 := by decide
      have e2 : double.binade = 4503599627370496 := by decide
      have e3 : double.infRung = 9218868437227405312 := by decide
      have hq : (Question.nanConv FloatKind.f64 x).cut t = t % 2 * 9223372036854775808 + 9218868437227405312 + 1 + t / 2 % 4503599627370495 := rfl
      have e5 : (t % 2 * 9223372036854775808 + 9218868437227405312 + 1 + t / 2 % 4503599627370495) % 9223372036854775808 = 9218868437227405312 + 1 + t / 2 % 4503599627370495 := by
        have := Nat.mod_lt (t / 2) (show 0 < 4503599627370495 by omega)
        omega
      rw [hq]
      unfold Format.read
      simp only [e1, e2, e3, e5]
      rw [if_neg (by omega), if_neg (by omega), if_neg (by omega)]
      rfl
end Go.Proofs.YtilhkbohemghlaaDoor
