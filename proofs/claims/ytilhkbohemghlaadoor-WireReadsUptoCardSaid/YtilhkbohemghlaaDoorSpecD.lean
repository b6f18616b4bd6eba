/-
  Plain facts: what was written is read, cut anywhere it is too short: texts and lists of texts.
-/
import Derived.Test.YtilhkbohemghlaaDoorReaders5
namespace Go.Proofs.YtilhkbohemghlaaDoor
open Go.RowKit

theorem take_app {α : Type} (l m : List α) (c : Nat) : (l ++ m).take c = if c < l.length then l.take c else l ++ m.take (c - l.length) := by
  split
  · rename_i h; rw [List.take_append_of_le_length (by omega)]
  · rename_i h; rw [List.take_append, List.take_of_length_le (by omega)]

theorem textD_enc {most : Int} {s t : List UInt8} (h64 : s.length < 18446744073709551616) (hm : (s.length : Int) ≤ most) : textD most (textB s ++ t) = .inr (s, (textB s).length) := by
  unfold textD textB
  rw [List.append_assoc, varintD_uvarint h64]
  simp only
  rw [if_neg (by omega), if_neg (by simp)]
  simp

theorem textD_cut {most : Int} {s : List UInt8} {c : Nat} (h64 : s.length < 18446744073709551616) (hm : (s.length : Int) ≤ most) (hc : c < (textB s).length) : textD most ((textB s).take c) = .inl 1 := by
  unfold textB at hc ⊢
  rw [List.length_append] at hc
  rw [take_app]
  by_cases h : c < (Lib.uvarint s.length).length
  · rw [if_pos h]; unfold textD; rw [varintD_cut h64 h]
  · rw [if_neg h]
    unfold textD
    rw [varintD_uvarint h64]
    simp only
    rw [if_neg (by omega), if_pos (by simp; omega)]

theorem eachD_enc {most : Int} {t : List UInt8} : ∀ {ss : List (List UInt8)}, (∀ s ∈ ss, s.length < 18446744073709551616 ∧ (s.length : Int) ≤ most) → eachD most ss.length (eachB ss ++ t) = .inr (ss, (eachB ss).length)
  | [], _ => rfl
  | s :: r, h => by
    have h1 := h s (by simp)
    have ih := eachD_enc (t := t) (ss := r) (fun x hx => h x (by simp [hx]))
    rw [List.length_cons, eachD, eachB, List.append_assoc, textD_enc h1.1 h1.2]
    simp only [List.drop_left, ih, List.length_append]

theorem eachD_cut {most : Int} : ∀ {ss : List (List UInt8)} {c : Nat}, (∀ s ∈ ss, s.length < 18446744073709551616 ∧ (s.length : Int) ≤ most) → c < (eachB ss).length → eachD most ss.length ((eachB ss).take c) = .inl 1
  | [], c, _, hc => by simp [eachB] at hc
  | s :: r, c, h, hc => by
    have h1 := h s (by simp)
    rw [eachB, List.length_append] at hc
    rw [List.length_cons, eachD, eachB, take_app]
    by_cases hlt : c < (textB s).length
    · rw [if_pos hlt, textD_cut h1.1 h1.2 hlt]
    · rw [if_neg hlt, textD_enc h1.1 h1.2]
      simp only [List.drop_left]
      rw [eachD_cut (fun x hx => h x (by simp [hx])) (by omega)]

theorem textsD_enc {count most : Int} {ss : List (List UInt8)} {t : List UInt8} (h64 : ss.length < 18446744073709551616) (hc : (ss.length : Int) ≤ count) (h : ∀ s ∈ ss, s.length < 18446744073709551616 ∧ (s.length : Int) ≤ most) : textsD count most (textsB ss ++ t) = .inr (ss, (textsB ss).length) := by
  unfold textsD textsB
  rw [List.append_assoc, varintD_uvarint h64]
  simp only
  rw [if_neg (by omega), List.drop_left, eachD_enc h]
  simp

theorem textsD_cut {count most : Int} {ss : List (List UInt8)} {c : Nat} (h64 : ss.length < 18446744073709551616) (hc : (ss.length : Int) ≤ count) (h : ∀ s ∈ ss, s.length < 18446744073709551616 ∧ (s.length : Int) ≤ most) (hl : c < (textsB ss).length) : textsD count most ((textsB ss).take c) = .inl 1 := by
  unfold textsB at hl ⊢
  rw [List.length_append] at hl
  rw [take_app]
  by_cases h1 : c < (Lib.uvarint ss.length).length
  · rw [if_pos h1]; unfold textsD; rw [varintD_cut h64 h1]
  · rw [if_neg h1]
    unfold textsD
    rw [varintD_uvarint h64]
    simp only
    rw [if_neg (by omega), List.drop_left, eachD_cut h (by omega)]

/-- AN Op. -/
structure OpD where
  kind : Int
  second : Bool
  u : Nat
  i : Int
  n : Int
  m : Int
  s : ByteArray
  v : Value
  ss : List (List UInt8)

/-- .. as a value. -/
def OpD.val (o : OpD) : Value := .agg #[.int .i64 o.kind, .bool o.second, .int .u64 o.u, .int .i64 o.i, .int .i64 o.n, .int .i64 o.m, .string o.s, o.v]

structure OpD.Ok (o : OpD) : Prop where
  u : o.u < 18446744073709551616
  i0 : -9223372036854775808 ≤ o.i
  i1 : o.i ≤ 9223372036854775807
  n1 : o.n ≤ 9223372036854775807
  m1 : o.m ≤ 9223372036854775807

/-- What it is written as (none: it has no value). -/
def OpD.enc (o : OpD) : Option (List UInt8) :=
  if o.kind = 1 then some (Lib.uvarint o.u) else if o.kind = 8 then some (Lib.uvarint o.u) else
  if o.kind = 2 then some (Lib.uvarint (Lib.zigzag o.i)) else if o.kind = 3 then some (lowB 8 o.u) else
  if o.kind = 4 then some [(o.u % 256).toUInt8] else if o.kind = 5 then some (floatB (o.u % 4294967296)) else
  if o.kind = 6 then some (textB o.s.data.toList) else if o.kind = 7 then some (textsB o.ss) else none

end Go.Proofs.YtilhkbohemghlaaDoor
