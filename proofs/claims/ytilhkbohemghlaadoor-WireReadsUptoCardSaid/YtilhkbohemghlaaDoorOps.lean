/-
  One value, whatever its kind: written, read, cut short.
-/
import Derived.Test.YtilhkbohemghlaaDoorWrite
import Derived.Test.YtilhkbohemghlaaDoorShorts
namespace Go.Proofs.YtilhkbohemghlaaDoor
open Go.RowKit
set_option maxRecDepth 100000

/-- What is small in an Op: what the walks need. -/
structure OpD.Small (o : OpD) : Prop where
  s : o.s.size ≤ 16777216
  n : o.ss.length ≤ 16777216
  each : ∀ x ∈ o.ss, x.length ≤ 16777216
  sum : (eachB o.ss).length ≤ 1073741824

theorem longest_le {l : List (List UInt8)} {M : Nat} (h : ∀ x ∈ l, x.length ≤ M) : longestN l ≤ M := by
  induction l with
  | nil => simp [longestN]
  | cons x r ih => have := ih (fun s hs => h s (by simp [hs])); have := h x (by simp); simp only [longestN]; omega

theorem textB_le (s : List UInt8) (h : s.length < 18446744073709551616) : (textB s).length ≤ s.length + 10 := by
  have := Lib.uvarint_length64 h
  unfold textB; rw [List.length_append]; omega
theorem textsB_le (ss : List (List UInt8)) (h : ss.length < 18446744073709551616) : (textsB ss).length ≤ (eachB ss).length + 10 := by
  have := Lib.uvarint_length64 h
  unfold textsB; rw [List.length_append]; omega

/-- Every kind of value. -/
theorem OpD.enc_cases {o : OpD} {y : List UInt8} (h : o.enc = some y) :
    (o.kind = 1 ∧ y = Lib.uvarint o.u) ∨ (o.kind = 8 ∧ y = Lib.uvarint o.u) ∨ (o.kind = 2 ∧ y = Lib.uvarint (Lib.zigzag o.i)) ∨ (o.kind = 3 ∧ y = lowB 8 o.u) ∨
    (o.kind = 4 ∧ y = [(o.u % 256).toUInt8]) ∨ (o.kind = 5 ∧ y = floatB (o.u % 4294967296)) ∨ (o.kind = 6 ∧ y = textB o.s.data.toList) ∨ (o.kind = 7 ∧ y = textsB o.ss) := by
  unfold OpD.enc at h
  repeat' (split at h)
  all_goals first | (injection h with h; subst h; simp [*]) | cases h

theorem OpD.enc_none {o : OpD} (h : o.enc = none) : o.kind ≠ 1 ∧ o.kind ≠ 2 ∧ o.kind ≠ 3 ∧ o.kind ≠ 4 ∧ o.kind ≠ 5 ∧ o.kind ≠ 6 ∧ o.kind ≠ 7 ∧ o.kind ≠ 8 := by
  unfold OpD.enc at h
  repeat' (split at h)
  all_goals first | (cases h; done) | (refine ⟨?_, ?_, ?_, ?_, ?_, ?_, ?_, ?_⟩ <;> assumption)

theorem OpD.enc_len {o : OpD} {y : List UInt8} (h : o.enc = some y) (ho : o.Ok) (hs : o.Small) : 0 < y.length ∧ y.length ≤ 1073741834 := by
  have hu := Lib.uvarint_length64 ho.u
  have hz := Lib.uvarint_length64 (Lib.zigzag_lt ho.i0 ho.i1)
  have p1 := Lib.uvarint_pos o.u
  have p2 := Lib.uvarint_pos (Lib.zigzag o.i)
  have q1 := hs.s
  have q2 := hs.sum
  have q3 := hs.n
  rcases o.enc_cases h with ⟨_, rfl⟩ | ⟨_, rfl⟩ | ⟨_, rfl⟩ | ⟨_, rfl⟩ | ⟨_, rfl⟩ | ⟨_, rfl⟩ | ⟨_, rfl⟩ | ⟨_, rfl⟩
  · omega
  · omega
  · omega
  · rw [lowB_length]; omega
  · simp
  · rw [floatB, lowB_length]; omega
  · have h1 := textB_le o.s.data.toList (by simp; omega)
    have h2 := Lib.uvarint_pos o.s.data.toList.length
    have h3 : o.s.data.toList.length = o.s.size := by simp
    have h4 : (textB o.s.data.toList).length = (Lib.uvarint o.s.data.toList.length).length + o.s.data.toList.length := by unfold textB; rw [List.length_append]
    omega
  · have h1 := textsB_le o.ss (by omega)
    have h2 := Lib.uvarint_pos o.ss.length
    have h4 : (textsB o.ss).length = (Lib.uvarint o.ss.length).length + (eachB o.ss).length := by unfold textsB; rw [List.length_append]
    omega

theorem write_any (b : Nat) (r : Option Nat) (l : List UInt8) (o : OpD) (w : World) (y : List UInt8) (h : Wr b r l w) (ho : o.Ok) (hsm : o.Small) (hy : o.enc = some y) (g g0 : Nat) (hs : Strs w o.v g g0 o.ss) (hd : o.ss ≠ [] → g ≠ b ∧ some g ≠ r) (hlen : l.length ≤ 70368744177664) :
    Calls Tryd.prog 21 #[.pointer (some ⟨b, 0, none⟩), o.val] w fun e w' => e = .returned (.bool true) ∧ Wrote b r (l ++ y) w w' := by
  have q1 := hsm.s
  have q2 := hsm.sum
  rcases o.enc_cases hy with ⟨he, rfl⟩ | ⟨he, rfl⟩ | ⟨he, rfl⟩ | ⟨he, rfl⟩ | ⟨he, rfl⟩ | ⟨he, rfl⟩ | ⟨he, rfl⟩ | ⟨he, rfl⟩
  · exact write_1 1 (.inl rfl) b r l o w h ho he (by omega)
  · exact write_1 8 (.inr rfl) b r l o w h ho he (by omega)
  · exact write_2 b r l o w h ho he (by omega)
  · exact write_3 b r l o w h ho he (by omega)
  · exact write_4 b r l o w h ho he (by omega)
  · exact write_5 b r l o w h ho he (by omega)
  · exact write_6 b r l o w h ho he (by omega)
  · exact write_7 b r l o w h ho he g g0 hs hd (by omega)

theorem reads_any (ad : Nat → Addr) (b : Nat) (s : ByteArray) (p : Nat) (o : OpD) (w : World) (y t : List UInt8) (h : Rd b s p w) (hE : Errs ad w) (hO : OffErrs ad (fun k => k = b)) (ho : o.Ok) (hsm : o.Small) (hy : o.enc = some y) (hr : rest s p = y ++ t)
    (hs40 : s.size ≤ 1099511627776) (g g0 : Nat) (hs : Strs w o.v g g0 o.ss) (hg : o.ss ≠ [] → g ≠ b) :
    Calls Tryd.prog 22 #[.pointer (some ⟨b, 0, none⟩), o.val] w fun e w' => e = .returned (.bool true) ∧ Moved b s (p + y.length) w w' := by
  have q1 := hsm.s
  have q3 := hsm.n
  have hl : p + y.length ≤ s.size := by
    have h1 := rest_length s p
    rw [hr, List.length_append] at h1
    have := h.le
    omega
  rcases o.enc_cases hy with ⟨he, rfl⟩ | ⟨he, rfl⟩ | ⟨he, rfl⟩ | ⟨he, rfl⟩ | ⟨he, rfl⟩ | ⟨he, rfl⟩ | ⟨he, rfl⟩ | ⟨he, rfl⟩
  · exact reads_1 ad b s p o w h hE ho he _ (by rw [hr]; exact varintD_uvarint ho.u t)
  · by_cases hm : o.u ≤ 9223372036854775807
    · exact reads_8 ad b s p o w h hE ho he hm _ (by rw [hr]; exact varintD_uvarint ho.u t)
    · exact reads_8b ad b s p o w h hE hO ho he (by omega) _ (by rw [hr]; exact varintD_uvarint ho.u t)
  · exact reads_2 ad b s p o w h hE ho he _ (by rw [hr]; exact varintD_uvarint (Lib.zigzag_lt ho.i0 ho.i1) t)
  · rw [lowB_length] at *
    refine reads_3 ad b s p o w h hE ho he hl ?_
    rw [hr, List.take_left' (lowB_length 8 _), lowN_lowB]
    exact Nat.mod_eq_of_lt ho.u
  · refine reads_4 ad b s p o w h hE ho he hl ?_
    rw [hr]
    simp [lowN]
  · rw [floatB, lowB_length] at *
    refine reads_5 b s p o w h ho he hl ?_
    rw [hr, List.take_left' (lowB_length 4 _), lowN_lowB]
    exact Nat.mod_eq_of_lt (canon_lt (by omega))
  · refine reads_6 ad b s p o w h hE ho he _ (by omega) ?_
    rw [hr]
    exact textD_enc (by simp; omega) (by simp)
  · refine reads_7 ad b s p o w h hE hO ho he hs40 g g0 hs hg (fun x hx => by have := hsm.each x hx; omega) _ ?_ (by have := longest_le hsm.each; omega)
    rw [hr]
    exact textsD_enc (by omega) (by omega) (fun x hx => ⟨by have := hsm.each x hx; omega, by have := longestN_ge hx; omega⟩)

theorem shorts_any (ad : Nat → Addr) (b : Nat) (s : ByteArray) (p : Nat) (o : OpD) (w : World) (y : List UInt8) (c : Nat) (h : Rd b s p w) (hE : Errs ad w) (hO : OffErrs ad (fun k => k = b)) (ho : o.Ok) (hsm : o.Small) (hy : o.enc = some y) (hc : c < y.length) (hr : rest s p = y.take c)
    (hs40 : s.size ≤ 1099511627776) (g g0 : Nat) (hs : Strs w o.v g g0 o.ss) :
    Calls Tryd.prog 24 #[.pointer (some ⟨b, 0, none⟩), o.val] w fun e w' => e = .returned (.bool true) ∧ Moved b s p w w' := by
  have q1 := hsm.s
  have q3 := hsm.n
  have hl : s.size - p = c := by
    have h1 := rest_length s p
    rw [hr, List.length_take] at h1
    omega
  rcases o.enc_cases hy with ⟨he, rfl⟩ | ⟨he, rfl⟩ | ⟨he, rfl⟩ | ⟨he, rfl⟩ | ⟨he, rfl⟩ | ⟨he, rfl⟩ | ⟨he, rfl⟩ | ⟨he, rfl⟩
  · exact shorts_1 ad b s p o w h hE hO he (by rw [hr]; exact varintD_cut ho.u hc)
  · exact shorts_8 ad b s p o w h hE hO he (by rw [hr]; exact varintD_cut ho.u hc)
  · exact shorts_2 ad b s p o w h hE hO he (by rw [hr]; exact varintD_cut (Lib.zigzag_lt ho.i0 ho.i1) hc)
  · rw [lowB_length] at hc; exact shorts_3 ad b s p o w h hE hO he (by omega)
  · simp at hc; exact shorts_4 ad b s p o w h hE hO he (by omega)
  · rw [floatB, lowB_length] at hc; exact shorts_5 ad b s p o w h hE hO he (by omega)
  · refine shorts_6 ad b s p o w h hE hO he (by omega) ?_
    rw [hr]
    exact textD_cut (by simp; omega) (by simp) hc
  · refine shorts_7 ad b s p o w h hE hO he hs40 g g0 hs (fun x hx => by have := hsm.each x hx; omega) ?_ (by have := longest_le hsm.each; omega)
    rw [hr]
    exact textsD_cut (by omega) (by omega) (fun x hx => ⟨by have := hsm.each x hx; omega, by have := longestN_ge hx; omega⟩) hc
end Go.Proofs.YtilhkbohemghlaaDoor
