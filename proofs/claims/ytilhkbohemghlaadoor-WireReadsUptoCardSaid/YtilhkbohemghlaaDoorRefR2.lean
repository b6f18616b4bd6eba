/-
  The contracts of remitref01's reading functions, on: GetUpto, GetInt, GetLow, GetFloat, GetText.
-/
import Derived.Test.YtilhkbohemghlaaDoorRefR
import Derived.Test.YtilhkbohemghlaaDoorRefW2
namespace Go.Proofs.YtilhkbohemghlaaDoor
open Go.RowKit
set_option maxRecDepth 100000

theorem refGetUint_err (s : ByteArray) (p e : Nat) (w : World) (hp : p ≤ s.size) (hs : s.size ≤ 140737488355328) (hd : varintD (rest s p) = .inl e) :
    Calls Tryd.prog 47 #[.string s, .int .i64 p] w fun x w' => x = .returned (.tuple #[.int .u64 0, .int .i64 p, .int .i64 e]) ∧ w = w' := by
  have q := refGetUint_any s p w hp hs
  rw [hd] at q
  exact q
theorem refGetUint_ok (s : ByteArray) (p x n : Nat) (w : World) (hp : p ≤ s.size) (hs : s.size ≤ 140737488355328) (hd : varintD (rest s p) = .inr (x, n)) :
    Calls Tryd.prog 47 #[.string s, .int .i64 p] w fun y w' => y = .returned (.tuple #[.int .u64 x, .int .i64 ((p + n : Nat) : Int), .int .i64 0]) ∧ w = w' := by
  have q := refGetUint_any s p w hp hs
  rw [hd] at q
  exact q

theorem refGetUpto_err (s : ByteArray) (p e : Nat) (most : Int) (w : World) (hp : p ≤ s.size) (hs : s.size ≤ 140737488355328) (hd : varintD (rest s p) = .inl e) :
    Calls Tryd.prog 49 #[.string s, .int .i64 p, .int .i64 most] w fun x w' => x = .returned (.tuple #[.int .i64 0, .int .i64 p, .int .i64 e]) ∧ w = w' := by
  have q := Lib.hid (refGetUint_err s p e w hp hs hd)
  have he := vd_err _ _ _ _ hd
  clear hd
  rcases he with rfl | rfl
  all_goals
    go_enter Tryd.func49, Tryd.ntmps49
    go_wp2_with fail
    refine q.out.mono ?_
    rintro y w1 ⟨rfl, rfl⟩
    go_wp2
    go_ret3
    exact ⟨rfl, rfl⟩

theorem refGetUpto_limit (s : ByteArray) (p x n : Nat) (most : Int) (w : World) (hp : p ≤ s.size) (hs : s.size ≤ 140737488355328) (hd : varintD (rest s p) = .inr (x, n)) (hm : most < x) (hm1 : most ≤ 9223372036854775807) :
    Calls Tryd.prog 49 #[.string s, .int .i64 p, .int .i64 most] w fun x w' => x = .returned (.tuple #[.int .i64 0, .int .i64 p, .int .i64 3]) ∧ w = w' := by
  have q := Lib.hid (refGetUint_ok s p x n w hp hs hd)
  obtain ⟨hx, hpn, hn⟩ := varintD_len hp hd
  clear hd
  generalize p + n = pn at *
  by_cases h0 : most < 0
  all_goals
    go_enter Tryd.func49, Tryd.ntmps49
    go_wp2_with fail
    refine q.out.mono ?_
    rintro y w1 ⟨rfl, rfl⟩
    go_wp2
    go_ret3
    exact ⟨rfl, rfl⟩

theorem refGetUpto_ok (s : ByteArray) (p x n : Nat) (most : Int) (w : World) (hp : p ≤ s.size) (hs : s.size ≤ 140737488355328) (hd : varintD (rest s p) = .inr (x, n)) (hm : (x : Int) ≤ most) (hm1 : most ≤ 9223372036854775807) :
    Calls Tryd.prog 49 #[.string s, .int .i64 p, .int .i64 most] w fun y w' => y = .returned (.tuple #[.int .i64 x, .int .i64 ((p + n : Nat) : Int), .int .i64 0]) ∧ w = w' := by
  have q := Lib.hid (refGetUint_ok s p x n w hp hs hd)
  obtain ⟨hx, hpn, hn⟩ := varintD_len hp hd
  clear hd
  generalize p + n = pn at *
  have h0 : ¬ most < 0 := by omega
  go_enter Tryd.func49, Tryd.ntmps49
  go_wp2_with fail
  refine q.out.mono ?_
  rintro y w1 ⟨rfl, rfl⟩
  go_wp2
  go_ret3
  exact ⟨rfl, rfl⟩

theorem refGetInt_err (s : ByteArray) (p e : Nat) (w : World) (hp : p ≤ s.size) (hs : s.size ≤ 140737488355328) (hd : varintD (rest s p) = .inl e) :
    Calls Tryd.prog 51 #[.string s, .int .i64 p] w fun x w' => x = .returned (.tuple #[.int .i64 0, .int .i64 p, .int .i64 e]) ∧ w = w' := by
  have q := Lib.hid (refGetUint_err s p e w hp hs hd)
  have he := vd_err _ _ _ _ hd
  clear hd
  rcases he with rfl | rfl
  all_goals
    go_enter Tryd.func51, Tryd.ntmps51
    go_wp2_with fail
    refine q.out.mono ?_
    rintro y w1 ⟨rfl, rfl⟩
    go_wp2
    go_ret3
    exact ⟨rfl, rfl⟩

theorem refGetInt_ok (s : ByteArray) (p x n : Nat) (w : World) (hp : p ≤ s.size) (hs : s.size ≤ 140737488355328) (hd : varintD (rest s p) = .inr (x, n)) :
    Calls Tryd.prog 51 #[.string s, .int .i64 p] w fun y w' => y = .returned (.tuple #[.int .i64 (Lib.unzigzag x), .int .i64 ((p + n : Nat) : Int), .int .i64 0]) ∧ w = w' := by
  have q := Lib.hid (refGetUint_ok s p x n w hp hs hd)
  obtain ⟨hx, hpn, hn⟩ := varintD_len hp hd
  clear hd
  generalize p + n = pn at *
  by_cases h2 : x % 2 = 1
  · have t1 : ((x : Int) % 2 == 1) = true := by simp; omega
    have fin : Lib.unzigzag x = -((x : Int) / 2) - 1 := by unfold Lib.unzigzag; rw [if_neg (by omega)]; omega
    have Fin := Lib.hid fin
    clear fin h2
    go_enter Tryd.func51, Tryd.ntmps51
    go_wp2_with fail
    refine q.out.mono ?_
    rintro y w1 ⟨rfl, rfl⟩
    go_wp2
    go_ret3
    exact ⟨by rw [Fin.out]; rfl, rfl⟩
  · have t1 : ((x : Int) % 2 == 1) = false := by simp; omega
    have fin : Lib.unzigzag x = (x : Int) / 2 := by unfold Lib.unzigzag; rw [if_pos (by omega)]; omega
    have Fin := Lib.hid fin
    clear fin h2
    go_enter Tryd.func51, Tryd.ntmps51
    go_wp2_with fail
    refine q.out.mono ?_
    rintro y w1 ⟨rfl, rfl⟩
    go_wp2
    go_ret3
    exact ⟨by rw [Fin.out]; rfl, rfl⟩

theorem refGetLow_short (s : ByteArray) (p n : Nat) (w : World) (hp : p ≤ s.size) (hs : s.size ≤ 140737488355328) (hn : s.size - p < n) (hn8 : n ≤ 8) :
    Calls Tryd.prog 53 #[.string s, .int .i64 p, .int .i64 n] w fun y w' => y = .returned (.tuple #[.int .u64 0, .int .i64 p, .int .i64 1]) ∧ w = w' := by
  have h1 : (s.size : Int) - (p : Int) < (n : Int) := by omega
  go_enter Tryd.func53, Tryd.ntmps53
  go_wp2
  go_ret3
  exact ⟨rfl, rfl⟩

def LowRAt (s : ByteArray) (p n : Nat) (v i : Value) : Prop := ∃ m : Nat, m ≤ n ∧ i = .int .i64 ((m : Int) - 1) ∧ v = .int .u64 ((lowN (((rest s p).take n).drop m) : Nat) : Int)

theorem lowN_at {s : ByteArray} {p n m : Nat} (h : p + m < s.size) (hm : m < n) : lowN (((rest s p).take n).drop m) = s[p + m].toNat + 256 * lowN (((rest s p).take n).drop (m + 1)) := by
  have hl : m < ((rest s p).take n).length := by rw [List.length_take, rest_length]; omega
  rw [List.drop_eq_getElem_cons hl, lowN]
  congr 2
  rw [List.getElem_take]
  unfold rest
  rw [List.getElem_drop]
  rfl

set_option maxHeartbeats 800000 in
theorem refGetLow_ok (s : ByteArray) (p n : Nat) (w : World) (hs : s.size ≤ 140737488355328) (hn : p + n ≤ s.size) (hn8 : n ≤ 8) :
    Calls Tryd.prog 53 #[.string s, .int .i64 p, .int .i64 n] w fun y w' => y = .returned (.tuple #[.int .u64 ((lowN ((rest s p).take n) : Nat) : Int), .int .i64 ((p + n : Nat) : Int), .int .i64 0]) ∧ w = w' := by
  have h1 : ¬ (s.size : Int) - (p : Int) < (n : Int) := by omega
  go_enter Tryd.func53, Tryd.ntmps53
  go_wp2
  go_loop [9, 10] (fun v i => LowRAt s p n v i) (fun _ i => (intOf i + 1).toNat)
  case atStart => exact ⟨n, Nat.le_refl _, rfl, by rw [List.drop_eq_nil_of_le (by rw [List.length_take]; omega)]; rfl⟩
  case round =>
    obtain ⟨m, hm, rfl, rfl⟩ := hrel
    cases m with
    | zero =>
      rw [List.drop_zero]
      go_wp2
      go_ret3
      exact ⟨rfl, rfl⟩
    | succ m =>
      have hlt : p + m < s.size := by omega
      obtain ⟨x, hx⟩ : ∃ x, lowN (((rest s p).take n).drop (m + 1)) = x := ⟨_, rfl⟩
      have hx1 : x < 72057594037927936 := by
        have h1 := lowN_lt (((rest s p).take n).drop (m + 1))
        have h2 : 256 ^ (((rest s p).take n).drop (m + 1)).length ≤ 256 ^ 7 := Nat.pow_le_pow_right (by omega) (by rw [List.length_drop, List.length_take]; omega)
        rw [hx] at h1
        omega
      rw [hx]
      have hc := s[p + m].toNat_lt
      have fin : LowRAt s p n (.int .u64 ((x : Int) * 256 + (s[p + m].toNat : Int))) (.int .i64 ((m : Int) - 1)) :=
        ⟨m, by omega, rfl, by rw [lowN_at hlt (by omega), hx]; congr 1; omega⟩
      have fin' := Lib.hid fin; clear fin hx
      have hlt' : (p : Int) + (m : Int) < (s.size : Int) := by omega
      have hxx : ((p : Int) + (m : Int)).toNat = p + m := by omega
      rw [show (((m + 1 : Nat) : Int) - 1) = (m : Int) by omega]
      go_wp2
      go_round
      case rel => exact fin'.out
      case measure => simp [intOf]

theorem refGetFloat_short (s : ByteArray) (p : Nat) (w : World) (hp : p ≤ s.size) (hs : s.size ≤ 140737488355328) (hn : s.size - p < 4) :
    Calls Tryd.prog 56 #[.string s, .int .i64 p] w fun y w' => y = .returned (.tuple #[.int .u32 0, .int .i64 p, .int .i64 1]) ∧ w = w' := by
  have q := Lib.hid (refGetLow_short s p 4 w hp hs hn (by decide))
  go_enter Tryd.func56, Tryd.ntmps56
  go_wp2_with fail
  refine q.out.mono ?_
  rintro y w1 ⟨rfl, rfl⟩
  go_wp2
  go_ret3
  exact ⟨rfl, rfl⟩

theorem refGetFloat_form (s : ByteArray) (p x : Nat) (w : World) (hs : s.size ≤ 140737488355328) (hn : p + 4 ≤ s.size) (hx : lowN ((rest s p).take 4) = x) (hc : canon x ≠ x) :
    Calls Tryd.prog 56 #[.string s, .int .i64 p] w fun y w' => y = .returned (.tuple #[.int .u32 0, .int .i64 p, .int .i64 7]) ∧ w = w' := by
  have q := refGetLow_ok s p 4 w hs hn (by decide)
  have hlt := lowN_lt ((rest s p).take 4)
  have h4 : ((rest s p).take 4).length = 4 := by rw [List.length_take, rest_length]; omega
  rw [h4] at hlt
  rw [hx] at q hlt
  have q := Lib.hid q
  have hnan : isNaNB x = true := by
    by_cases h : isNaNB x = true
    · exact h
    · exact absurd (by unfold canon; rw [if_neg h]) hc
  have hne : ((x : Int) != 2143289344) = true := by
    have : x ≠ 2143289344 := by rintro rfl; exact hc rfl
    simp; omega
  have q2 := isNaN_any x w (by omega)
  rw [hnan] at q2
  have q2 := Lib.hid q2
  clear hc hnan hx h4
  generalize p + 4 = p4 at *
  go_enter Tryd.func56, Tryd.ntmps56
  go_wp2_with fail
  refine q.out.mono ?_
  rintro y w1 ⟨rfl, rfl⟩
  go_wp2_with fail
  refine q2.out.mono ?_
  rintro y w1 ⟨rfl, rfl⟩
  go_wp2
  go_ret3
  exact ⟨rfl, rfl⟩

theorem refGetFloat_ok (s : ByteArray) (p x : Nat) (w : World) (hs : s.size ≤ 140737488355328) (hn : p + 4 ≤ s.size) (hx : lowN ((rest s p).take 4) = x) (hc : canon x = x) :
    Calls Tryd.prog 56 #[.string s, .int .i64 p] w fun y w' => y = .returned (.tuple #[.int .u32 x, .int .i64 ((p + 4 : Nat) : Int), .int .i64 0]) ∧ w = w' := by
  have q := refGetLow_ok s p 4 w hs hn (by decide)
  have hlt := lowN_lt ((rest s p).take 4)
  have h4 : ((rest s p).take 4).length = 4 := by rw [List.length_take, rest_length]; omega
  rw [h4] at hlt
  rw [hx] at q hlt
  have q := Lib.hid q
  have q2 := isNaN_any x w (by omega)
  by_cases hnan : isNaNB x = true
  · have hne : ((x : Int) != 2143289344) = false := by
      have : x = 2143289344 := by unfold canon at hc; rw [if_pos hnan] at hc; exact hc.symm
      simp; omega
    rw [hnan] at q2
    have q2 := Lib.hid q2
    clear hc hnan hx h4
    generalize p + 4 = p4 at *
    go_enter Tryd.func56, Tryd.ntmps56
    go_wp2_with fail
    refine q.out.mono ?_
    rintro y w1 ⟨rfl, rfl⟩
    go_wp2_with fail
    refine q2.out.mono ?_
    rintro y w1 ⟨rfl, rfl⟩
    go_wp2
    go_ret3
    exact ⟨rfl, rfl⟩
  · have hnan' : isNaNB x = false := by simpa using hnan
    rw [hnan'] at q2
    have q2 := Lib.hid q2
    clear hc hnan hnan' hx h4
    generalize p + 4 = p4 at *
    go_enter Tryd.func56, Tryd.ntmps56
    go_wp2_with fail
    refine q.out.mono ?_
    rintro y w1 ⟨rfl, rfl⟩
    go_wp2_with fail
    refine q2.out.mono ?_
    rintro y w1 ⟨rfl, rfl⟩
    go_wp2
    go_ret3
    exact ⟨rfl, rfl⟩
end Go.Proofs.YtilhkbohemghlaaDoor
