/-
  The contracts of putNumber, putText, Join.
-/
import Derived.Test.YtfhfbpjhjigbnaaDoorKParts
import Derived.Test.YtfhfbpjhjigbnaaDoorKBuild
import Derived.LoopTactic
import Derived.Laws.BitsAllLaws
import Derived.Laws.Bits64
import Derived.WalkLawsBesides
namespace Go.Proofs.YtfhfbpjhjigbnaaDoor
open Go.RowKit Go.WideShapes
set_option maxRecDepth 100000

theorem xor_top (x : Nat) (hx : x < 18446744073709551616) : x ^^^ 9223372036854775808 = if x < 9223372036854775808 then x + 9223372036854775808 else x - 9223372036854775808 := by
  have h1 : (x ^^^ 2 ^ 63) % 2 ^ 63 = x % 2 ^ 63 ^^^ 2 ^ 63 % 2 ^ 63 := Nat.xor_mod_two_pow
  have h2 : (x ^^^ 2 ^ 63) / 2 ^ 63 = x / 2 ^ 63 ^^^ 2 ^ 63 / 2 ^ 63 := Nat.xor_div_two_pow
  rw [Nat.mod_self, Nat.xor_zero] at h1
  rw [Nat.div_self (by decide)] at h2
  have e : (9223372036854775808 : Nat) = 2 ^ 63 := by decide
  rw [e]
  by_cases h : x < 2 ^ 63
  · rw [if_pos h]
    rw [Nat.div_eq_of_lt h, Nat.zero_xor] at h2
    omega
  · rw [if_neg h]
    have hq : x / 2 ^ 63 = 1 := by omega
    rw [hq, Nat.xor_self] at h2
    omega

theorem xor_num_pos {n : Int} (h0 : 0 ≤ n) (h1 : n ≤ 9223372036854775807) : bits .xor .u64 n 9223372036854775808 = (((n + 9223372036854775808).toNat : Nat) : Int) := by
  obtain ⟨m, rfl⟩ : ∃ m : Nat, n = m := ⟨n.toNat, by omega⟩
  rw [show (9223372036854775808 : Int) = ((9223372036854775808 : Nat) : Int) from rfl, u64_xor_nat _ _ (by omega) (by omega), xor_top m (by omega), if_pos (by omega)]
  omega
theorem xor_num_neg {n : Int} (h0 : -9223372036854775808 ≤ n) (h1 : n < 0) : bits .xor .u64 (IntKind.u64.wrap n) 9223372036854775808 = (((n + 9223372036854775808).toNat : Nat) : Int) := by
  rw [IntKind.wrap_u64, show n % 18446744073709551616 = (((n + 18446744073709551616).toNat : Nat) : Int) by omega, show (9223372036854775808 : Int) = ((9223372036854775808 : Nat) : Int) from rfl, u64_xor_nat _ _ (by omega) (by omega), xor_top _ (by omega), if_neg (by omega)]
  omega

theorem bbyte_any (b : Nat) (r : Option Nat) (l : List UInt8) (c : Int) (w : World) (h : Wr b r l w) (hlen : l.length + 1 ≤ 140737488355328) (hc0 : 0 ≤ c) (hc1 : c < 256) :
    Calls Tryd.prog 35 #[.pointer (some ⟨b, 0, none⟩), .int .u8 c] w fun e w' => e = .returned .nilIface ∧ Wrote b r (l ++ [c.toNat.toUInt8]) w w' := by
  have hb := writeByte_any b r l c.toNat.toUInt8 w h hlen
  rwa [K.u8_toNat (show c.toNat < 256 by omega), Int.toNat_of_nonneg hc0] at hb

theorem beB_step (k x : Nat) : K.beB (k + 1) (x % 256 ^ (k + 1)) = (x / 256 ^ k % 256).toUInt8 :: K.beB k (x % 256 ^ k) := by
  have hp : 0 < 256 ^ k := Nat.pow_pos (by omega)
  rw [K.beB, Nat.pow_succ, Nat.mod_mul_right_mod, Nat.mod_mul_right_div_self, Nat.mod_mod]

/-- putNumber's loop: k bytes are left. -/
def NumAt (b : Nat) (r : Option Nat) (l : List UInt8) (x : Nat) (w : World) (i : Value) (wr : World) : Prop :=
  ∃ (k : Nat) (r1 : Option Nat) (pre : List UInt8), k ≤ 8 ∧ i = .int .i64 (8 * (k : Int) - 8) ∧ Wr b r1 (l ++ pre) wr ∧ Kept b r r1 w wr ∧ pre ++ K.beB k (x % 256 ^ k) = K.beB 8 x

theorem NumAt.more {b : Nat} {r r1 : Option Nat} {l pre : List UInt8} {x k : Nat} {w wr w1 : World} (hk : k + 1 ≤ 8) (kk : Kept b r r1 w wr) (he : pre ++ K.beB (k + 1) (x % 256 ^ (k + 1)) = K.beB 8 x) {c : Int} (hc : c = ((x / 256 ^ k % 256 : Nat) : Int))
    (h1 : Wrote b r1 ((l ++ pre) ++ [c.toNat.toUInt8]) wr w1) : NumAt b r l x w (.int .i64 (8 * (k : Int) - 8)) w1 := by
  obtain ⟨r2, h2, k2⟩ := h1
  subst hc
  rw [Int.toNat_natCast] at h2
  refine ⟨k, r2, pre ++ [(x / 256 ^ k % 256).toUInt8], by omega, rfl, by rw [← List.append_assoc]; exact h2, kk.trans k2, ?_⟩
  rw [← he, beB_step]
  simp

theorem NumAt.room {l pre : List UInt8} {x k : Nat} (hl : l.length + 8 ≤ 140737488355328) (hk : 1 ≤ k) (he : pre ++ K.beB k (x % 256 ^ k) = K.beB 8 x) : (l ++ pre).length + 1 ≤ 140737488355328 := by
  have h := congrArg List.length he
  rw [List.length_append, K.beB_length, K.beB_length] at h
  rw [List.length_append]
  omega

theorem formB_num {n : Int} : K.formB (.num n) = [1] ++ K.beB 8 (n + 9223372036854775808).toNat := rfl

set_option maxHeartbeats 3200000 in
theorem putNumber_any (b : Nat) (r : Option Nat) (l : List UInt8) (n : Int) (w : World) (h : Wr b r l w) (hlen : l.length + 9 ≤ 140737488355328) (h0 : -9223372036854775808 ≤ n) (h1 : n ≤ 9223372036854775807) :
    Calls Tryd.prog 24 #[.pointer (some ⟨b, 0, none⟩), .int .i64 n] w fun e w' => e = .returned (.tuple #[]) ∧ Wrote b r (l ++ K.formB (.num n)) w w' := by
  have hX : (n + 9223372036854775808).toNat < 18446744073709551616 := by omega
  rw [formB_num, ← List.append_assoc]
  have hlen2 : (l ++ [1]).length + 8 ≤ 140737488355328 := by rw [List.length_append]; simp; omega
  have hxor : (0 ≤ n ∧ bits .xor .u64 n 9223372036854775808 = (((n + 9223372036854775808).toNat : Nat) : Int)) ∨ (n < 0 ∧ bits .xor .u64 (IntKind.u64.wrap n) 9223372036854775808 = (((n + 9223372036854775808).toNat : Nat) : Int)) := by
    by_cases hn : 0 ≤ n
    · exact .inl ⟨hn, xor_num_pos hn h1⟩
    · exact .inr ⟨by omega, xor_num_neg h0 (by omega)⟩
  generalize (n + 9223372036854775808).toNat = X at *
  rcases hxor with ⟨hn, hx⟩ | ⟨hn, hx⟩
  all_goals
    go_enter Tryd.func24, Tryd.ntmps24
    go_wp2_with fail
    refine (bbyte_any b r l 1 w h (by omega) (by omega) (by omega)).mono ?_
    rintro e w1 ⟨rfl, r1, hw1, k1⟩
    have K1 := Lib.hid k1
    have W1 := Lib.hid hw1
    clear k1 hw1 h
    go_wp2_with fail
    go_loopw [5] (fun i wr => NumAt b r (l ++ [1]) X w i wr) (fun i _ => (intOf i + 8).toNat)
    case atStart => exact ⟨8, r1, [], by omega, rfl, by simpa using W1.out, K1.out, by rw [Nat.mod_eq_of_lt (by omega)]; rfl⟩
    case round =>
      obtain ⟨k, r2, pre, hk, rfl, hw, kk, he⟩ := hrel
      have Hroom := Lib.hid (fun (h : 1 ≤ k) => NumAt.room hlen2 h he)
      have Fin := Lib.hid (fun (j : Nat) (e : k = j + 1) (c : Int) (hc : c = ((X / 256 ^ j % 256 : Nat) : Int)) (w1 : World) (h1 : Wrote b r2 (((l ++ [1]) ++ pre) ++ [c.toNat.toUInt8]) wr w1) => show NumAt b r (l ++ [1]) X w (.int .i64 (8 * (j : Int) - 8)) w1 by subst e; exact NumAt.more (by omega) kk he hc h1)
      have Hw := Lib.hid hw
      have Hk := Lib.hid kk
      have He := Lib.hid he
      have hcases : k = 0 ∨ k = 1 ∨ k = 2 ∨ k = 3 ∨ k = 4 ∨ k = 5 ∨ k = 6 ∨ k = 7 ∨ k = 8 := by omega
      clear hw kk he hx
      rcases hcases with rfl | rfl | rfl | rfl | rfl | rfl | rfl | rfl | rfl
      · clear Fin Hroom
        go_wp2
        go_end0
        have q := He.out
        rw [show K.beB 0 (X % 256 ^ 0) = [] from rfl, List.append_nil] at q
        exact ⟨rfl, r2, q ▸ Hw.out, Hk.out⟩
      all_goals
        go_wp2_with fail
        refine (bbyte_any b r2 _ _ _ Hw.out (Hroom.out (by omega)) (by omega) (by omega)).mono ?_
        rintro e w2 ⟨rfl, h2⟩
        have fin := Lib.hid (Fin.out _ rfl _ (by omega) _ h2)
        clear h2 Fin Hroom Hw Hk He
        go_wp2
        go_roundw
        case rel => exact fin.out
        case measure => simp [intOf]
end Go.Proofs.YtfhfbpjhjigbnaaDoor
