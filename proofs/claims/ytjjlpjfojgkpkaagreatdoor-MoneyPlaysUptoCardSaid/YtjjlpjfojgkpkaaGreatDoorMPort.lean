/-
  The contracts of money's unsigned, portion, Rate.
-/
import Derived.Test.YtjjlpjfojgkpkaaGreatDoorMDiv
import Derived.Test.YtjjlpjfojgkpkaaGreatDoorMSpec
import Derived.BigQuiet
import Derived.Deep.QuietTactic
namespace Go.Proofs.YtjjlpjfojgkpkaaGreatDoor
open Go.RowKit Go.WideShapes Go.Shelf
set_option maxRecDepth 100000

theorem near_cases (y : Nat) : (10000 < 2 * (y % 10000) ∧ M.near y = y / 10000 + 1) ∨ (2 * (y % 10000) = 10000 ∧ y / 10000 % 2 = 1 ∧ M.near y = y / 10000 + 1) ∨ (2 * (y % 10000) = 10000 ∧ y / 10000 % 2 = 0 ∧ M.near y = y / 10000) ∨ (2 * (y % 10000) < 10000 ∧ M.near y = y / 10000) := by
  unfold M.near
  by_cases h1 : 10000 < 2 * (y % 10000)
  · exact .inl ⟨h1, if_pos (.inl h1)⟩
  · by_cases h2 : 2 * (y % 10000) = 10000
    · rcases Nat.mod_two_eq_zero_or_one (y / 10000) with h3 | h3
      · exact .inr (.inr (.inl ⟨h2, h3, if_neg (by omega)⟩))
      · exact .inr (.inl ⟨h2, h3, if_pos (.inr ⟨h2, h3⟩)⟩)
    · exact .inr (.inr (.inr ⟨by omega, if_neg (by omega)⟩))

theorem Errs.qt {ad : Nat → Addr} {w w' : World} (h : Errs ad w) (k : Qt w w') : Errs ad w' := h.kept k (OffErrs.none ad)
theorem unsigned_any (a : Int) (w : World) (a0 : -9223372036854775808 ≤ a) (a1 : a < 9223372036854775808) :
    Calls Tryz.prog 29 #[.int .i64 a] w fun e w' => e = .returned (.int .u64 (a.natAbs : Nat)) ∧ w = w' := by
  by_cases ha : a < 0
  · have W1 := Lib.hid (show IntKind.u64.wrap (-IntKind.u64.wrap a) = (a.natAbs : Int) by rw [IntKind.wrap_u64, IntKind.wrap_u64]; omega)
    go_enter Tryz.func29, Tryz.ntmps29
    go_wp2
    go_ret
    exact ⟨by rw [← W1.out]; rfl, rfl⟩
  · have W1 := Lib.hid (show a = (a.natAbs : Int) by omega)
    have ha2 : 0 ≤ a := by omega
    go_enter Tryz.func29, Tryz.ntmps29
    go_wp2
    go_ret
    exact ⟨by rw [← W1.out]; rfl, rfl⟩
theorem mul64_any (x y : Nat) (w : World) (hx : x < 18446744073709551616) (hy : y < 18446744073709551616) :
    Calls Tryz.prog 62 #[.int .u64 x, .int .u64 y] w fun e w' => e = .returned (.tuple #[.int .u64 ((x * y / 18446744073709551616 : Nat) : Int), .int .u64 ((x * y % 18446744073709551616 : Nat) : Int)]) ∧ w' = w := Tryz.bits_Mul64 x y hx hy w
/-- The two words of a product stand for it, and the upper one is below what it is divided by. -/
theorem product_parts {x y d : Nat} (hx : x < 18446744073709551616) (hy : y ≤ d) (hd : 0 < d) : x * y / 18446744073709551616 < d ∧ x * y / 18446744073709551616 * 18446744073709551616 + x * y % 18446744073709551616 = x * y := by
  refine ⟨?_, by rw [Nat.mul_comm]; exact Nat.div_add_mod _ _⟩
  rw [Nat.div_lt_iff_lt_mul (by decide)]
  have h1 : x * y ≤ x * d := Nat.mul_le_mul_left _ hy
  have h2 : x * d < 18446744073709551616 * d := Nat.mul_lt_mul_of_pos_right hx hd
  rw [Nat.mul_comm d]
  omega
set_option maxHeartbeats 800000 in
theorem portion_any (x y d : Nat) (w : World) (hx : x < 18446744073709551616) (hy : y ≤ d) (hd : 0 < d) (hd2 : d < 18446744073709551616) :
    Calls Tryz.prog 35 #[.int .u64 x, .int .u64 y, .int .u64 d] w fun e w' => e = .returned (.tuple #[.int .u64 ((x * y / d : Nat) : Int), .int .u64 ((x * y % d : Nat) : Int)]) ∧ Qt w w' := by
  have MU := Lib.hid (fun W => mul64_any x y W hx (by omega))
  obtain ⟨p1, p2⟩ := product_parts hx hy hd
  have DI := Lib.hid (fun W => div64_any (x * y / 18446744073709551616) (x * y % 18446744073709551616) d W (Nat.mod_lt _ (by decide)) hd2 p1)
  rw [p2] at DI
  generalize x * y / 18446744073709551616 = h at *
  generalize x * y % 18446744073709551616 = l at *
  clear p1 p2 hx hy hd hd2
  generalize x * y / d = q at *
  generalize x * y % d = r at *
  go_enter Tryz.func35, Tryz.ntmps35
  go_wp2_with fail
  refine (MU.out _).mono ?_
  rintro e w1 ⟨rfl, rfl⟩
  go_wp2_with fail
  refine (DI.out _).mono ?_
  rintro e w2 ⟨rfl, k2⟩
  have K2 := Lib.hid k2; clear k2
  go_wp2
  go_ret2
  exact ⟨rfl, K2.out⟩

/-- What Rate answers. -/
def rateM (ad : Nat → Addr) (a n : Int) : Value := if n < 0 ∨ 10000 < n then .tuple #[.int .i64 0, errV ad 6] else .tuple #[.int .i64 (M.rate a n.toNat), .nilIface]
theorem retI {k : IntKind} {a b : Int} {v : Value} (h : a = b) : Ending.returned (.tuple #[.int k a, v]) = .returned (.tuple #[.int k b, v]) := by rw [h]

set_option maxHeartbeats 3200000 in
theorem rate_any (ad : Nat → Addr) (a n : Int) (w : World) (hE : Errs ad w) (a0 : -9223372036854775808 ≤ a) (a1 : a < 9223372036854775808) (n0 : -9223372036854775808 ≤ n) (n1 : n < 9223372036854775808) :
    Calls Tryz.prog 10 #[.int .i64 a, .int .i64 n] w fun e w' => e = .returned (rateM ad a n) ∧ Qt w w' := by
  by_cases hn : n < 0 ∨ 10000 < n
  · have HR := Lib.hid (show rateM ad a n = .tuple #[.int .i64 0, .iface 158 (.pointer (some (ad 6)))] from if_pos hn)
    have hc6 : w.cell? ⟨0, 0, none⟩ = some (.iface 158 (.pointer (some (ad 6)))) := hE.cells 5 _ rfl
    clear hE
    rcases hn with hn | hn
    all_goals
      go_enter Tryz.func10, Tryz.ntmps10
      go_wp2
      go_quiet (fail)
      go_wp2
      go_ret2
      exact ⟨by rw [HR.out]; rfl, (Qt.refl w).drewN _⟩
  · have HR := Lib.hid (show rateM ad a n = .tuple #[.int .i64 (M.rate a n.toNat), .nilIface] from if_neg hn)
    obtain ⟨m, rfl⟩ := Int.eq_ofNat_of_zero_le (show 0 ≤ n by omega)
    have hm : m ≤ 10000 := by omega
    clear hn n0 n1
    have hq : a.natAbs * m / 10000 < 18446744073709551616 := by
      have := Nat.mul_le_mul_left a.natAbs hm
      omega
    have TI := Lib.hid (fun W => portion_any a.natAbs m 10000 W (by omega) hm (by decide) (by decide))
    have UN := Lib.hid (fun W => unsigned_any a W a0 a1)
    clear hE
    have hnear : M.near (a.natAbs * m) ≤ 9223372036854775808 := by have := M.near_le a.natAbs m hm; omega
    have hnl : M.near (a.natAbs * m) ≤ a.natAbs := M.near_le a.natAbs m hm
    rw [Int.toNat_natCast] at HR
    unfold M.rate at HR
    have hcs := near_cases (a.natAbs * m)
    have hr := Nat.mod_lt (a.natAbs * m) (show 0 < 10000 by decide)
    generalize M.near (a.natAbs * m) = z at *
    generalize a.natAbs * m / 10000 = q at *
    generalize a.natAbs * m % 10000 = r at *
    by_cases ha : a < 0
    · rw [if_pos ha] at HR
      have hxb : a.natAbs ≤ 9223372036854775808 := by omega
      generalize a.natAbs = x at *
      rcases hcs with ⟨c1, hz⟩ | ⟨c1, c2, hz⟩ | ⟨c1, c2, hz⟩ | ⟨c1, hz⟩
      · subst hz
        have b1 : decide (10000 < 2 * (r : Int)) = true := decide_eq_true (by omega)
        have W2 : wrap64 (IntKind.u64.wrap (-((q : Int) + 1))) = -((q : Int) + 1) := by rw [IntKind.wrap_u64]; unfold wrap64; omega
        clear c1
        go_enter Tryz.func10, Tryz.ntmps10
        go_wp2_with fail
        refine (UN.out _).mono ?_
        rintro e w1 ⟨rfl, rfl⟩
        go_wp2_with fail
        refine (TI.out _).mono ?_
        rintro e w1 ⟨rfl, k1⟩
        have K1 := Lib.hid k1; clear k1
        go_wp2
        go_ret2
        exact ⟨by rw [HR.out]; exact retI (W2.trans (by omega)), K1.out⟩
      · subst hz
        have b1 : decide (10000 < 2 * (r : Int)) = false := decide_eq_false (by omega)
        have b2 : (2 * (r : Int) == 10000) = true := by rw [beq_iff_eq]; omega
        have b3 : ((q : Int) % 2 == 1) = true := by rw [beq_iff_eq]; omega
        have W2 : wrap64 (IntKind.u64.wrap (-((q : Int) + 1))) = -((q : Int) + 1) := by rw [IntKind.wrap_u64]; unfold wrap64; omega
        clear c1 c2
        go_enter Tryz.func10, Tryz.ntmps10
        go_wp2_with fail
        refine (UN.out _).mono ?_
        rintro e w1 ⟨rfl, rfl⟩
        go_wp2_with fail
        refine (TI.out _).mono ?_
        rintro e w1 ⟨rfl, k1⟩
        have K1 := Lib.hid k1; clear k1
        go_wp2
        go_ret2
        exact ⟨by rw [HR.out]; exact retI (W2.trans (by omega)), K1.out⟩
      · subst hz
        have b1 : decide (10000 < 2 * (r : Int)) = false := decide_eq_false (by omega)
        have b2 : (2 * (r : Int) == 10000) = true := by rw [beq_iff_eq]; omega
        have b3 : ((z : Int) % 2 == 1) = false := by rw [beq_eq_false_iff_ne]; omega
        have W2 : wrap64 (IntKind.u64.wrap (-(z : Int))) = -(z : Int) := by rw [IntKind.wrap_u64]; unfold wrap64; omega
        clear c1 c2
        go_enter Tryz.func10, Tryz.ntmps10
        go_wp2_with fail
        refine (UN.out _).mono ?_
        rintro e w1 ⟨rfl, rfl⟩
        go_wp2_with fail
        refine (TI.out _).mono ?_
        rintro e w1 ⟨rfl, k1⟩
        have K1 := Lib.hid k1; clear k1
        go_wp2
        go_ret2
        exact ⟨by rw [HR.out]; exact retI (W2.trans (by omega)), K1.out⟩
      · subst hz
        have b1 : decide (10000 < 2 * (r : Int)) = false := decide_eq_false (by omega)
        have b2 : (2 * (r : Int) == 10000) = false := by rw [beq_eq_false_iff_ne]; omega
        have W2 : wrap64 (IntKind.u64.wrap (-(z : Int))) = -(z : Int) := by rw [IntKind.wrap_u64]; unfold wrap64; omega
        clear c1
        go_enter Tryz.func10, Tryz.ntmps10
        go_wp2_with fail
        refine (UN.out _).mono ?_
        rintro e w1 ⟨rfl, rfl⟩
        go_wp2_with fail
        refine (TI.out _).mono ?_
        rintro e w1 ⟨rfl, k1⟩
        have K1 := Lib.hid k1; clear k1
        go_wp2
        go_ret2
        exact ⟨by rw [HR.out]; exact retI (W2.trans (by omega)), K1.out⟩
    · rw [if_neg ha] at HR
      have hxb : a.natAbs ≤ 9223372036854775807 := by omega
      have ha3 : 0 ≤ a := by omega
      generalize a.natAbs = x at *
      rcases hcs with ⟨c1, hz⟩ | ⟨c1, c2, hz⟩ | ⟨c1, c2, hz⟩ | ⟨c1, hz⟩
      · subst hz
        have b1 : decide (10000 < 2 * (r : Int)) = true := decide_eq_true (by omega)
        have W2 : wrap64 ((q : Int) + 1) = ((q : Int) + 1) := by unfold wrap64; omega
        clear c1
        go_enter Tryz.func10, Tryz.ntmps10
        go_wp2_with fail
        refine (UN.out _).mono ?_
        rintro e w1 ⟨rfl, rfl⟩
        go_wp2_with fail
        refine (TI.out _).mono ?_
        rintro e w1 ⟨rfl, k1⟩
        have K1 := Lib.hid k1; clear k1
        go_wp2
        go_ret2
        exact ⟨by rw [HR.out]; exact retI (by omega), K1.out⟩
      · subst hz
        have b1 : decide (10000 < 2 * (r : Int)) = false := decide_eq_false (by omega)
        have b2 : (2 * (r : Int) == 10000) = true := by rw [beq_iff_eq]; omega
        have b3 : ((q : Int) % 2 == 1) = true := by rw [beq_iff_eq]; omega
        have W2 : wrap64 ((q : Int) + 1) = ((q : Int) + 1) := by unfold wrap64; omega
        clear c1 c2
        go_enter Tryz.func10, Tryz.ntmps10
        go_wp2_with fail
        refine (UN.out _).mono ?_
        rintro e w1 ⟨rfl, rfl⟩
        go_wp2_with fail
        refine (TI.out _).mono ?_
        rintro e w1 ⟨rfl, k1⟩
        have K1 := Lib.hid k1; clear k1
        go_wp2
        go_ret2
        exact ⟨by rw [HR.out]; exact retI (by omega), K1.out⟩
      · subst hz
        have b1 : decide (10000 < 2 * (r : Int)) = false := decide_eq_false (by omega)
        have b2 : (2 * (r : Int) == 10000) = true := by rw [beq_iff_eq]; omega
        have b3 : ((z : Int) % 2 == 1) = false := by rw [beq_eq_false_iff_ne]; omega
        have W2 : wrap64 (z : Int) = (z : Int) := by unfold wrap64; omega
        clear c1 c2
        go_enter Tryz.func10, Tryz.ntmps10
        go_wp2_with fail
        refine (UN.out _).mono ?_
        rintro e w1 ⟨rfl, rfl⟩
        go_wp2_with fail
        refine (TI.out _).mono ?_
        rintro e w1 ⟨rfl, k1⟩
        have K1 := Lib.hid k1; clear k1
        go_wp2
        go_ret2
        exact ⟨by rw [HR.out]; exact retI (by omega), K1.out⟩
      · subst hz
        have b1 : decide (10000 < 2 * (r : Int)) = false := decide_eq_false (by omega)
        have b2 : (2 * (r : Int) == 10000) = false := by rw [beq_eq_false_iff_ne]; omega
        have W2 : wrap64 (z : Int) = (z : Int) := by unfold wrap64; omega
        clear c1
        go_enter Tryz.func10, Tryz.ntmps10
        go_wp2_with fail
        refine (UN.out _).mono ?_
        rintro e w1 ⟨rfl, rfl⟩
        go_wp2_with fail
        refine (TI.out _).mono ?_
        rintro e w1 ⟨rfl, k1⟩
        have K1 := Lib.hid k1; clear k1
        go_wp2
        go_ret2
        exact ⟨by rw [HR.out]; exact retI (by omega), K1.out⟩
end Go.Proofs.YtjjlpjfojgkpkaaGreatDoor
