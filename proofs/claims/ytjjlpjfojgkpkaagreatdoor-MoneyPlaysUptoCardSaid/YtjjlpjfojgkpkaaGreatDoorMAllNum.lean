/-
  The contract of the reference's times: a product divided, bit by bit.
  The contracts of the reference's whole, plus, fits, Add, Sub: whole numbers in two words.
  The contract of the reference's Sum.
  The contract of the reference's Rate.
-/
import Derived.Test.YtjjlpjfojgkpkaaGreatDoorQt
import Derived.Test.YtjjlpjfojgkpkaaGreatDoorMSpec
import Derived.Laws.BitsAllLaws
import Derived.LoopTactic
import Derived.WalkLawsBesides
import Derived.Outline
import Derived.Laws.DeepNot64
import Derived.RegionTactic
import Derived.Deep.RegionHeld3
import Derived.Test.YtjjlpjfojgkpkaaGreatDoorInts
import Derived.Laws.Rows
import Derived.Deep.RegionLaw
import Derived.Test.YtjjlpjfojgkpkaaGreatDoorMPort
namespace Go.Proofs.YtjjlpjfojgkpkaaGreatDoor
open Go.RowKit Go.WideShapes
set_option maxRecDepth 100000

theorem ret_2 {k k' : IntKind} {a b c d : Int} (h : a = b) (h' : c = d) : Ending.returned (.tuple #[.int k a, .int k' c]) = .returned (.tuple #[.int k b, .int k' d]) := by rw [h, h']
theorem bit_one (n m : Nat) (h : n < 18446744073709551616) : bits .and .u64 ((n : Int) / 2 ^ m) 1 = ((n / 2 ^ m % 2 : Nat) : Int) := by
  have h1 : n / 2 ^ m < 18446744073709551616 := Nat.lt_of_le_of_lt (Nat.div_le_self _ _) h
  have h2 := u64_and_nat (n / 2 ^ m) 1 h1 (by decide)
  rw [Nat.and_one_is_mod] at h2
  rw [← h2]
  congr 1
theorem div_lt_of {x n m d : Nat} (h : x * n / d < 18446744073709551616) : x * (n / 2 ^ m) / d < 18446744073709551616 :=
  Nat.lt_of_le_of_lt (Nat.div_le_div_right (Nat.mul_le_mul_left _ (Nat.div_le_self _ _))) h

/-- With m bits to come. -/
def TimesAt (x n d m q r : Nat) : Prop := m ≤ 64 ∧ q = x * (n / 2 ^ m) / d ∧ r = x * (n / 2 ^ m) % d
theorem TimesAt.start {x n d : Nat} (hn : n < 18446744073709551616) : TimesAt x n d 64 0 0 := by
  refine ⟨by omega, ?_, ?_⟩
  · rw [show (2 : Nat) ^ 64 = 18446744073709551616 from rfl, Nat.div_eq_of_lt hn, Nat.mul_zero, Nat.zero_div]
  · rw [show (2 : Nat) ^ 64 = 18446744073709551616 from rfl, Nat.div_eq_of_lt hn, Nat.mul_zero, Nat.zero_mod]
/-- One bit less. -/
theorem TimesAt.step {x n d m q r : Nat} (hd : 0 < d) (h : TimesAt x n d (m + 1) q r) :
    ∃ q1 r1, q1 = 2 * q + (if d ≤ 2 * r then 1 else 0) ∧ r1 = (if d ≤ 2 * r then 2 * r - d else 2 * r) ∧ r < d ∧ r1 < d ∧ q1 ≤ x * (n / 2 ^ m) / d ∧
      (n / 2 ^ m % 2 = 0 → TimesAt x n d m q1 r1) ∧
      (n / 2 ^ m % 2 = 1 → q1 + x / d + (if d ≤ r1 + x % d then 1 else 0) ≤ x * (n / 2 ^ m) / d ∧ TimesAt x n d m (q1 + x / d + (if d ≤ r1 + x % d then 1 else 0)) (if d ≤ r1 + x % d then r1 + x % d - d else r1 + x % d)) := by
  obtain ⟨hm, hq, hr⟩ := h
  have hrd : r < d := by rw [hr]; exact Nat.mod_lt _ hd
  obtain ⟨t1, t2⟩ := M.twice_div (x * (n / 2 ^ (m + 1))) d hd
  rw [← hq, ← hr] at t1
  rw [← hr] at t2
  have hb := M.bit_more n m
  have e2 : 2 * (x * (n / 2 ^ (m + 1))) = x * (2 * (n / 2 ^ (m + 1))) := by rw [Nat.mul_left_comm]
  refine ⟨_, _, rfl, rfl, hrd, ?_, ?_, fun h0 => ?_, fun h1 => ?_⟩
  · rw [← t2]; exact Nat.mod_lt _ hd
  · rw [← t1]
    apply Nat.div_le_div_right
    rw [e2]
    exact Nat.mul_le_mul_left _ (by omega)
  · have hb0 : n / 2 ^ m = 2 * (n / 2 ^ (m + 1)) := by omega
    refine ⟨by omega, ?_, ?_⟩
    · rw [← t1, e2, ← hb0]
    · rw [← t2, e2, ← hb0]
  · obtain ⟨s1, s2⟩ := M.more_div (2 * (x * (n / 2 ^ (m + 1)))) x d hd
    rw [t1, t2] at s1
    rw [t2] at s2
    have e3 : 2 * (x * (n / 2 ^ (m + 1))) + x = x * (n / 2 ^ m) := by rw [e2, hb, h1, Nat.mul_add, Nat.mul_one]
    rw [e3] at s1 s2
    exact ⟨Nat.le_of_eq s1.symm, by omega, s1.symm, s2.symm⟩

set_option maxHeartbeats 3200000 in
theorem times_any (x n d : Nat) (w : World) (hx : x < 18446744073709551616) (hn : n < 18446744073709551616) (hd : 0 < d) (hd2 : d < 4611686018427387904) (hq : x * n / d < 18446744073709551616) :
    Calls Tryz.prog 42 #[.int .u64 x, .int .u64 n, .int .u64 d] w fun e w' => e = .returned (.tuple #[.int .u64 ((x * n / d : Nat) : Int), .int .u64 ((x * n % d : Nat) : Int)]) ∧ w = w' := by
  have HQ := Lib.hid (fun m => div_lt_of (m := m) hq)
  have HN := Lib.hid (fun m => bit_one n m hn)
  clear hq
  go_enter Tryz.func42, Tryz.ntmps42
  go_wp2
  go_loop [8, 9, 10] (fun q r i => ∃ m q0 r0 : Nat, i = .int .i64 ((m : Int) - 1) ∧ q = .int .u64 q0 ∧ r = .int .u64 r0 ∧ TimesAt x n d m q0 r0) (fun _ _ i => (intOf i + 1).toNat)
  case atStart => exact ⟨64, 0, 0, rfl, rfl, rfl, TimesAt.start hn⟩
  case round =>
    obtain ⟨m, q0, r0, rfl, rfl, rfl, hA⟩ := hrel
    have hm := hA.1
    cases m with
    | zero =>
      have E := Lib.hid hA.2
      clear hA
      rw [show (((0 : Nat) : Int) - 1) = -1 from rfl]
      go_wp2
      go_ret2
      have h1 := E.out.1
      have h2 := E.out.2
      simp only [Nat.pow_zero, Nat.div_one] at h1 h2
      exact ⟨by rw [h1, h2]; rfl, rfl⟩
    | succ m =>
      rw [show (((m + 1 : Nat) : Int) - 1) = (m : Int) by omega]
      obtain ⟨q1, r1, hq1, hr1, hrd, hr1d, hql, h0, h1⟩ := hA.step hd
      have hqb := HQ.out m
      have H0 := Lib.hid h0
      have H1 := Lib.hid h1
      have hbit := HN.out m
      have hq0b : q0 ≤ q1 := by rw [hq1]; split <;> omega
      clear hA h0 h1
      rcases Nat.mod_two_eq_zero_or_one (n / 2 ^ m) with hb | hb
      · have HT := Lib.hid (H0.out hb)
        rw [hb] at hbit
        have hbt : (bits .and .u64 ((n : Int) / 2 ^ m) 1 == 1) = false := by rw [hbit]; rfl
        clear hb hbit
        by_cases c1 : d ≤ 2 * r0
        · rw [if_pos c1] at hq1 hr1
          have E1 := Lib.hid hq1
          have E2 := Lib.hid hr1
          have hb1 : 2 * q0 + 1 < 18446744073709551616 := by omega
          clear hq1 hr1 hql hqb
          go_wp2
          go_round
          case rel => exact ⟨m, q1, r1, rfl, by rw [E1.out]; go_num, by rw [E2.out]; go_num, HT.out⟩
          case measure => simp [intOf]
        · rw [if_neg c1] at hq1 hr1
          have E1 := Lib.hid hq1
          have E2 := Lib.hid hr1
          have hb1 : 2 * q0 < 18446744073709551616 := by omega
          clear hq1 hr1 hql hqb
          go_wp2
          go_round
          case rel => exact ⟨m, q1, r1, rfl, by rw [E1.out]; go_num, by rw [E2.out]; go_num, HT.out⟩
          case measure => simp [intOf]
      · obtain ⟨hle, hT⟩ := H1.out hb
        have HT := Lib.hid hT
        rw [hb] at hbit
        have hbt : (bits .and .u64 ((n : Int) / 2 ^ m) 1 == 1) = true := by rw [hbit]; rfl
        clear hb hbit hT
        have hmd := Nat.mod_lt x hd
        obtain ⟨xq, hxq⟩ : ∃ y, x / d = y := ⟨_, rfl⟩
        obtain ⟨xr, hxr⟩ : ∃ y, x % d = y := ⟨_, rfl⟩
        rw [hxq] at hle HT
        rw [hxr] at hle HT hmd
        have XQ : ((x : Int) / (d : Int)) = (xq : Int) := by rw [← hxq]; push_cast; rfl
        have XR : ((x : Int) % (d : Int)) = (xr : Int) := by rw [← hxr]; push_cast; rfl
        clear hxq hxr
        by_cases c2 : d ≤ r1 + xr
        · simp only [if_pos c2] at hle HT
          by_cases c1 : d ≤ 2 * r0
          · rw [if_pos c1] at hq1 hr1
            have E1 := Lib.hid hq1
            have E2 := Lib.hid hr1
            have hb1 : 2 * q0 + 1 + xq + 1 < 18446744073709551616 := by omega
            have hc2 : d ≤ 2 * r0 - d + xr := by omega
            clear hq1 hr1 hql hqb c2 hle
            go_wp2
            go_round
            case rel => exact ⟨m, q1 + xq + 1, r1 + xr - d, rfl, by rw [E1.out]; go_num, by rw [E2.out]; go_num, HT.out⟩
            case measure => simp [intOf]
          · rw [if_neg c1] at hq1 hr1
            have E1 := Lib.hid hq1
            have E2 := Lib.hid hr1
            have hb1 : 2 * q0 + xq + 1 < 18446744073709551616 := by omega
            have hc2 : d ≤ 2 * r0 + xr := by omega
            clear hq1 hr1 hql hqb c2 hle
            go_wp2
            go_round
            case rel => exact ⟨m, q1 + xq + 1, r1 + xr - d, rfl, by rw [E1.out]; go_num, by rw [E2.out]; go_num, HT.out⟩
            case measure => simp [intOf]
        · simp only [if_neg c2, Nat.add_zero] at hle HT
          by_cases c1 : d ≤ 2 * r0
          · rw [if_pos c1] at hq1 hr1
            have E1 := Lib.hid hq1
            have E2 := Lib.hid hr1
            have hb1 : 2 * q0 + 1 + xq < 18446744073709551616 := by omega
            have hc2 : ¬ d ≤ 2 * r0 - d + xr := by omega
            clear hq1 hr1 hql hqb c2 hle
            go_wp2
            go_round
            case rel => exact ⟨m, q1 + xq, r1 + xr, rfl, by rw [E1.out]; go_num, by rw [E2.out]; go_num, HT.out⟩
            case measure => simp [intOf]
          · rw [if_neg c1] at hq1 hr1
            have E1 := Lib.hid hq1
            have E2 := Lib.hid hr1
            have hb1 : 2 * q0 + xq < 18446744073709551616 := by omega
            have hc2 : ¬ d ≤ 2 * r0 + xr := by omega
            clear hq1 hr1 hql hqb c2 hle
            go_wp2
            go_round
            case rel => exact ⟨m, q1 + xq, r1 + xr, rfl, by rw [E1.out]; go_num, by rw [E2.out]; go_num, HT.out⟩
            case measure => simp [intOf]
end Go.Proofs.YtjjlpjfojgkpkaaGreatDoor
namespace Go.Proofs.YtjjlpjfojgkpkaaGreatDoor
open Go.RowKit Go.WideShapes
set_option maxRecDepth 100000

def hiOf (x : Int) : Int := if x < 0 then -1 else 0
def loOf (x : Int) : Nat := (x % 18446744073709551616).toNat
theorem loOf_lt (x : Int) : loOf x < 18446744073709551616 := by unfold loOf; omega
theorem two_of (x : Int) (h0 : -9223372036854775808 ≤ x) (h1 : x < 9223372036854775808) : M.two (hiOf x) (loOf x) = x := by
  unfold M.two hiOf loOf
  split <;> omega
abbrev wholeV (h : Int) (l : Nat) : Value := .agg #[.int .i64 h, .int .u64 l]

set_option maxHeartbeats 800000 in
theorem whole_any (x : Int) (w : World) (h0 : -9223372036854775808 ≤ x) (h1 : x < 9223372036854775808) : Calls Tryz.prog 40 #[.int .i64 x] w fun e w' => e = .returned (wholeV (hiOf x) (loOf x)) ∧ Qt w w' := by
  have HA := Lib.hid (fun o => (Qt.refl w).alloc o)
  by_cases hx : x < 0
  · have e1 : hiOf x = -1 := if_pos hx
    have e2 : (loOf x : Int) = IntKind.u64.wrap x := by rw [IntKind.wrap_u64]; unfold loOf; omega
    unfold wholeV
    rw [e1, e2]
    clear e1 e2
    go_enter Tryz.func40, Tryz.ntmps40
    go_wp2
    exact bodyPost_ret (v := .agg #[.int .i64 (-1), .int .u64 (IntKind.u64.wrap x)]) (by simp [results, Tryz.results40, go_sem]) rfl ⟨rfl, HA.out _⟩
  · have e1 : hiOf x = 0 := if_neg hx
    have e2 : (loOf x : Int) = x := by unfold loOf; omega
    have hx2 : 0 ≤ x := by omega
    unfold wholeV
    rw [e1, e2]
    clear e1 e2
    go_enter Tryz.func40, Tryz.ntmps40
    go_wp2
    exact bodyPost_ret (v := .agg #[.int .i64 0, .int .u64 x]) (by simp [results, Tryz.results40, go_sem]) rfl ⟨rfl, HA.out _⟩

set_option maxHeartbeats 1600000 in
theorem plus_any (h1 h2 : Int) (l1 l2 : Nat) (w : World) (a1 : -4611686018427387904 ≤ h1) (a2 : h1 ≤ 4611686018427387903) (b1 : -4611686018427387904 ≤ h2) (b2 : h2 ≤ 4611686018427387902) (c1 : l1 < 18446744073709551616) (c2 : l2 < 18446744073709551616) :
    Calls Tryz.prog 39 #[wholeV h1 l1, wholeV h2 l2] w fun e w' => ∃ (h : Int) (l : Nat), e = .returned (wholeV h l) ∧ M.two h l = M.two h1 l1 + M.two h2 l2 ∧ l < 18446744073709551616 ∧ h1 + h2 ≤ h ∧ h ≤ h1 + h2 + 1 ∧ Qt w w' := by
  have T := Lib.hid (M.two_plus h1 h2 l1 l2 c1 c2)
  have HA := Lib.hid (fun o o2 o3 => (((Qt.refl w).alloc o).alloc o2).alloc o3)
  by_cases hc : l1 + l2 < 18446744073709551616
  · have hm : (l1 + l2) % 18446744073709551616 = l1 + l2 := Nat.mod_eq_of_lt hc
    have hn : ¬ l1 + l2 < l1 := by omega
    rw [hm, if_neg hn] at T
    have E := Lib.hid (show M.two (h1 + h2) (l1 + l2) = M.two h1 l1 + M.two h2 l2 from T.out)
    clear hm
    go_enter Tryz.func39, Tryz.ntmps39
    go_wp2
    exact bodyPost_ret (v := wholeV (h1 + h2) (l1 + l2 : Nat)) (by simp [results, Tryz.results39, go_sem]) rfl ⟨_, _, rfl, E.out, hc, by omega, by omega, HA.out _ _ _⟩
  · have hm : (l1 + l2) % 18446744073709551616 = l1 + l2 - 18446744073709551616 := by omega
    have hn : l1 + l2 - 18446744073709551616 < l1 := by omega
    rw [hm, if_pos hn] at T
    have E := Lib.hid (show M.two (h1 + h2 + 1) (l1 + l2 - 18446744073709551616) = M.two h1 l1 + M.two h2 l2 from T.out)
    have W := IntKind.wrap_u64 ((l1 : Int) + (l2 : Int))
    have W2 : ((l1 : Int) + (l2 : Int)) % 18446744073709551616 = ((l1 + l2 - 18446744073709551616 : Nat) : Int) := by omega
    rw [W2] at W
    clear hm W2
    obtain ⟨l, hl⟩ : ∃ l, l1 + l2 - 18446744073709551616 = l := ⟨_, rfl⟩
    rw [hl] at E hn W
    have hll : l < 18446744073709551616 := by omega
    clear hl
    go_enter Tryz.func39, Tryz.ntmps39
    go_wp2
    exact bodyPost_ret (v := wholeV (h1 + h2 + 1) l) (by simp [results, Tryz.results39, go_sem]) rfl ⟨_, _, rfl, E.out, hll, by omega, by omega, HA.out _ _ _⟩

/-- What a sum answers. -/
def fitV (v : Int) : Value := match M.fit v with | some x => .tuple #[.int .i64 x, .int .i64 0] | none => .tuple #[.int .i64 0, .int .i64 10]
theorem fitV_some {v x : Int} (h : M.fit v = some x) : fitV v = .tuple #[.int .i64 x, .int .i64 0] := by unfold fitV; rw [h]
theorem fitV_none {v : Int} (h : M.fit v = none) : fitV v = .tuple #[.int .i64 0, .int .i64 10] := by unfold fitV; rw [h]

set_option maxHeartbeats 1600000 in
theorem fits4_any (h : Int) (l : Nat) (w : World) (hl : l < 18446744073709551616) :
    Calls Tryz.prog 38 #[wholeV h l] w fun e w' => e = .returned (fitV (M.two h l)) ∧ Qt w w' := by
  have F := M.fit_two h l hl
  have HA := Lib.hid (fun o => (Qt.refl w).alloc o)
  by_cases h0 : h = 0
  · subst h0
    by_cases hl2 : l < 9223372036854775808
    · rw [if_pos ⟨rfl, hl2⟩] at F
      have E := Lib.hid (fitV_some F)
      have hd : decide ((l : Int) < 9223372036854775808) = true := decide_eq_true (by omega)
      have W : wrap64 (l : Int) = (l : Int) := by unfold wrap64; omega
      clear F hl2 hl
      go_enter Tryz.func38, Tryz.ntmps38
      go_wp2
      go_ret2
      exact ⟨by rw [E.out]; exact ret_2 W rfl, HA.out _⟩
    · rw [if_neg (by omega), if_neg (by omega)] at F
      have E := Lib.hid (fitV_none F)
      have hd : decide ((l : Int) < 9223372036854775808) = false := decide_eq_false (by omega)
      clear F hl2 hl
      go_enter Tryz.func38, Tryz.ntmps38
      go_wp2
      go_ret2
      exact ⟨by rw [E.out]; rfl, HA.out _⟩
  · have e0 : (h == 0) = false := by rw [beq_eq_false_iff_ne]; exact h0
    by_cases h1 : h = -1
    · subst h1
      by_cases hl2 : l < 9223372036854775808
      · rw [if_neg (by omega), if_neg (by omega)] at F
        have E := Lib.hid (fitV_none F)
        have hd : decide ((9223372036854775808 : Int) ≤ (l : Int)) = false := decide_eq_false (by omega)
        clear F hl2 hl
        go_enter Tryz.func38, Tryz.ntmps38
        go_wp2
        go_ret2
        exact ⟨by rw [E.out]; rfl, HA.out _⟩
      · rw [if_neg (by omega), if_pos (by omega)] at F
        have E := Lib.hid (fitV_some F)
        have hd : decide ((9223372036854775808 : Int) ≤ (l : Int)) = true := decide_eq_true (by omega)
        have W : wrap64 (l : Int) = (l : Int) - 18446744073709551616 := by unfold wrap64; omega
        clear F hl2 hl
        go_enter Tryz.func38, Tryz.ntmps38
        go_wp2
        go_ret2
        exact ⟨by rw [E.out]; exact ret_2 W rfl, HA.out _⟩
    · have e1 : (h == -1) = false := by rw [beq_eq_false_iff_ne]; exact h1
      rw [if_neg (by omega), if_neg (by omega)] at F
      have E := Lib.hid (fitV_none F)
      clear F h0 h1
      go_enter Tryz.func38, Tryz.ntmps38
      go_wp2
      go_ret2
      exact ⟨by rw [E.out]; rfl, HA.out _⟩

theorem fitV_shape (v : Int) : ∃ x y : Int, fitV v = .tuple #[.int .i64 x, .int .i64 y] := by
  unfold fitV
  cases M.fit v with
  | none => exact ⟨_, _, rfl⟩
  | some x => exact ⟨_, _, rfl⟩
theorem hiOf_range (x : Int) : -1 ≤ hiOf x ∧ hiOf x ≤ 0 := by unfold hiOf; split <;> omega

set_option maxHeartbeats 1600000 in
theorem refAdd_any (a b : Int) (w : World) (a0 : -9223372036854775808 ≤ a) (a1 : a < 9223372036854775808) (b0 : -9223372036854775808 ≤ b) (b1 : b < 9223372036854775808) :
    Calls Tryz.prog 14 #[.int .i64 a, .int .i64 b] w fun e w' => e = .returned (fitV (a + b)) ∧ Qt w w' := by
  have WA := Lib.hid (fun W => whole_any a W a0 a1)
  have WB := Lib.hid (fun W => whole_any b W b0 b1)
  obtain ⟨r1, r2⟩ := hiOf_range a
  obtain ⟨r3, r4⟩ := hiOf_range b
  have PL := Lib.hid (fun W => plus_any (hiOf a) (hiOf b) (loOf a) (loOf b) W (by omega) (by omega) (by omega) (by omega) (loOf_lt a) (loOf_lt b))
  rw [two_of a a0 a1, two_of b b0 b1] at PL
  clear a0 a1 b0 b1 r1 r2 r3 r4
  go_enter Tryz.func14, Tryz.ntmps14
  go_wp2_with fail
  refine (WA.out _).mono ?_
  rintro e w1 ⟨rfl, k1⟩
  have K1 := Lib.hid k1; clear k1
  go_wp2_with fail
  refine (WB.out _).mono ?_
  rintro e w2 ⟨rfl, k2⟩
  have K2 := Lib.hid (Qt.trans K1.out k2); clear k2
  go_wp2_with fail
  refine (PL.out _).mono ?_
  rintro e w3 ⟨h, l, rfl, hv, hl, _, _, k3⟩
  have K3 := Lib.hid (Qt.trans K2.out k3)
  have HV := Lib.hid hv
  have HL := Lib.hid hl
  clear k3 hv hl
  go_wp2_with fail
  refine (fits4_any h l _ HL.out).mono ?_
  rintro e w4 ⟨rfl, k4⟩
  have K4 := Lib.hid (Qt.trans K3.out k4); clear k4
  rw [HV.out]
  obtain ⟨x, y, hxy⟩ := fitV_shape (a + b)
  rw [hxy]
  go_wp2
  go_ret2
  exact ⟨by rw [hxy]; rfl, K4.out⟩

theorem minus_two (b : Int) (b0 : -9223372036854775808 ≤ b) (b1 : b < 9223372036854775808) : M.two (-1 - hiOf b) (18446744073709551615 - loOf b) = -b - 1 := by
  have h := two_of b b0 b1
  have hl := loOf_lt b
  unfold M.two at h ⊢
  omega
theorem not64 (l : Nat) (h : l < 18446744073709551616) : bits .xor .u64 IntKind.u64.max (l : Int) = ((18446744073709551615 - l : Nat) : Int) := by
  have h1 := u64_xor_nat 18446744073709551615 l (by decide) h
  have h2 : IntKind.u64.max = ((18446744073709551615 : Nat) : Int) := by decide
  rw [h2, h1]
  congr 1
  apply Nat.eq_of_testBit_eq
  intro i
  have h3 := Nat.testBit_two_pow_sub_succ (x := l) (n := 64) h i
  rw [show 2 ^ 64 - (l + 1) = 18446744073709551615 - l by omega] at h3
  rw [h3, Nat.testBit_xor, show (18446744073709551615 : Nat) = 2 ^ 64 - 1 from rfl, Nat.testBit_two_pow_sub_one]
  by_cases hi : i < 64
  · rw [decide_eq_true hi]; simp
  · rw [decide_eq_false hi]
    have : l.testBit i = false := Nat.testBit_lt_two_pow (Nat.lt_of_lt_of_le h (show 18446744073709551616 ≤ 2 ^ i from Nat.pow_le_pow_right (n := 2) (by decide) (show 64 ≤ i by omega)))
    rw [this]; rfl
theorem field0 (h l : Int) (W : World) : (Instr.field 72 (.agg #[.int .i64 h, .int .u64 l]) 0).run Tryz.prog W = .ok (.int .i64 h) W := by
  simp [Instr.field, run_underlying Tryz.underlying72, part, asAgg]
theorem field1 (h l : Int) (W : World) : (Instr.field 72 (.agg #[.int .i64 h, .int .u64 l]) 1).run Tryz.prog W = .ok (.int .u64 l) W := by
  simp [Instr.field, run_underlying Tryz.underlying72, part, asAgg]

set_option maxHeartbeats 3200000 in
theorem refSub_any (a b : Int) (w : World) (a0 : -9223372036854775808 ≤ a) (a1 : a < 9223372036854775808) (b0 : -9223372036854775808 ≤ b) (b1 : b < 9223372036854775808) :
    Calls Tryz.prog 16 #[.int .i64 a, .int .i64 b] w fun e w' => e = .returned (fitV (a - b)) ∧ Qt w w' := by
  have WA := Lib.hid (fun W => whole_any a W a0 a1)
  have WB := Lib.hid (fun W => whole_any b W b0 b1)
  have W1 := Lib.hid (fun W => whole_any 1 W (by decide) (by decide))
  rw [show hiOf 1 = 0 from rfl, show loOf 1 = 1 from rfl] at W1
  obtain ⟨r1, r2⟩ := hiOf_range a
  obtain ⟨r3, r4⟩ := hiOf_range b
  have hb := loOf_lt b
  have PM := Lib.hid (fun W => plus_any (-1 - hiOf b) 0 (18446744073709551615 - loOf b) 1 W (by omega) (by omega) (by omega) (by omega) (by omega) (by omega))
  rw [minus_two b b0 b1, show M.two 0 1 = 1 from rfl] at PM
  have NB := not64 (loOf b) hb
  have PL := Lib.hid (fun W h l (q1 : -1 ≤ h) (q2 : h ≤ 1) (q3 : l < 18446744073709551616) => plus_any (hiOf a) h (loOf a) l W (by omega) (by omega) (by omega) (by omega) (loOf_lt a) q3)
  rw [two_of a a0 a1] at PL
  generalize 18446744073709551615 - loOf b = lb at *
  clear a0 a1 b0 b1 r1 r2 hb
  have f0 := fun W => field0 (hiOf b) (loOf b) W
  have f1 := fun W => field1 (hiOf b) (loOf b) W
  go_enter Tryz.func16, Tryz.ntmps16
  go_wp2_with fail
  refine (WB.out _).mono ?_
  rintro e w1 ⟨rfl, k1⟩
  have K1 := Lib.hid k1; clear k1
  go_wp2_with fail
  refine (WB.out _).mono ?_
  rintro e w2 ⟨rfl, k2⟩
  have K2 := Lib.hid (Qt.trans K1.out k2); clear k2
  go_wp2_with fail
  refine (W1.out _).mono ?_
  rintro e w3 ⟨rfl, k3⟩
  have K3 := Lib.hid (Qt.trans K2.out k3); clear k3
  go_wp2_with fail
  refine (PM.out _).mono ?_
  rintro e w4 ⟨h, l, rfl, hv, hl, hh1, hh2, k4⟩
  have K4 := Lib.hid (Qt.trans K3.out k4)
  have HV := Lib.hid hv
  have HL := Lib.hid hl
  clear k4 hv hl
  have hcell := fun (cs : Array Value) (T : TypeId) W' (kq : Qt (w4.alloc (.cells cs T)).drew W') (i : Nat) (v : Value) (hv : cs[i]? = some v) => show W'.cell? ⟨w4.heap.size, i, none⟩ = some v from
    kq.cellv (by show (w4.alloc _).cell? _ = _; rw [cell_of_row _ _ _ _ _ _ (heap_alloc_new w4 _)]; exact hv)
  have HC := Lib.hid (fun W' (kq : Qt (w4.alloc (.cells #[.int .i64 h, .int .u64 l] 72)).drew W') => (show W'.cell? ⟨w4.heap.size, 0, none⟩ = some (.int .i64 h) ∧ W'.cell? ⟨w4.heap.size, 1, none⟩ = some (.int .u64 l) from ⟨hcell _ _ W' kq 0 _ rfl, hcell _ _ W' kq 1 _ rfl⟩))
  have HK := Lib.hid (show Qt w (w4.alloc (.cells #[.int .i64 h, .int .u64 l] 72)).drew from (K4.out.alloc _).drew)
  have hh3 : -1 ≤ h := by omega
  have hh4 : h ≤ 1 := by omega
  clear hcell hh1 hh2
  go_wp2
  go_region_held3 (fun W' => W'.cell? ⟨w4.heap.size, 0, none⟩ = some (.int .i64 h) ∧ W'.cell? ⟨w4.heap.size, 1, none⟩ = some (.int .u64 l))
    (first | go_keep | exact HC.out _ kA | exact HC.out _ (Qt.trans kA kP) | exact HC.out _ (Qt.trans (Qt.trans kA kP) kF))
    (first | (go_at_call 40; (with_reducible refine (WA.out _).mono ?_); rintro e wA ⟨rfl, kA⟩) | (go_at_call 39; (with_reducible refine (PL.out _ h l hh3 hh4 HL.out).mono ?_); rintro e wP ⟨hx, lx, rfl, hvx, hlx, hy1, hy2, kP⟩) | (go_at_call 38; (with_reducible refine (fits4_any hx lx _ hlx).mono ?_); rintro e wF ⟨rfl, kF⟩; obtain ⟨x, y, hxy⟩ := fitV_shape (M.two hx lx); rw [hxy]))
  have fin := Lib.hid (Qt.trans HK.out (Qt.trans (Qt.trans kA kP) kF))
  have HF := Lib.hid (show fitV (a - b) = .tuple #[.int .i64 x, .int .i64 y] by rw [← hxy, hvx, HV.out]; congr 1; omega)
  clear kA kP kF hxy hvx
  go_wp2
  go_ret2
  exact ⟨by rw [HF.out]; rfl, fin.out⟩
end Go.Proofs.YtjjlpjfojgkpkaaGreatDoor
namespace Go.Proofs.YtjjlpjfojgkpkaaGreatDoor
open Go.RowKit Go.WideShapes
set_option maxRecDepth 100000

/-- What has been summed. -/
def SumAt (xs : List Int) (g0 : Nat) (w : World) (k : Nat) (wr : World) : Prop :=
  ∃ (h : Int) (l : Nat), k ≤ xs.length ∧ M.two h l = M.sumI (xs.take k) ∧ l < 18446744073709551616 ∧ wr.heap[g0]? = some (.cells #[.int .i64 h, .int .u64 l] 72 (0, 0)) ∧ Since w.heap.size w wr

theorem two_bound {xs : List Int} {k : Nat} {h : Int} {l : Nat} (h2 : M.two h l = M.sumI (xs.take k)) (hl : l < 18446744073709551616) (hx : ∀ x ∈ xs, -9223372036854775808 ≤ x ∧ x < 9223372036854775808) (hle : xs.length ≤ 17592186044416) (hk : k ≤ xs.length) : -17592186044417 ≤ h ∧ h ≤ 17592186044417 := by
  have hb := M.sumI_bound (xs.take k) 9223372036854775808 (fun x hm => by have := hx x (List.mem_of_mem_take hm); omega)
  rw [← h2, List.length_take, Nat.min_eq_left hk] at hb
  unfold M.two at hb
  omega

theorem sum_snoc {xs : List Int} {k : Nat} {v x : Int} (h : v = M.sumI (xs.take k)) (hx : xs[k]? = some x) : v + x = M.sumI (xs.take (k + 1)) := by
  obtain ⟨hk, rfl⟩ := List.getElem?_eq_some_iff.1 hx
  rw [List.take_succ_eq_append_getElem hk, M.sumI_append, ← h]
  simp [M.sumI]

theorem set_two {w : World} {g : Nat} {a b : Value} {T : TypeId} {fz : Nat × Nat} (h : w.heap[g]? = some (.cells #[a, b] T fz)) (a' b' : Value) : ((w.setCell ⟨g, 0, none⟩ a').setCell ⟨g, 1, none⟩ b').heap[g]? = some (.cells #[a', b'] T fz) := by
  have h1 : (w.setCell ⟨g, 0, none⟩ a').heap[g]? = some (.cells #[a', b] T fz) := by
    rw [setCell_eq_setRow w g 0 _ _ _ _ h]
    exact setRow_heap w g _ _ _ _ h
  rw [setCell_eq_setRow _ g 1 _ _ _ _ h1]
  exact setRow_heap _ g _ _ _ _ h1
theorem sum_more {xs : List Int} {k : Nat} {w wr W : World} {h hx : Int} {l lx : Nat} (hb : wr.heap[w.heap.size]? = some (.cells #[.int .i64 h, .int .u64 l] 72 (0, 0))) (hs : Since w.heap.size w wr) (hk : k < xs.length)
    (e : M.two hx lx = M.sumI (xs.take (k + 1))) (hl : lx < 18446744073709551616) (q : Qt wr W) : SumAt xs w.heap.size w (k + 1) ((W.setCell ⟨w.heap.size, 0, none⟩ (.int .i64 hx)).setCell ⟨w.heap.size, 1, none⟩ (.int .u64 lx)) := by
  have hW : W.heap[w.heap.size]? = some (.cells #[.int .i64 h, .int .u64 l] 72 (0, 0)) := (q.block _ (lt_of_block hb) (fun e => e)).trans hb
  exact ⟨hx, lx, hk, e, hl, set_two hW _ _, ((hs.step q (fun _ e => e.elim)).setCell (fun hlt => by simp only at hlt; omega) _).setCell (fun hlt => by simp only at hlt; omega) _⟩

set_option maxHeartbeats 3200000 in
theorem refSum4_any (v : Value) (g off : Nat) (xs : List Int) (w : World) (hv : IntsAt .i64 w v g off xs) (hx : ∀ x ∈ xs, -9223372036854775808 ≤ x ∧ x < 9223372036854775808) :
    Calls Tryz.prog 18 #[v] w fun e w' => e = .returned (fitV (M.sumI xs)) ∧ Qt w w' := by
  obtain ⟨a, cap, rfl, ha⟩ := hv.val
  have hle := hv.le
  have HV := Lib.hid (fun W (q : Since w.heap.size w W) => hv.since q)
  have HX := Lib.hid hx
  have HA := Lib.hid ha
  clear hv hx ha
  go_enter Tryz.func18, Tryz.ntmps18
  go_wp2
  go_loopw [5] (fun i wr => ∃ k : Nat, i = .int .i64 k ∧ SumAt xs w.heap.size w k wr) (fun i _ => xs.length - (intOf i).toNat)
  case atStart => exact ⟨0, rfl, 0, 0, Nat.zero_le _, rfl, by decide, heap_alloc_new w _, Keeps.alloc (Keeps.refl _ _) _⟩
  case round =>
    obtain ⟨k, rfl, h, l, hk, h2, hl, hb, hs⟩ := hrel
    have hbd := two_bound h2 hl HX.out hle hk
    have H2 := Lib.hid h2
    have HS := Lib.hid hs
    have HB := Lib.hid hb
    by_cases hlt : k < xs.length
    · obtain ⟨x, hxk⟩ : ∃ x, xs[k]? = some x := ⟨xs[k], List.getElem?_eq_getElem hlt⟩
      have hcx := (HV.out wr hs).cells k x hxk
      have hxb := HX.out x (List.mem_of_getElem? hxk)
      obtain rfl := HA.out (fun e => by rw [e] at hlt; simp at hlt)
      have hc := fun W (q : Qt wr W) => (show W.heap[w.heap.size]? = some (.cells #[.int .i64 h, .int .u64 l] 72 (0, 0)) from (q.block _ (lt_of_block hb) (fun e => e)).trans hb)
      have HC := Lib.hid (fun W (q : Qt wr W) => (show (W.cell? ⟨w.heap.size, 0, none⟩ = some (.int .i64 h) ∧ W.cell? ⟨w.heap.size, 1, none⟩ = some (.int .u64 l) ∧ W.cell? ⟨g, off + k, none⟩ = some (.int .i64 x)) ∧ W.frozen? ⟨w.heap.size, 0, none⟩ = false ∧ W.frozen? ⟨w.heap.size, 1, none⟩ = false from
        ⟨⟨by rw [cell_of_row _ _ _ _ _ _ (hc W q)]; rfl, by rw [cell_of_row _ _ _ _ _ _ (hc W q)]; rfl, q.cellv hcx⟩, by simp [World.frozen?, hc W q], by simp [World.frozen?, hc W q]⟩))
      have c0 := HC.out wr (Qt.refl wr)
      have WX := Lib.hid (fun W => whole_any x W hxb.1 hxb.2)
      have PX := Lib.hid (fun W => plus_any h (hiOf x) l (loOf x) W (by omega) (by omega) (by have := hiOf_range x; omega) (by have := hiOf_range x; omega) hl (loOf_lt x))
      rw [two_of x hxb.1 hxb.2] at PX
      have FN := Lib.hid (fun W (q : Qt wr W) hx lx (e : M.two hx lx = M.two h l + x) (e2 : lx < 18446744073709551616) => sum_more hb hs hlt (e.trans (sum_snoc h2 hxk)) e2 q)
      clear hb hs h2 hbd hcx hxb hxk hc
      obtain ⟨⟨c1, c2, c3⟩, c4, c5⟩ := c0
      go_wp2
      go_region_law (first | (go_simp; go_at_call 40; refine (WX.out _).mono ?_; rintro e wA ⟨rfl, kA⟩; obtain ⟨⟨d1, d2, d3⟩, d4, d5⟩ := HC.out _ (Qt.trans (Keeps.drew (Qt.refl wr)) kA)) | (go_simp; go_at_call 39; refine (PX.out _).mono ?_; rintro e wP ⟨hx, lx, rfl, hvx, hlx, hy1, hy2, kP⟩; obtain ⟨⟨e1, e2, e3⟩, e4, e5⟩ := HC.out _ (Qt.trans (Qt.trans (Keeps.drew (Qt.refl wr)) kA) kP)))
      all_goals
        have Fin := Lib.hid (FN.out wP (Qt.trans (Qt.trans (Keeps.drew (Qt.refl wr)) kA) kP) hx lx hvx hlx)
        clear kA kP hvx hlx hy1 hy2 d1 d2 d3 d4 d5 e1 e2 e3 e4 e5 c1 c2 c3 c4 c5
        go_wp2
        go_roundw
        case rel => exact ⟨k + 1, by go_num, Fin.out⟩
        case measure => simp [intOf]; omega
    · obtain rfl : k = xs.length := by omega
      rw [List.take_length] at H2
      have q0 : Qt w wr := hs.qt
      have c1 : wr.cell? ⟨w.heap.size, 0, none⟩ = some (.int .i64 h) := by rw [cell_of_row _ _ _ _ _ _ hb]; rfl
      have c2 : wr.cell? ⟨w.heap.size, 1, none⟩ = some (.int .u64 l) := by rw [cell_of_row _ _ _ _ _ _ hb]; rfl
      have FA := Lib.hid (fun W => fits4_any h l W hl)
      have Q0 := Lib.hid q0
      clear hb hs h2 hbd q0 hlt
      go_wp2_with fail
      refine (FA.out _).mono ?_
      rintro e w4 ⟨rfl, k4⟩
      have K4 := Lib.hid (Qt.trans Q0.out k4); clear k4
      rw [H2.out]
      obtain ⟨x, y, hxy⟩ := fitV_shape (M.sumI xs)
      rw [hxy]
      go_wp2
      go_ret2
      exact ⟨by rw [hxy]; rfl, K4.out⟩
end Go.Proofs.YtjjlpjfojgkpkaaGreatDoor
namespace Go.Proofs.YtjjlpjfojgkpkaaGreatDoor
open Go.RowKit Go.WideShapes
set_option maxRecDepth 100000

def rateV (a n : Int) : Value := if n < 0 ∨ 10000 < n then .tuple #[.int .i64 0, .int .i64 6] else .tuple #[.int .i64 (M.rate a n.toNat), .int .i64 0]

set_option maxHeartbeats 3200000 in
theorem refRate_any (a n : Int) (w : World) (a0 : -9223372036854775808 ≤ a) (a1 : a < 9223372036854775808) (n0 : -9223372036854775808 ≤ n) (n1 : n < 9223372036854775808) :
    Calls Tryz.prog 19 #[.int .i64 a, .int .i64 n] w fun e w' => e = .returned (rateV a n) ∧ w = w' := by
  by_cases hn : n < 0 ∨ 10000 < n
  · have HR := Lib.hid (show rateV a n = .tuple #[.int .i64 0, .int .i64 6] from if_pos hn)
    rcases hn with hn | hn
    all_goals
      go_enter Tryz.func19, Tryz.ntmps19
      go_wp2
      go_ret2
      exact ⟨by rw [HR.out]; rfl, rfl⟩
  · have HR := Lib.hid (show rateV a n = .tuple #[.int .i64 (M.rate a n.toNat), .int .i64 0] from if_neg hn)
    obtain ⟨m, rfl⟩ := Int.eq_ofNat_of_zero_le (show 0 ≤ n by omega)
    have hm : m ≤ 10000 := by omega
    clear hn n0 n1
    have hq : a.natAbs * m / 10000 < 18446744073709551616 := by
      have := Nat.mul_le_mul_left a.natAbs hm
      omega
    have TI := Lib.hid (fun W => times_any a.natAbs m 10000 W (by omega) (by omega) (by decide) (by decide) hq)
    have hnear : M.near (a.natAbs * m) ≤ 9223372036854775808 := by have := M.near_le a.natAbs m hm; omega
    have hnl : M.near (a.natAbs * m) ≤ a.natAbs := M.near_le a.natAbs m hm
    rw [Int.toNat_natCast] at HR
    unfold M.rate at HR
    have hcs := near_cases (a.natAbs * m)
    have hr := Nat.mod_lt (a.natAbs * m) (show 0 < 10000 by decide)
    generalize M.near (a.natAbs * m) = z at *
    generalize a.natAbs * m / 10000 = q at *
    generalize a.natAbs * m % 10000 = r at *
    by_cases ha : a < 0
    · rw [if_pos ha] at HR
      have W1 : IntKind.u64.wrap (-IntKind.u64.wrap a) = (a.natAbs : Int) := by rw [IntKind.wrap_u64, IntKind.wrap_u64]; omega
      have hxb : a.natAbs ≤ 9223372036854775808 := by omega
      generalize a.natAbs = x at *
      rcases hcs with ⟨c1, hz⟩ | ⟨c1, c2, hz⟩ | ⟨c1, c2, hz⟩ | ⟨c1, hz⟩
      · subst hz
        have b1 : decide (10000 < 2 * (r : Int)) = true := decide_eq_true (by omega)
        have W2 : wrap64 (IntKind.u64.wrap (-((q : Int) + 1))) = -((q : Int) + 1) := by rw [IntKind.wrap_u64]; unfold wrap64; omega
        clear c1
        go_enter Tryz.func19, Tryz.ntmps19
        go_wp2_with fail
        refine (TI.out _).mono ?_
        rintro e w1 ⟨rfl, rfl⟩
        go_wp2
        go_ret2
        exact ⟨by rw [HR.out]; exact ret_2 (W2.trans (by omega)) rfl, rfl⟩
      · subst hz
        have b1 : decide (10000 < 2 * (r : Int)) = false := decide_eq_false (by omega)
        have b2 : (2 * (r : Int) == 10000) = true := by rw [beq_iff_eq]; omega
        have b3 : ((q : Int) % 2 == 1) = true := by rw [beq_iff_eq]; omega
        have W2 : wrap64 (IntKind.u64.wrap (-((q : Int) + 1))) = -((q : Int) + 1) := by rw [IntKind.wrap_u64]; unfold wrap64; omega
        clear c1 c2
        go_enter Tryz.func19, Tryz.ntmps19
        go_wp2_with fail
        refine (TI.out _).mono ?_
        rintro e w1 ⟨rfl, rfl⟩
        go_wp2
        go_ret2
        exact ⟨by rw [HR.out]; exact ret_2 (W2.trans (by omega)) rfl, rfl⟩
      · subst hz
        have b1 : decide (10000 < 2 * (r : Int)) = false := decide_eq_false (by omega)
        have b2 : (2 * (r : Int) == 10000) = true := by rw [beq_iff_eq]; omega
        have b3 : ((z : Int) % 2 == 1) = false := by rw [beq_eq_false_iff_ne]; omega
        have W2 : wrap64 (IntKind.u64.wrap (-(z : Int))) = -(z : Int) := by rw [IntKind.wrap_u64]; unfold wrap64; omega
        clear c1 c2
        go_enter Tryz.func19, Tryz.ntmps19
        go_wp2_with fail
        refine (TI.out _).mono ?_
        rintro e w1 ⟨rfl, rfl⟩
        go_wp2
        go_ret2
        exact ⟨by rw [HR.out]; exact ret_2 (W2.trans (by omega)) rfl, rfl⟩
      · subst hz
        have b1 : decide (10000 < 2 * (r : Int)) = false := decide_eq_false (by omega)
        have b2 : (2 * (r : Int) == 10000) = false := by rw [beq_eq_false_iff_ne]; omega
        have W2 : wrap64 (IntKind.u64.wrap (-(z : Int))) = -(z : Int) := by rw [IntKind.wrap_u64]; unfold wrap64; omega
        clear c1
        go_enter Tryz.func19, Tryz.ntmps19
        go_wp2_with fail
        refine (TI.out _).mono ?_
        rintro e w1 ⟨rfl, rfl⟩
        go_wp2
        go_ret2
        exact ⟨by rw [HR.out]; exact ret_2 (W2.trans (by omega)) rfl, rfl⟩
    · rw [if_neg ha] at HR
      have W1 : IntKind.u64.wrap a = (a.natAbs : Int) := by rw [IntKind.wrap_u64]; omega
      have hxb : a.natAbs ≤ 9223372036854775807 := by omega
      have ha2 : (a.natAbs : Int) = a := by omega
      have ha3 : 0 ≤ a := by omega
      rw [ha2] at W1 TI
      generalize a.natAbs = x at *
      rcases hcs with ⟨c1, hz⟩ | ⟨c1, c2, hz⟩ | ⟨c1, c2, hz⟩ | ⟨c1, hz⟩
      · subst hz
        have b1 : decide (10000 < 2 * (r : Int)) = true := decide_eq_true (by omega)
        have W2 : wrap64 ((q : Int) + 1) = ((q : Int) + 1) := by unfold wrap64; omega
        clear c1
        go_enter Tryz.func19, Tryz.ntmps19
        go_wp2_with fail
        refine (TI.out _).mono ?_
        rintro e w1 ⟨rfl, rfl⟩
        go_wp2
        go_ret2
        exact ⟨by rw [HR.out]; exact ret_2 (by omega) rfl, rfl⟩
      · subst hz
        have b1 : decide (10000 < 2 * (r : Int)) = false := decide_eq_false (by omega)
        have b2 : (2 * (r : Int) == 10000) = true := by rw [beq_iff_eq]; omega
        have b3 : ((q : Int) % 2 == 1) = true := by rw [beq_iff_eq]; omega
        have W2 : wrap64 ((q : Int) + 1) = ((q : Int) + 1) := by unfold wrap64; omega
        clear c1 c2
        go_enter Tryz.func19, Tryz.ntmps19
        go_wp2_with fail
        refine (TI.out _).mono ?_
        rintro e w1 ⟨rfl, rfl⟩
        go_wp2
        go_ret2
        exact ⟨by rw [HR.out]; exact ret_2 (by omega) rfl, rfl⟩
      · subst hz
        have b1 : decide (10000 < 2 * (r : Int)) = false := decide_eq_false (by omega)
        have b2 : (2 * (r : Int) == 10000) = true := by rw [beq_iff_eq]; omega
        have b3 : ((z : Int) % 2 == 1) = false := by rw [beq_eq_false_iff_ne]; omega
        have W2 : wrap64 (z : Int) = (z : Int) := by unfold wrap64; omega
        clear c1 c2
        go_enter Tryz.func19, Tryz.ntmps19
        go_wp2_with fail
        refine (TI.out _).mono ?_
        rintro e w1 ⟨rfl, rfl⟩
        go_wp2
        go_ret2
        exact ⟨by rw [HR.out]; exact ret_2 (by omega) rfl, rfl⟩
      · subst hz
        have b1 : decide (10000 < 2 * (r : Int)) = false := decide_eq_false (by omega)
        have b2 : (2 * (r : Int) == 10000) = false := by rw [beq_eq_false_iff_ne]; omega
        have W2 : wrap64 (z : Int) = (z : Int) := by unfold wrap64; omega
        clear c1
        go_enter Tryz.func19, Tryz.ntmps19
        go_wp2_with fail
        refine (TI.out _).mono ?_
        rintro e w1 ⟨rfl, rfl⟩
        go_wp2
        go_ret2
        exact ⟨by rw [HR.out]; exact ret_2 (by omega) rfl, rfl⟩
end Go.Proofs.YtjjlpjfojgkpkaaGreatDoor
