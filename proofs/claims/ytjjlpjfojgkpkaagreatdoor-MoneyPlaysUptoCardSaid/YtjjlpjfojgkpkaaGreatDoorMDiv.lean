/-
  The contract of the library's Div64: two words divided by one.
-/
import Derived.Test.YtjjlpjfojgkpkaaGreatDoorQt
import Derived.Test.YtjjlpjfojgkpkaaGreatDoorMDivS
import Derived.Laws.BitsAllLaws
import Derived.Laws.Shifts
import Derived.Lib.ItoaNum
import Derived.Lib.Mul64
import Derived.Laws.Bits64b
import Derived.LoopTactic
import Derived.WalkLawsBesides
import Derived.Outline
import Derived.RegionTactic
import Derived.Deep.CutBlock
import Derived.Deep.DeepCutAuto
import Derived.Test.YtjjlpjfojgkpkaaGreatDoorShelf
namespace Go.Proofs.YtjjlpjfojgkpkaaGreatDoor
open Go.RowKit Go.WideShapes Go.Shelf
set_option maxRecDepth 100000

theorem retU2 {k k' : IntKind} {a b c d : Int} (h : a = b) (h' : c = d) : Ending.returned (.tuple #[.int k a, .int k' c]) = .returned (.tuple #[.int k b, .int k' d]) := by rw [h, h']
/-- The places ahead of the first bit. -/
theorem lead_any (y : Nat) (w : World) (h0 : 0 < y) (h1 : y < 18446744073709551616) :
    ∃ s : Nat, s ≤ 63 ∧ 9223372036854775808 ≤ y * 2 ^ s ∧ y * 2 ^ s < 18446744073709551616 ∧ Calls Tryz.prog 96 #[.int .u64 y] w fun e w' => e = .returned (.int .i64 (s : Nat)) ∧ w' = w := by
  obtain ⟨b1, b2, b3⟩ := Lib.bitLenAux_bounds 64 y (by simpa using h1) (by omega)
  have b4 : Lib.bitLenAux 64 y ≤ 64 := Lib.bitLenAux_le 64 y 64 (by simpa using h1)
  have hc := Tryz.bits_LeadingZeros64 (y : Int) w (by omega) (by omega)
  have e : Lib.bitLen (y : Int).toNat = Lib.bitLenAux 64 y := rfl
  rw [e] at hc
  generalize Lib.bitLenAux 64 y = L at *
  refine ⟨64 - L, by omega, ?_, ?_, ?_⟩
  · have := Nat.mul_le_mul_right (2 ^ (64 - L)) b2
    rw [← Nat.pow_add, show L - 1 + (64 - L) = 63 by omega] at this
    simpa using this
  · have := Nat.mul_lt_mul_of_pos_right b3 (Nat.pow_pos (n := 64 - L) (show 0 < 2 by decide))
    rw [← Nat.pow_add, show L + (64 - L) = 64 by omega] at this
    simpa using this
  · refine Calls.mono hc ?_
    rintro e w' ⟨rfl, rfl⟩
    refine ⟨?_, rfl⟩
    rw [show (64 : Int) - (L : Int) = ((64 - L : Nat) : Int) by omega]

set_option maxHeartbeats 3200000 in
theorem div64_any (hi lo y : Nat) (w : World) (hlo : lo < 18446744073709551616) (hy : y < 18446744073709551616) (hhi : hi < y) :
    Calls Tryz.prog 63 #[.int .u64 hi, .int .u64 lo, .int .u64 y] w fun e w' => e = .returned (.tuple #[.int .u64 (((hi * 18446744073709551616 + lo) / y : Nat) : Int), .int .u64 (((hi * 18446744073709551616 + lo) % y : Nat) : Int)]) ∧ Qt w w' := by
  by_cases h0 : hi = 0
  · subst h0
    rw [Nat.zero_mul, Nat.zero_add]
    have hyp : (0 : Int) < (y : Int) := by omega
    have b1 : ((y : Int) == 0) = false := by rw [beq_eq_false_iff_ne]; omega
    have b2 : decide ((y : Int) ≤ 0) = false := decide_eq_false (by omega)
    have EW := Lib.hid (show IntKind.u64.wrap ((lo : Int) / (y : Int)) = ((lo / y : Nat) : Int) by
      have h := Nat.div_le_self lo y
      rw [← Int.natCast_ediv, IntKind.wrap_u64]
      generalize lo / y = z at *
      omega)
    go_enter Tryz.func63, Tryz.ntmps63
    go_wp2
    go_quiet (fail)
    go_wp2
    go_ret2
    exact ⟨retU2 EW.out rfl, (Qt.refl w).drewN _⟩
  · obtain ⟨s, hs, hy1, hy2, hl⟩ := lead_any y w (by omega) hy
    have HL := Lib.hid hl
    clear hl
    obtain ⟨yn, hyn⟩ : ∃ yn, y * 2 ^ s = yn := ⟨_, rfl⟩
    have EY : IntKind.u64.wrap ((y : Int) * 2 ^ s) = (yn : Int) := by
      rw [IntKind.wrap_u64, ← hyn]
      have : ((y * 2 ^ s : Nat) : Int) = (y : Int) * 2 ^ s := by push_cast; rfl
      omega
    have HYN := Lib.hid hyn
    rw [hyn] at hy1 hy2
    clear hyn
    obtain ⟨y1, hy1e⟩ : ∃ y1, yn / 4294967296 = y1 := ⟨_, rfl⟩
    obtain ⟨y0, hy0e⟩ : ∃ y0, yn % 4294967296 = y0 := ⟨_, rfl⟩
    have EY1 : (yn : Int) / 4294967296 = (y1 : Int) := by omega
    have EY0 : bits .and .u64 (yn : Int) 4294967295 = (y0 : Int) := by
      have h := bits_and_u64_nat yn 4294967295 hy2 (by omega)
      have e : yn &&& 4294967295 = yn % 4294967296 := Nat.and_two_pow_sub_one_eq_mod yn 32
      rw [e, hy0e] at h
      exact h
    have hB1 : 2147483648 ≤ y1 := by omega
    have hB1b : (y1 : Int) ≠ 0 := by omega
    have HY := Lib.hid (show yn = y1 * 4294967296 + y0 by omega)
    have HY0 := Lib.hid (show y0 < 4294967296 by omega)
    clear hy1e hy0e
    obtain ⟨k1, k2, k3, k4⟩ := M.shift_parts hs hlo hhi (by rw [HYN.out]; exact hy2)
    obtain ⟨u, hu⟩ : ∃ u, hi * 2 ^ s + lo / 2 ^ (64 - s) = u := ⟨_, rfl⟩
    obtain ⟨l, hl⟩ : ∃ l, lo * 2 ^ s % 18446744073709551616 = l := ⟨_, rfl⟩
    have EU : bits .or .u64 (IntKind.u64.wrap ((hi : Int) * 2 ^ s)) ((lo : Int) / 2 ^ (64 - s)) = (u : Int) := by
      have e1 : IntKind.u64.wrap ((hi : Int) * 2 ^ s) = ((hi * 2 ^ s : Nat) : Int) := by
        have : ((hi * 2 ^ s : Nat) : Int) = (hi : Int) * 2 ^ s := by push_cast; rfl
        rw [← this, IntKind.wrap_u64]; omega
      have e2 : (lo : Int) / 2 ^ (64 - s) = ((lo / 2 ^ (64 - s) : Nat) : Int) := by push_cast; rfl
      rw [e1, e2, u64_or_nat _ _ k1 (Nat.lt_of_lt_of_le k2 (Nat.le_trans (Nat.pow_le_pow_right (by decide) hs) (by decide))), M.or_add k2, hu]
    have EL : IntKind.u64.wrap ((lo : Int) * 2 ^ s) = (l : Int) := by
      have : ((lo * 2 ^ s : Nat) : Int) = (lo : Int) * 2 ^ s := by push_cast; rfl
      rw [← this, IntKind.wrap_u64, ← hl]; omega
    have hl2 : l < 18446744073709551616 := by omega
    rw [hu, HYN.out] at k4
    have KU := Lib.hid (show (hi * 18446744073709551616 + lo) * 2 ^ s = u * 18446744073709551616 + l by rw [k3, hu, hl])
    clear k1 k2 k3 hu hl
    obtain ⟨d1, hd1⟩ : ∃ d1, l / 4294967296 = d1 := ⟨_, rfl⟩
    obtain ⟨d0, hd0⟩ : ∃ d0, l % 4294967296 = d0 := ⟨_, rfl⟩
    have EL1 : (l : Int) / 4294967296 = (d1 : Int) := by omega
    have EL0 : bits .and .u64 (l : Int) 4294967295 = (d0 : Int) := by
      have h := bits_and_u64_nat l 4294967295 hl2 (by omega)
      have e : l &&& 4294967295 = l % 4294967296 := Nat.and_two_pow_sub_one_eq_mod l 32
      rw [e, hd0] at h
      exact h
    have HL2 := Lib.hid (show l = d1 * 4294967296 + d0 by omega)
    have hd1b : d1 < 4294967296 := by omega
    have hd0b : d0 < 4294967296 := by omega
    clear hd1 hd0
    have hu0 : u < y1 * 4294967296 + y0 := by rw [← HY.out]; exact k4
    have DS := Lib.hid (M.DigAt.start hB1 HY0.out hd1b hu0)
    have hq2 : u / y1 ≤ 4294967297 := DS.out.le
    have hsum := DS.out.sum
    have hr0 : u % y1 < y1 := Nat.mod_lt _ (by omega)
    have hy1b : y1 < 4294967296 := by have := HY.out; omega
    have EQ : IntKind.u64.wrap ((u : Int).tdiv (y1 : Int)) = ((u / y1 : Nat) : Int) := by
      rw [Int.tdiv_eq_ediv_of_nonneg (by omega), ← Int.natCast_ediv, IntKind.wrap_u64]
      generalize u / y1 = z at *
      omega
    have ER : IntKind.u64.wrap ((u : Int) - IntKind.u64.wrap (((u / y1 : Nat) : Int) * (y1 : Int))) = ((u % y1 : Nat) : Int) := by
      rw [← Int.natCast_mul, IntKind.wrap_u64, IntKind.wrap_u64]
      generalize u / y1 * y1 = m at *
      omega
    have b1 : ((y : Int) == 0) = false := by rw [beq_eq_false_iff_ne]; omega
    have b2 : decide ((y : Int) ≤ (hi : Int)) = false := decide_eq_false (by omega)
    have b3 : ((hi : Int) == 0) = false := by rw [beq_eq_false_iff_ne]; omega
    have H1 := Lib.hid (And.intro EQ ER)
    have H2 := Lib.hid (And.intro EU (And.intro EL (And.intro EL1 EL0)))
    clear EQ ER EU EL EL1 EL0 hsum
    go_enter Tryz.func63, Tryz.ntmps63
    go_wp2_with fail
    refine HL.out.mono ?_
    rintro e w1 ⟨rfl, rfl⟩
    go_upto_block 0 with (fail)
    simp only [H2.out.1, H2.out.2.1, H2.out.2.2.1, H2.out.2.2.2, H1.out.1, H1.out.2]
    go_cut [15, 16] from 67 to 85 (fun q r wx => w1 = wx ∧ q = .int .u64 (M.digQ u d1 y1 y0 : Nat) ∧ ∃ x : Int, r = .int .u64 x)
    case first =>
      go_wp2_with fail
      go_loopg [15, 16] (u / y1) (fun g q r wx => w1 = wx ∧ ∃ q0 r0 : Nat, q0 = g ∧ q = .int .u64 (q0 : Nat) ∧ r = .int .u64 r0 ∧ M.DigAt u d1 y1 y0 q0 r0 ∧ r0 < 4294967296)
      case atStart => exact ⟨rfl, u / y1, u % y1, rfl, rfl, rfl, DS.out, Nat.lt_trans hr0 hy1b⟩
      case round =>
        obtain ⟨rfl, q0, r0, rfl, rfl, rfl, hD, hr0⟩ := hrel
        rcases M.dig_round hB1 HY0.out hd1b hu0 hD hr0 with ⟨a1, a2, a3, a4⟩ | ⟨a1, a2, a3⟩
        · have c1 : decide ((4294967296 : Int) ≤ (q0 : Int)) = false := decide_eq_false (by omega)
          obtain ⟨m, hm⟩ : ∃ m, q0 * y0 = m := ⟨_, rfl⟩
          rw [hm] at a3 a4
          have EM : IntKind.u64.wrap ((q0 : Int) * (y0 : Int)) = (m : Int) := by rw [← Int.natCast_mul, hm, IntKind.wrap_u64]; omega
          have c2 : decide (4294967296 * (r0 : Int) + (d1 : Int) < (m : Int)) = false := decide_eq_false (by omega)
          have E := Lib.hid a1
          clear hm a1 a3 a4 hD
          go_wp2
          go_meet
          exact ⟨rfl, by rw [E.out], _, rfl⟩
        · have hD2 := Lib.hid hD
          clear hD
          obtain ⟨p, hp⟩ : ∃ p, q0 - 1 = p := ⟨_, rfl⟩
          have HP := Lib.hid (show p < q0 by omega)
          have EWQ : IntKind.u64.wrap ((q0 : Int) - 1) = (p : Int) := by
            have := hD2.out.le
            rw [IntKind.wrap_u64]; omega
          rw [hp] at a3
          clear a1 hp
          rcases a2 with a2 | ⟨a2, a4, a5⟩
          · have c1 : decide ((4294967296 : Int) ≤ (q0 : Int)) = true := decide_eq_true (by omega)
            rcases a3 with ⟨a6, a7⟩ | ⟨a6, a7⟩
            · have c3 : decide ((4294967296 : Int) ≤ (r0 : Int) + (y1 : Int)) = true := decide_eq_true (by omega)
              have E := Lib.hid a7
              clear a6 a7 a2
              go_wp2
              go_meet
              exact ⟨rfl, by rw [E.out], _, rfl⟩
            · have c3 : decide ((4294967296 : Int) ≤ (r0 : Int) + (y1 : Int)) = false := decide_eq_false (by omega)
              have E := Lib.hid a7
              have E6 := Lib.hid a6
              clear a6 a7 a2
              go_wp2
              go_roundg p
              case measure => exact HP.out
              case rel => exact ⟨rfl, p, r0 + y1, rfl, rfl, by go_num, E.out, E6.out⟩
          · have c1 : decide ((4294967296 : Int) ≤ (q0 : Int)) = false := decide_eq_false (by omega)
            obtain ⟨m, hm⟩ : ∃ m, q0 * y0 = m := ⟨_, rfl⟩
            rw [hm] at a4 a5
            have EM : IntKind.u64.wrap ((q0 : Int) * (y0 : Int)) = (m : Int) := by rw [← Int.natCast_mul, hm, IntKind.wrap_u64]; omega
            have c2 : decide (4294967296 * (r0 : Int) + (d1 : Int) < (m : Int)) = true := decide_eq_true (by omega)
            clear hm a4 a5
            rcases a3 with ⟨a6, a7⟩ | ⟨a6, a7⟩
            · have c3 : decide ((4294967296 : Int) ≤ (r0 : Int) + (y1 : Int)) = true := decide_eq_true (by omega)
              have E := Lib.hid a7
              clear a6 a7
              go_wp2
              go_meet
              exact ⟨rfl, by rw [E.out], _, rfl⟩
            · have c3 : decide ((4294967296 : Int) ≤ (r0 : Int) + (y1 : Int)) = false := decide_eq_false (by omega)
              have E := Lib.hid a7
              have E6 := Lib.hid a6
              clear a6 a7
              go_wp2
              go_roundg p
              case measure => exact HP.out
              case rel => exact ⟨rfl, p, r0 + y1, rfl, rfl, by go_num, E.out, E6.out⟩
    case rest =>
      obtain ⟨rfl, rfl, x1, rfl⟩ := hcut
      obtain ⟨hr1, hr2⟩ := M.digQ_rest (u := u) (d := d1) (y1 := y1) (y0 := y0)
      have hQ1 := M.digQ_lt hd1b hu0
      have KU1 := Lib.hid (show u * 4294967296 + d1 = M.digQ u d1 y1 y0 * yn + (u * 4294967296 + d1) % yn by
        rw [HY.out]; omega)
      have hv : (u * 4294967296 + d1) % yn < yn := Nat.mod_lt _ (by omega)
      have EV : IntKind.u64.wrap (IntKind.u64.wrap (IntKind.u64.wrap ((u : Int) * 4294967296) + (d1 : Int)) - IntKind.u64.wrap ((M.digQ u d1 y1 y0 : Int) * (yn : Int))) = (((u * 4294967296 + d1) % yn : Nat) : Int) := by
        have h := KU1.out
        rw [← Int.natCast_mul]
        generalize M.digQ u d1 y1 y0 * yn = z at *
        generalize (u * 4294967296 + d1) % yn = v at *
        rw [IntKind.wrap_u64, IntKind.wrap_u64, IntKind.wrap_u64, IntKind.wrap_u64]
        omega
      have hv1 : (u * 4294967296 + d1) % yn < y1 * 4294967296 + y0 := by rw [← HY.out]; exact hv
      clear hr1 hr2
      generalize M.digQ u d1 y1 y0 = Q1 at *
      generalize (u * 4294967296 + d1) % yn = v at *
      have hu2 := hv1
      have DS2 := Lib.hid (M.DigAt.start hB1 HY0.out hd0b hv1)
      have hq5 : v / y1 ≤ 4294967297 := DS2.out.le
      have hsum2 := DS2.out.sum
      have hr2 : v % y1 < y1 := Nat.mod_lt _ (by omega)
      have EQ2 : IntKind.u64.wrap ((v : Int).tdiv (y1 : Int)) = ((v / y1 : Nat) : Int) := by
        rw [Int.tdiv_eq_ediv_of_nonneg (by omega), ← Int.natCast_ediv, IntKind.wrap_u64]
        generalize v / y1 = z at *
        omega
      have ER2 : IntKind.u64.wrap ((v : Int) - IntKind.u64.wrap (((v / y1 : Nat) : Int) * (y1 : Int))) = ((v % y1 : Nat) : Int) := by
        rw [← Int.natCast_mul, IntKind.wrap_u64, IntKind.wrap_u64]
        generalize v / y1 * y1 = m at *
        omega
      have H3 := Lib.hid (And.intro EV (And.intro EQ2 ER2))
      clear EV EQ2 ER2 hsum2
      go_upto_block 2 with (fail)
      simp only [H3.out.1, H3.out.2.1, H3.out.2.2]
      go_cut [18, 16] from 102 to 120 (fun q r wx => w1 = wx ∧ q = .int .u64 (M.digQ v d0 y1 y0 : Nat) ∧ ∃ x : Int, r = .int .u64 x)
      case first =>
        go_wp2_with fail
        go_loopg [18, 16] (v / y1) (fun g q r wx => w1 = wx ∧ ∃ q0 r0 : Nat, q0 = g ∧ q = .int .u64 (q0 : Nat) ∧ r = .int .u64 r0 ∧ M.DigAt v d0 y1 y0 q0 r0 ∧ r0 < 4294967296)
        case atStart => exact ⟨rfl, v / y1, v % y1, rfl, rfl, rfl, DS2.out, Nat.lt_trans hr2 hy1b⟩
        case round =>
          obtain ⟨rfl, q0, r0, rfl, rfl, rfl, hD, hr0⟩ := hrel
          rcases M.dig_round hB1 HY0.out hd0b hu2 hD hr0 with ⟨a1, a2, a3, a4⟩ | ⟨a1, a2, a3⟩
          · have c1 : decide ((4294967296 : Int) ≤ (q0 : Int)) = false := decide_eq_false (by omega)
            obtain ⟨m, hm⟩ : ∃ m, q0 * y0 = m := ⟨_, rfl⟩
            rw [hm] at a3 a4
            have EM : IntKind.u64.wrap ((q0 : Int) * (y0 : Int)) = (m : Int) := by rw [← Int.natCast_mul, hm, IntKind.wrap_u64]; omega
            have c2 : decide (4294967296 * (r0 : Int) + (d0 : Int) < (m : Int)) = false := decide_eq_false (by omega)
            have E := Lib.hid a1
            clear hm a1 a3 a4 hD
            go_wp2
            go_meet
            exact ⟨rfl, by rw [E.out], _, rfl⟩
          · have hD2 := Lib.hid hD
            clear hD
            obtain ⟨p, hp⟩ : ∃ p, q0 - 1 = p := ⟨_, rfl⟩
            have HP := Lib.hid (show p < q0 by omega)
            have EWQ : IntKind.u64.wrap ((q0 : Int) - 1) = (p : Int) := by
              have := hD2.out.le
              rw [IntKind.wrap_u64]; omega
            rw [hp] at a3
            clear a1 hp
            rcases a2 with a2 | ⟨a2, a4, a5⟩
            · have c1 : decide ((4294967296 : Int) ≤ (q0 : Int)) = true := decide_eq_true (by omega)
              rcases a3 with ⟨a6, a7⟩ | ⟨a6, a7⟩
              · have c3 : decide ((4294967296 : Int) ≤ (r0 : Int) + (y1 : Int)) = true := decide_eq_true (by omega)
                have E := Lib.hid a7
                clear a6 a7 a2
                go_wp2
                go_meet
                exact ⟨rfl, by rw [E.out], _, rfl⟩
              · have c3 : decide ((4294967296 : Int) ≤ (r0 : Int) + (y1 : Int)) = false := decide_eq_false (by omega)
                have E := Lib.hid a7
                have E6 := Lib.hid a6
                clear a6 a7 a2
                go_wp2
                go_roundg p
                case measure => exact HP.out
                case rel => exact ⟨rfl, p, r0 + y1, rfl, rfl, by go_num, E.out, E6.out⟩
            · have c1 : decide ((4294967296 : Int) ≤ (q0 : Int)) = false := decide_eq_false (by omega)
              obtain ⟨m, hm⟩ : ∃ m, q0 * y0 = m := ⟨_, rfl⟩
              rw [hm] at a4 a5
              have EM : IntKind.u64.wrap ((q0 : Int) * (y0 : Int)) = (m : Int) := by rw [← Int.natCast_mul, hm, IntKind.wrap_u64]; omega
              have c2 : decide (4294967296 * (r0 : Int) + (d0 : Int) < (m : Int)) = true := decide_eq_true (by omega)
              clear hm a4 a5
              rcases a3 with ⟨a6, a7⟩ | ⟨a6, a7⟩
              · have c3 : decide ((4294967296 : Int) ≤ (r0 : Int) + (y1 : Int)) = true := decide_eq_true (by omega)
                have E := Lib.hid a7
                clear a6 a7
                go_wp2
                go_meet
                exact ⟨rfl, by rw [E.out], _, rfl⟩
              · have c3 : decide ((4294967296 : Int) ≤ (r0 : Int) + (y1 : Int)) = false := decide_eq_false (by omega)
                have E := Lib.hid a7
                have E6 := Lib.hid a6
                clear a6 a7
                go_wp2
                go_roundg p
                case measure => exact HP.out
                case rel => exact ⟨rfl, p, r0 + y1, rfl, rfl, by go_num, E.out, E6.out⟩
      case rest =>
        obtain ⟨rfl, rfl, x2, rfl⟩ := hcut
        obtain ⟨hr3, hr4⟩ := M.digQ_rest (u := v) (d := d0) (y1 := y1) (y0 := y0)
        have hQ0 := M.digQ_lt hd0b hu2
        have KU2 := Lib.hid (show v * 4294967296 + d0 = M.digQ v d0 y1 y0 * yn + (v * 4294967296 + d0) % yn by
          rw [HY.out]; omega)
        have hv2 : (v * 4294967296 + d0) % yn < yn := Nat.mod_lt _ (by omega)
        have ER3 : IntKind.u64.wrap (IntKind.u64.wrap (IntKind.u64.wrap ((v : Int) * 4294967296) + (d0 : Int)) - IntKind.u64.wrap ((M.digQ v d0 y1 y0 : Int) * (yn : Int))) = (((v * 4294967296 + d0) % yn : Nat) : Int) := by
          have h := KU2.out
          rw [← Int.natCast_mul]
          generalize M.digQ v d0 y1 y0 * yn = z at *
          generalize (v * 4294967296 + d0) % yn = v2 at *
          rw [IntKind.wrap_u64, IntKind.wrap_u64, IntKind.wrap_u64, IntKind.wrap_u64]
          omega
        clear hr3 hr4
        generalize M.digQ v d0 y1 y0 = Q0 at *
        generalize (v * 4294967296 + d0) % yn = v2 at *
        obtain ⟨f1, f2⟩ := M.two_digits (U := hi * 18446744073709551616 + lo) (yo := y) (p := 2 ^ s) (u := u) (d1 := d1) (d0 := d0) (y := yn) (Q1 := Q1) (R1 := v) (Q0 := Q0) (R0 := v2) (by omega) (Nat.pow_pos (by decide)) HYN.out.symm (by rw [KU.out, HL2.out]; omega) KU1.out KU2.out hv2
        have EF := Lib.hid (show (Q1 : Int) * 4294967296 + (Q0 : Int) = (((hi * 18446744073709551616 + lo) / y : Nat) : Int) by
          rw [f1]; omega)
        have EF2 := Lib.hid (show ((v2 : Int) / 2 ^ s) = (((hi * 18446744073709551616 + lo) % y : Nat) : Int) by
          rw [f2]; push_cast; rfl)
        have ER4 := Lib.hid ER3
        clear f1 f2 ER3
        go_wp2
        go_ret2
        refine ⟨retU2 ?_ ?_, Qt.refl _⟩
        · exact EF.out
        · exact (congrArg (fun z : Int => z / 2 ^ s) ER4.out).trans EF2.out
end Go.Proofs.YtjjlpjfojgkpkaaGreatDoor
