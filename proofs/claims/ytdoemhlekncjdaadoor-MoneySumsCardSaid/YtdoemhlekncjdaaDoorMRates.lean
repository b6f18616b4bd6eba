/-
  The contract of remitlaw04.MoneyRates: it answers true.
-/
import Derived.Test.YtdoemhlekncjdaaDoorMFixed
namespace Go.Proofs.YtdoemhlekncjdaaDoor
open Go.RowKit Go.WideShapes
set_option maxRecDepth 100000

theorem rateM_bad {ad : Nat → Addr} {a n : Int} (h : n < 0 ∨ 10000 < n) : rateM ad a n = .tuple #[.int .i64 0, .iface 121 (.pointer (some (ad 6)))] := if_pos h
theorem rateM_good {ad : Nat → Addr} {a : Int} {m : Nat} (h : m ≤ 10000) : rateM ad a (m : Int) = .tuple #[.int .i64 (M.rate a m), .nilIface] := by
  unfold rateM
  rw [if_neg (by omega), Int.toNat_natCast]

set_option maxHeartbeats 6400000 in
theorem rates_any (ad : Nat → Addr) (a n more : Int) (w : World) (a0 : -9223372036854775808 ≤ a) (a1 : a < 9223372036854775808) (n0 : -9223372036854775808 ≤ n) (n1 : n < 9223372036854775808) (m0 : -9223372036854775808 ≤ more) (m1 : more < 9223372036854775808) (hE : Errs ad w) (htab : Tab10 w) :
    Calls Tryd.prog 6 #[.int .i64 a, .int .i64 n, .int .i64 more] w fun e w' => e = .returned (.bool true) ∧ Qt w w' := by
  have FX := Lib.hid (fixed_any ad w hE htab)
  have HE := Lib.hid (fun W (q : Qt w W) => hE.qt q)
  have RA := Lib.hid (fun W (q : Qt w W) (c k : Int) (c0 : -9223372036854775808 ≤ c) (c1 : c < 9223372036854775808) (k0 : -9223372036854775808 ≤ k) (k1 : k < 9223372036854775808) => rate_any ad c k W (hE.qt q) c0 c1 k0 k1)
  clear hE htab
  by_cases hn : n < 0 ∨ 10000 < n
  · have RB := Lib.hid (fun W (q : Qt w W) => RA.out W q a n a0 a1 n0 n1)
    rw [rateM_bad hn] at RB
    have NU := Lib.hid (fun W (q : Qt w W) => num_any ad 6 W (HE.out W q) (by decide))
    rw [show errV ad 6 = .iface 121 (.pointer (some (ad 6))) from rfl] at NU
    clear a0 a1 n0 n1 m0 m1
    rcases hn with hn | hn
    all_goals
      first
        | have hn2 : ¬ 0 ≤ n := by omega
        | skip
      go_enter Tryd.func6, Tryd.ntmps6
      go_wp2_with fail
      refine (FX.out).mono ?_
      rintro e w1 ⟨rfl, k1⟩
      have K1 := Lib.hid k1; clear k1
      go_wp2_with fail
      refine (RB.out _ K1.out).mono ?_
      rintro e w2 ⟨rfl, k2⟩
      have K2 := Lib.hid (Qt.trans K1.out k2); clear k2
      go_wp2_with fail
      refine (NU.out _ K2.out).mono ?_
      rintro e w3 ⟨rfl, k3⟩
      have K3 := Lib.hid (Qt.trans K2.out k3); clear k3
      go_wp2
      go_ret
      exact ⟨rfl, K3.out⟩
  · obtain ⟨m, rfl⟩ := Int.eq_ofNat_of_zero_le (show 0 ≤ n by omega)
    have hm : m ≤ 10000 := by omega
    have R1 := Lib.hid (fun W (q : Qt w W) => RA.out W q a m a0 a1 n0 n1)
    rw [rateM_good hm] at R1
    have R2 := Lib.hid (fun W (q : Qt w W) => RA.out W q a ((0 : Nat) : Int) a0 a1 (by decide) (by decide))
    rw [rateM_good (by decide), M.rate_none] at R2
    have R3 := Lib.hid (fun W (q : Qt w W) => RA.out W q a ((10000 : Nat) : Int) a0 a1 (by decide) (by decide))
    rw [rateM_good (by decide), M.rate_all] at R3
    have R2' : Hid (∀ W, Qt w W → Calls Tryd.prog 18 #[.int .i64 a, .int .i64 0] W fun e w' => e = .returned (.tuple #[.int .i64 0, .nilIface]) ∧ Qt W w') := R2
    have R3' : Hid (∀ W, Qt w W → Calls Tryd.prog 18 #[.int .i64 a, .int .i64 10000] W fun e w' => e = .returned (.tuple #[.int .i64 a, .nilIface]) ∧ Qt W w') := R3
    have hxa := M.rate_abs (a := a) hm
    have hneg := M.rate_neg a m
    by_cases hmin : a = -9223372036854775808
    · subst hmin
      generalize M.rate (-9223372036854775808) m = x at *
      clear hn n0 n1 m0 m1 a0 a1 hxa hneg
      go_enter Tryd.func6, Tryd.ntmps6
      go_wp2_with fail
      refine (FX.out).mono ?_
      rintro e w1 ⟨rfl, k1⟩
      have K1 := Lib.hid k1; clear k1
      go_wp2_with fail
      refine (R1.out _ K1.out).mono ?_
      rintro e w2 ⟨rfl, k2⟩
      have K2 := Lib.hid (Qt.trans K1.out k2); clear k2
      go_wp2_with fail
      refine (R2'.out _ K2.out).mono ?_
      rintro e w3 ⟨rfl, k3⟩
      have K3 := Lib.hid (Qt.trans K2.out k3); clear k3
      go_wp2_with fail
      refine (R3'.out _ K3.out).mono ?_
      rintro e w4 ⟨rfl, k4⟩
      have K4 := Lib.hid (Qt.trans K3.out k4); clear k4
      go_wp2
      go_ret
      exact ⟨rfl, K4.out⟩
    · have R4 := Lib.hid (fun W (q : Qt w W) => RA.out W q (-a) m (by omega) (by omega) n0 n1)
      rw [rateM_good hm, hneg] at R4
      have NEAR := M.rate_abs (a := a) hm
      have hy : (M.rate a m).natAbs = M.near (a.natAbs * m) := by unfold M.rate; split <;> omega
      have hsg : M.rate a m ≠ 0 → (M.rate a m < 0 ↔ a < 0) := by
        unfold M.rate
        split <;> omega
      have hcs := near_cases (a.natAbs * m)
      have EN : wrap64 (-a) = -a := by unfold wrap64; omega
      have hmin2 : (a == -9223372036854775808) = false := by rw [beq_eq_false_iff_ne]; exact hmin
      have MU := Lib.hid (fun W => mul64_any a.natAbs m W (by omega) (by omega))
      obtain ⟨p1, p2⟩ := product_parts (x := a.natAbs) (y := m) (d := 10000) (by omega) hm (by decide)
      have DI := Lib.hid (fun W => div64_any (a.natAbs * m / 18446744073709551616) (a.natAbs * m % 18446744073709551616) 10000 W (Nat.mod_lt _ (by decide)) (by decide) p1)
      rw [p2] at DI
      have MONO := Lib.hid (fun (b : Int) (h : a ≤ b) => M.rate_mono m h)
      have MORE := Lib.hid (fun (k : Nat) (h : 0 ≤ a) (hk : m ≤ k) => M.rate_more h hk)
      obtain ⟨x, hx⟩ : ∃ x, M.rate a m = x := ⟨_, rfl⟩
      rw [hx] at hxa hneg hy hsg R1 R4 NEAR MONO MORE
      have EX : wrap64 (-x) = -x := by unfold wrap64; omega
      have MA : max a (-a) = (a.natAbs : Int) := by omega
      have MX : max x (-x) = (M.near (a.natAbs * m) : Int) := by omega
      generalize a.natAbs = A at *
      generalize A * m / 18446744073709551616 = ph at *
      generalize A * m % 18446744073709551616 = pl at *
      generalize M.near (A * m) = z at *
      generalize A * m / 10000 = q at *
      generalize A * m % 10000 = r at *
      clear p1 p2 hx hneg hmin hn n0 n1
      go_enter Tryd.func6, Tryd.ntmps6
      go_wp2_with fail
      refine (FX.out).mono ?_
      rintro e w1 ⟨rfl, k1⟩
      have K1 := Lib.hid k1; clear k1
      go_wp2_with fail
      refine (R1.out _ K1.out).mono ?_
      rintro e w2 ⟨rfl, k2⟩
      have K2 := Lib.hid (Qt.trans K1.out k2); clear k2
      go_wp2_with fail
      refine (R2'.out _ K2.out).mono ?_
      rintro e w3 ⟨rfl, k3⟩
      have K3 := Lib.hid (Qt.trans K2.out k3); clear k3
      go_wp2_with fail
      refine (R3'.out _ K3.out).mono ?_
      rintro e w4 ⟨rfl, k4⟩
      have K4 := Lib.hid (Qt.trans K3.out k4); clear k4
      go_wp2_with fail
      refine (R4.out _ K4.out).mono ?_
      rintro e w5 ⟨rfl, k5⟩
      have K5 := Lib.hid (Qt.trans K4.out k5); clear k5
      go_wp2_with fail
      refine (MU.out _).mono ?_
      rintro e w6 ⟨rfl, rfl⟩
      go_wp2_with fail
      refine (DI.out _).mono ?_
      rintro e w7 ⟨rfl, k7⟩
      have K7 := Lib.hid (Qt.trans K5.out k7); clear k7
      go_upto_region 18 with (fail)
      go_cut [20] from 113 to 123 (fun u wx => w7 = wx ∧ ((u = .bool true ∧ z = q + 1) ∨ (u = .bool false ∧ z = q)))
      case first =>
        rcases hcs with ⟨c1, hz⟩ | ⟨c1, c2, hz⟩ | ⟨c1, c2, hz⟩ | ⟨c1, hz⟩
        · have b1 : decide ((5000 : Int) < (r : Int)) = true := decide_eq_true (by omega)
          have HZ := Lib.hid hz
          clear c1 hz
          go_wp2
          go_meet
          exact ⟨rfl, .inl ⟨rfl, HZ.out⟩⟩
        · have b1 : decide ((5000 : Int) < (r : Int)) = false := decide_eq_false (by omega)
          have b2 : ((r : Int) == 5000) = true := by rw [beq_iff_eq]; omega
          have b3 : ((q : Int) % 2 == 1) = true := by rw [beq_iff_eq]; omega
          have HZ := Lib.hid hz
          clear c1 c2 hz
          go_wp2
          go_meet
          exact ⟨rfl, .inl ⟨rfl, HZ.out⟩⟩
        · have b1 : decide ((5000 : Int) < (r : Int)) = false := decide_eq_false (by omega)
          have b2 : ((r : Int) == 5000) = true := by rw [beq_iff_eq]; omega
          have b3 : ((q : Int) % 2 == 1) = false := by rw [beq_eq_false_iff_ne]; omega
          have HZ := Lib.hid hz
          clear c1 c2 hz
          go_wp2
          go_meet
          exact ⟨rfl, .inr ⟨rfl, HZ.out⟩⟩
        · have b1 : decide ((5000 : Int) < (r : Int)) = false := decide_eq_false (by omega)
          have b2 : ((r : Int) == 5000) = false := by rw [beq_eq_false_iff_ne]; omega
          have HZ := Lib.hid hz
          clear c1 hz
          go_wp2
          go_meet
          exact ⟨rfl, .inr ⟨rfl, HZ.out⟩⟩
      case rest =>
        obtain ⟨rfl, hu⟩ := hcut
        have HZB := Lib.hid (show z ≤ 9223372036854775808 by omega)
        clear hcs MA EN
        go_upto_region 19 with (fail)
        go_cut [150] from 124 to 150 (fun t wx => w7 = wx ∧ t = .bool false)
        case first =>
          have hs : (x = 0) ∨ (x ≠ 0 ∧ a < 0 ∧ x < 0) ∨ (x ≠ 0 ∧ 0 ≤ a ∧ 0 ≤ x) := by omega
          clear hsg hxa NEAR hy MX
          rcases hu with ⟨rfl, hz⟩ | ⟨rfl, hz⟩
          all_goals
            rcases hs with h0 | ⟨h0, h1, h2⟩ | ⟨h0, h1, h2⟩
          · subst hz
            have EW : IntKind.u64.wrap ((q : Int) + 1) = (q : Int) + 1 := by have := HZB.out; rw [IntKind.wrap_u64]; omega
            have b5 : (x != 0) = false := by rw [bne_eq_false_iff_eq]; exact h0
            clear h0
            go_wp2
            go_meet
            exact ⟨rfl, rfl⟩
          · subst hz
            have EW : IntKind.u64.wrap ((q : Int) + 1) = (q : Int) + 1 := by have := HZB.out; rw [IntKind.wrap_u64]; omega
            have b5 : (x != 0) = true := by rw [bne_iff_ne]; exact h0
            clear h0
            go_wp2
            go_meet
            exact ⟨rfl, rfl⟩
          · subst hz
            have EW : IntKind.u64.wrap ((q : Int) + 1) = (q : Int) + 1 := by have := HZB.out; rw [IntKind.wrap_u64]; omega
            have b5 : (x != 0) = true := by rw [bne_iff_ne]; exact h0
            have d1 : decide (x < 0) = false := decide_eq_false (by omega)
            have d2 : decide (a < 0) = false := decide_eq_false (by omega)
            clear h0 h1 h2
            go_wp2
            go_meet
            exact ⟨rfl, rfl⟩
          · subst hz
            have b5 : (x != 0) = false := by rw [bne_eq_false_iff_eq]; exact h0
            clear h0
            go_wp2
            go_meet
            exact ⟨rfl, rfl⟩
          · subst hz
            have b5 : (x != 0) = true := by rw [bne_iff_ne]; exact h0
            clear h0
            go_wp2
            go_meet
            exact ⟨rfl, rfl⟩
          · subst hz
            have b5 : (x != 0) = true := by rw [bne_iff_ne]; exact h0
            have d1 : decide (x < 0) = false := decide_eq_false (by omega)
            have d2 : decide (a < 0) = false := decide_eq_false (by omega)
            clear h0 h1 h2
            go_wp2
            go_meet
            exact ⟨rfl, rfl⟩
        case rest =>
          obtain ⟨rfl, rfl⟩ := hcut
          clear hu hsg hxa NEAR hy MX
          by_cases hg : more < 0 ∨ 2305843009213693952 < more ∨ 2305843009213693952 < a
          · rcases hg with hg | hg | hg
            · go_wp2
              go_ret
              exact ⟨rfl, K7.out⟩
            · have h0 : decide (more < 0) = false := decide_eq_false (by omega)
              go_wp2
              go_ret
              exact ⟨rfl, K7.out⟩
            · by_cases h1 : more < 0
              · go_wp2
                go_ret
                exact ⟨rfl, K7.out⟩
              · by_cases h2 : 2305843009213693952 < more
                · go_wp2
                  go_ret
                  exact ⟨rfl, K7.out⟩
                · go_wp2
                  go_ret
                  exact ⟨rfl, K7.out⟩
          · have g1 : 0 ≤ more := by omega
            have g2 : more ≤ 2305843009213693952 := by omega
            have g3 : a ≤ 2305843009213693952 := by omega
            have R5 := Lib.hid (fun W (q : Qt w W) (n0 : -9223372036854775808 ≤ (m : Int)) (n1 : (m : Int) < 9223372036854775808) => RA.out W q (a + more) m (by omega) (by omega) n0 n1)
            rw [rateM_good hm] at R5
            have hge := MONO.out (a + more) (by omega)
            obtain ⟨y, hy⟩ : ∃ y, M.rate (a + more) m = y := ⟨_, rfl⟩
            rw [hy] at R5 hge
            have hlt : decide (y < x) = false := decide_eq_false (by omega)
            clear hg hy hge
            go_wp2_with fail
            refine (R5.out _ K7.out (by omega) (by omega)).mono ?_
            rintro e w8 ⟨rfl, k8⟩
            have K8 := Lib.hid (Qt.trans K7.out k8); clear k8
            by_cases ha : a < 0 ∨ m = 10000
            · rcases ha with ha | ha
              · go_wp2
                go_ret
                exact ⟨rfl, K8.out⟩
              · have b8 : ((m : Int) == 10000) = true := by rw [beq_iff_eq]; omega
                clear ha
                go_wp2
                all_goals
                  go_ret
                  exact ⟨rfl, K8.out⟩
            · have ha0 : 0 ≤ a := by omega
              have b8 : ((m : Int) == 10000) = false := by rw [beq_eq_false_iff_ne]; omega
              have R6 := Lib.hid (fun W (q : Qt w W) (n0 : -9223372036854775808 ≤ ((m + 1 : Nat) : Int)) (n1 : ((m + 1 : Nat) : Int) < 9223372036854775808) => RA.out W q a ((m + 1 : Nat) : Int) a0 a1 n0 n1)
              rw [rateM_good (by omega)] at R6
              have hge := MORE.out (m + 1) ha0 (by omega)
              obtain ⟨y2, hy2⟩ : ∃ y2, M.rate a (m + 1) = y2 := ⟨_, rfl⟩
              rw [hy2] at R6 hge
              have hlt2 : decide (x ≤ y2) = true := decide_eq_true (by omega)
              clear ha hy2 hge
              go_wp2_with fail
              refine (R6.out _ K8.out (by omega) (by omega)).mono ?_
              rintro e w9 ⟨rfl, k9⟩
              have K9 := Lib.hid (Qt.trans K8.out k9); clear k9
              go_wp2
              go_ret
              exact ⟨rfl, K9.out⟩
end Go.Proofs.YtdoemhlekncjdaaDoor
