/-
  The contract of remitlaw10.JournalCosts: it answers true.
-/
import Derived.Test.YtggogaaooacooaaDoorP42
import Derived.Test.YtggogaaooacooaaDoorP24
import Derived.Test.YtggogaaooacooaaDoorP30
namespace Go.Proofs.YtggogaaooacooaaDoor
open Go.RowKit Go.WideShapes
set_option maxRecDepth 100000

theorem largest_mid {n : Int} (h1 : 1 ≤ n) (h2 : n ≤ 1099511627776) : largestZ n = 229 + 233 * (n - 1) ∧ costZ (229 + 233 * (n - 1)) = n ∧ costZ (229 + 233 * (n - 1) + 1) = n + 1 := by
  obtain ⟨m, rfl⟩ := Int.eq_ofNat_of_zero_le (show 0 ≤ n by omega)
  obtain ⟨c1, c2⟩ := J.cost_largest (n := m) (by omega)
  refine ⟨?_, ?_, ?_⟩
  · unfold largestZ wrap64
    rw [if_neg (by omega)]
    omega
  · rw [show 229 + 233 * ((m : Int) - 1) = ((229 + 233 * (m - 1) : Nat) : Int) by omega, costZ_nat, c1]
  · rw [show 229 + 233 * ((m : Int) - 1) + 1 = ((229 + 233 * (m - 1) + 1 : Nat) : Int) by omega, costZ_nat, c2]
    omega
/-- What the Append leaves, over a new disk of 16 sectors. -/
theorem costs_facts {k : Nat} {v : List UInt8} (hk1 : 1 ≤ k) (hk : k ≤ 16) (hv : v.length ≤ 3000) :
    J.Fine ⟨0, k, 9, 0, false, 0⟩ (DS.newD 16) ∧ (DS.newD 16).FewN 0 ∧ J.refE (DS.newD 16) (0 : Nat) (k : Nat) (9 : Nat) = 0 ∧
    ((k < J.cost v.length ∧ J.JS.append ⟨0, k, 9, 0, false, 0⟩ (DS.newD 16) v = (17, ⟨0, k, 9, 0, false, 0⟩, DS.newD 16)) ∨
     (J.cost v.length ≤ k ∧ ∃ d2, J.JS.append ⟨0, k, 9, 0, false, 0⟩ (DS.newD 16) v = (0, ⟨0, k, 9, J.cost v.length, false, 0⟩, d2) ∧ d2.wr = J.cost v.length ∧ d2.fl = 0 ∧ d2.ways.length = J.cost v.length)) := by
  have hl : (DS.newD 16).dur.length = 16 := by simp [DS.newD]
  have A0 : J.Alive (DS.newD 16).dur [] 0 ⟨0, k, 9, 0, false, 0⟩ (DS.newD 16) := J.Alive.start rfl rfl (by rw [hl]; omega)
  refine ⟨A0.fine (show 1 ≤ 9 by decide) (show 9 ≤ 1099511627776 by decide), ⟨Nat.le_refl _, Nat.le_refl _, Nat.le_refl _, Nat.le_refl _⟩, J.refE_zero (by rw [hl]; omega) (by omega) (by decide) (by decide) rfl, ?_⟩
  rcases J.calm_append A0 (by decide) v (by omega) with ⟨e1, h⟩ | ⟨d2, e1, _, _, e2, e3, e4, h⟩
  · exact .inl ⟨by simpa using h, e1⟩
  · refine .inr ⟨by simpa using h, d2, ?_, ?_, ?_, ?_⟩
    · rw [e1]; simp
    · rw [e2]; simp [DS.newD]
    · rw [e3]; rfl
    · rw [e4]; simp [DS.newD]
theorem fits_largest {k z : Nat} (hk : 1 ≤ k) (hk2 : k ≤ 16) : decide ((z : Int) ≤ largestZ (k : Int)) = decide (J.cost z ≤ k) := by
  have e : largestZ (k : Int) = 229 + 233 * ((k : Int) - 1) := (largest_mid (by omega) (by omega)).1
  rw [e]
  by_cases h : J.cost z ≤ k
  · rw [decide_eq_true h, decide_eq_true]
    have := (J.cost_iff (b := z) hk).1 h
    omega
  · rw [decide_eq_false h, decide_eq_false]
    intro h2
    exact h ((J.cost_iff (b := z) hk).2 (by omega))

set_option maxHeartbeats 3200000 in
theorem jcosts_any (ad : Nat → Addr) (n y : Int) (w : World) (hn0 : -9223372036854775808 ≤ n) (hn1 : n ≤ 9223372036854775807) (hy1 : y ≤ 9223372036854775807) (hE : Errs ad w) (hT : Tab w) :
    Calls Tryd.prog 5 #[.int .i64 n, .int .i64 y] w fun e w' => e = .returned (.bool true) ∧ Qt w w' := by
  have HE := Lib.hid hE
  have HT := Lib.hid hT
  have FX := fixedJ_any ad w hE hT
  have C1 := Lib.hid (fun W => jcost_any y hy1 W)
  have C2 := Lib.hid (fun W => refCost_any y hy1 W)
  have L1 := Lib.hid (fun W => jlargest_any n hn1 W)
  have L2 := Lib.hid (fun W => refLargest_any n hn1 W)
  have zc : (costZ y != costZ y) = false := bne_self_eq_false _
  have zl : (largestZ n != largestZ n) = false := bne_self_eq_false _
  have NW := Lib.hid (fun W (q : Qt w W) => new_any ad 16 W (hE.kept q (OffErrs.none ad)))
  have hmy : wrap64 ((IntKind.u64.wrap y).tmod 3001) = (modU y 3001 : Int) := modU_wrap y 3001 (by decide) (by decide)
  have hmn : wrap64 (1 + wrap64 ((IntKind.u64.wrap n).tmod 16)) = ((1 + modU n 16 : Nat) : Int) := by
    have h := modU_wrap n 16 (by decide) (by decide)
    have h2 := Nat.mod_lt ((n % 18446744073709551616).toNat) (show 0 < 16 by decide)
    rw [show ((16 : Nat) : Int) = 16 from rfl] at h
    rw [h]
    unfold modU wrap64
    omega
  have RC := Lib.hid (fun W => record_any (modU y 3001 : Int) 3 W)
  have hyb : modU y 3001 ≤ 3000 := by have := Nat.mod_lt ((y % 18446744073709551616).toNat) (show 0 < 3001 by decide); unfold modU; omega
  have hmm : modU ((modU y 3001 : Nat) : Int) 3001 = modU y 3001 := by
    generalize modU y 3001 = t at *
    unfold modU; omega
  rw [hmm] at RC
  have hk1 : 1 ≤ 1 + modU n 16 := Nat.le_add_right _ _
  have hk2 : 1 + modU n 16 ≤ 16 := by have : modU n 16 < 16 := Nat.mod_lt _ (by decide); omega
  generalize modU y 3001 = z at *
  generalize 1 + modU n 16 = k at *
  obtain ⟨R, hR, hRl⟩ : ∃ R : ByteArray, R = ⟨(recB 3 z).toArray⟩ ∧ R.data.toList = recB 3 z := ⟨_, rfl, rfl⟩
  have hRs : R.size = z := by rw [← dlen7, hRl, recB_length]
  rw [← hR] at RC
  obtain ⟨f0, fw, rz, hcase⟩ := costs_facts (v := recB 3 z) hk1 hk2 (by rw [recB_length]; exact hyb)
  rw [recB_length] at hcase
  have LK := Lib.hid (fun W => jlargest_any (k : Int) (by omega) W)
  have FL := fits_largest (z := z) hk1 hk2
  have FT := Lib.hid (fun (W : World) (q b : Nat) (h : CJ W q b ⟨0, k, 9, 0, false, 0⟩) => (show Calls Tryd.prog 24 #[.pointer (some ⟨q, 0, none⟩), .int .i64 (z : Int)] W fun e w' => e = .returned (.bool (decide (J.cost z ≤ k))) ∧ Qt W w' from by
    have h2 := jfits_any h (Nat.zero_le _) (Nat.le_trans hk2 (by decide)) (z : Int) (by omega)
    rw [show J.JS.fits ⟨0, k, 9, 0, false, 0⟩ (z : Int) = decide (J.cost z ≤ k) by
      unfold J.JS.fits
      rw [Int.toNat_natCast]
      by_cases h : J.cost z ≤ k
      · rw [decide_eq_true h, decide_eq_true]; exact ⟨by omega, by show 0 + J.cost z ≤ k; omega⟩
      · rw [decide_eq_false h, decide_eq_false]; intro h3; have := h3.2; simp only at this; omega] at h2
    exact h2))
  have CZ := Lib.hid (fun W => jcost_nat z (by omega) W)
  have APP := Lib.hid (fun (W : World) (b q : Nat) (gq : w.heap.size ≤ q) (d : DK (fun g => g = q) w W b (DS.newD 16)) (c : CJ W q b ⟨0, k, 9, 0, false, 0⟩) => (show Calls Tryd.prog 25 #[.pointer (some ⟨q, 0, none⟩), .string R] W (JKP ad (fun g => g = q) w W b q (J.JS.append ⟨0, k, 9, 0, false, 0⟩ (DS.newD 16) (recB 3 z))) from by
    have h := dk_append (G := fun g => g = q) HE.out HT.out (fun g e => e ▸ gq) (fun g e => e ▸ c.lt) rfl d fw (by decide) c f0 R (by omega)
    rw [hRl] at h
    exact h))
  have HRZ := Lib.hid rz
  generalize largestZ (k : Int) = lk at *
  obtain ⟨B, hB⟩ : ∃ B, decide (J.cost z ≤ k) = B := ⟨_, rfl⟩
  rw [hB] at FT FL
  have HK2 := Lib.hid hk2
  clear hE hT hmm hR hRl hRs f0 fw rz hyb hk1 hk2

  rcases hcase with ⟨hfull, aeq⟩ | ⟨hok, d2, aeq, wr2, fl2, wy2⟩
  · obtain rfl : B = false := by rw [← hB]; exact decide_eq_false (by omega)
    have AEQ := Lib.hid aeq
    have WR := Lib.hid (show (DS.newD 16).wr = 0 from rfl)
    have FLN := Lib.hid (show (DS.newD 16).fl = 0 from rfl)
    have WY := Lib.hid (show (DS.newD 16).ways.length = 0 from rfl)
    clear aeq hfull hB
    by_cases h1 : 1 ≤ n
    · have y1 : decide (1 ≤ n) = true := decide_eq_true h1
      by_cases h2 : n ≤ 1099511627776
      · have y2 : decide (n ≤ 1099511627776) = true := decide_eq_true h2
        obtain ⟨m1, m2, m3⟩ := largest_mid h1 h2
        rw [m1] at L1 L2 zl
        have M1 := Lib.hid (fun W => jcost_any (229 + 233 * (n - 1)) (by omega) W)
        have M2 := Lib.hid (fun W => jcost_any (229 + 233 * (n - 1) + 1) (by omega) W)
        rw [m2] at M1
        rw [m3] at M2
        have wl : wrap64 (229 + 233 * (n - 1) + 1) = 229 + 233 * (n - 1) + 1 := by unfold wrap64; omega
        have wn : wrap64 (n + 1) = n + 1 := by unfold wrap64; omega
        have zn : (n != n) = false := bne_self_eq_false _
        have zn1 : (n + 1 != n + 1) = false := bne_self_eq_false _
        generalize 229 + 233 * (n - 1) = L at *
        clear m1 m2 m3 h1 h2 hn0 hn1 hy1
        go_enter Tryd.func5, Tryd.ntmps5
        go_wp2_with fail
        refine FX.mono ?_
        rintro e w1 ⟨rfl, q1⟩
        have QA := Lib.hid q1
        clear q1 FX
        go_wp2_with fail
        refine (C1.out _).mono ?_
        rintro e wx ⟨rfl, rfl⟩
        go_wp2_with fail
        refine (C2.out _).mono ?_
        rintro e wx ⟨rfl, rfl⟩
        go_wp2_with fail
        refine (L1.out _).mono ?_
        rintro e wx ⟨rfl, rfl⟩
        go_wp2_with fail
        refine (L2.out _).mono ?_
        rintro e wx ⟨rfl, rfl⟩
        go_wp2_with fail
        refine (L1.out _).mono ?_
        rintro e wx ⟨rfl, rfl⟩
        go_wp2_with fail
        refine (M1.out _).mono ?_
        rintro e wx ⟨rfl, rfl⟩
        go_wp2_with fail
        refine (L1.out _).mono ?_
        rintro e wx ⟨rfl, rfl⟩
        go_wp2_with fail
        refine (M2.out _).mono ?_
        rintro e wx ⟨rfl, rfl⟩
        go_wp2_with fail
        refine (NW.out _ QA.out).mono ?_
        rintro e w2 (⟨hno, rfl, q2⟩ | ⟨n1, n2, b, rfl, hD, q2⟩)
        · exact absurd ⟨by decide, by decide⟩ hno
        have D2 := Lib.hid (show DK (fun g => w2.heap.size ≤ g) w w2 b (DS.newD 16) from dk_new QA.out hD q2)
        have BG := dk_begin HE.out D2.out (0 : Nat) (k : Nat) (9 : Nat) (by have := HK2.out; omega)
        rw [show (((0 : Nat) : Int)) = 0 from rfl, show (((9 : Nat) : Int)) = 9 from rfl] at BG
        have Z2 := Lib.hid (Nat.le_trans QA.out.size q2.size)
        clear hD q2
        go_wp2_with fail
        refine BG.mono ?_
        rintro e w3 hb
        obtain ⟨q3, q, hq1, rfl, hc⟩ := begin_ok (i := 0) (n := k) (v := 9) hb HRZ.out
        have C3 := Lib.hid (show CJ w3 q b ⟨0, k, 9, 0, false, 0⟩ from hc)
        have D3 := Lib.hid ((D2.out.qt q3).more (I := fun g => g = q) (fun g e => .inl (e ▸ hq1)))
        have GQ := Lib.hid (Nat.le_trans Z2.out hq1)
        have FT3 := FT.out _ _ _ C3.out
        clear hb q3 hc BG hq1
        go_wp2_with fail
        refine FT3.mono ?_
        rintro e w4 ⟨rfl, q4⟩
        have D4 := Lib.hid (D3.out.qt q4)
        have C4 := Lib.hid (C3.out.qt q4)
        clear q4 FT3
        go_wp2_with fail
        refine (RC.out _).mono ?_
        rintro e w5 ⟨rfl, q5⟩
        have D5 := Lib.hid (D4.out.qt q5)
        have C5 := Lib.hid (C4.out.qt q5)
        have AP := APP.out _ _ _ GQ.out D5.out C5.out
        rw [AEQ.out] at AP
        clear q5
        go_wp2_with fail
        refine AP.mono ?_
        rintro e w6 h6
        obtain ⟨rfl, d6, c6, _⟩ := jkp_no h6
        have D6 := Lib.hid d6
        have C6 := Lib.hid c6
        clear h6 d6 c6 AP
        go_wp2_with fail
        refine (LK.out _).mono ?_
        rintro e w7 ⟨rfl, rfl⟩
        have NU := num_any ad 17 _ (errs_since HE.out D6.out.since) (by decide)
        rw [errV_pos ad (by decide)] at NU
        go_wp2_with fail
        refine NU.mono ?_
        rintro e w8 ⟨rfl, q8⟩
        have D8 := Lib.hid (D6.out.qt q8)
        have C8 := Lib.hid (C6.out.qt q8)
        clear q8 NU
        have CN := dk_counts D8.out
        rw [WR.out, FLN.out] at CN
        go_wp2_with fail
        refine CN.mono ?_
        rintro e w9 ⟨rfl, q9⟩
        have D9 := Lib.hid (D8.out.qt q9)
        have C9 := Lib.hid (C8.out.qt q9)
        have US := jused_any C9.out
        have PN := dk_pending D9.out
        rw [WY.out] at PN
        clear q9 CN
        go_wp2_with fail
        refine US.mono ?_
        rintro e wa ⟨rfl, rfl⟩
        go_wp2_with fail
        refine US.mono ?_
        rintro e wa ⟨rfl, rfl⟩
        go_wp2_with fail
        refine PN.mono ?_
        rintro e wa ⟨rfl, rfl⟩
        have FIN := Lib.hid D9.out.since.qt
        go_wp2
        go_ret
        exact ⟨by simp, FIN.out⟩
      · have y2 : decide (n ≤ 1099511627776) = false := decide_eq_false h2
        clear h1 h2 hn0 hn1 hy1
        go_enter Tryd.func5, Tryd.ntmps5
        go_wp2_with fail
        refine FX.mono ?_
        rintro e w1 ⟨rfl, q1⟩
        have QA := Lib.hid q1
        clear q1 FX
        go_wp2_with fail
        refine (C1.out _).mono ?_
        rintro e wx ⟨rfl, rfl⟩
        go_wp2_with fail
        refine (C2.out _).mono ?_
        rintro e wx ⟨rfl, rfl⟩
        go_wp2_with fail
        refine (L1.out _).mono ?_
        rintro e wx ⟨rfl, rfl⟩
        go_wp2_with fail
        refine (L2.out _).mono ?_
        rintro e wx ⟨rfl, rfl⟩
        go_wp2_with fail
        refine (NW.out _ QA.out).mono ?_
        rintro e w2 (⟨hno, rfl, q2⟩ | ⟨n1, n2, b, rfl, hD, q2⟩)
        · exact absurd ⟨by decide, by decide⟩ hno
        have D2 := Lib.hid (show DK (fun g => w2.heap.size ≤ g) w w2 b (DS.newD 16) from dk_new QA.out hD q2)
        have BG := dk_begin HE.out D2.out (0 : Nat) (k : Nat) (9 : Nat) (by have := HK2.out; omega)
        rw [show (((0 : Nat) : Int)) = 0 from rfl, show (((9 : Nat) : Int)) = 9 from rfl] at BG
        have Z2 := Lib.hid (Nat.le_trans QA.out.size q2.size)
        clear hD q2
        go_wp2_with fail
        refine BG.mono ?_
        rintro e w3 hb
        obtain ⟨q3, q, hq1, rfl, hc⟩ := begin_ok (i := 0) (n := k) (v := 9) hb HRZ.out
        have C3 := Lib.hid (show CJ w3 q b ⟨0, k, 9, 0, false, 0⟩ from hc)
        have D3 := Lib.hid ((D2.out.qt q3).more (I := fun g => g = q) (fun g e => .inl (e ▸ hq1)))
        have GQ := Lib.hid (Nat.le_trans Z2.out hq1)
        have FT3 := FT.out _ _ _ C3.out
        clear hb q3 hc BG hq1
        go_wp2_with fail
        refine FT3.mono ?_
        rintro e w4 ⟨rfl, q4⟩
        have D4 := Lib.hid (D3.out.qt q4)
        have C4 := Lib.hid (C3.out.qt q4)
        clear q4 FT3
        go_wp2_with fail
        refine (RC.out _).mono ?_
        rintro e w5 ⟨rfl, q5⟩
        have D5 := Lib.hid (D4.out.qt q5)
        have C5 := Lib.hid (C4.out.qt q5)
        have AP := APP.out _ _ _ GQ.out D5.out C5.out
        rw [AEQ.out] at AP
        clear q5
        go_wp2_with fail
        refine AP.mono ?_
        rintro e w6 h6
        obtain ⟨rfl, d6, c6, _⟩ := jkp_no h6
        have D6 := Lib.hid d6
        have C6 := Lib.hid c6
        clear h6 d6 c6 AP
        go_wp2_with fail
        refine (LK.out _).mono ?_
        rintro e w7 ⟨rfl, rfl⟩
        have NU := num_any ad 17 _ (errs_since HE.out D6.out.since) (by decide)
        rw [errV_pos ad (by decide)] at NU
        go_wp2_with fail
        refine NU.mono ?_
        rintro e w8 ⟨rfl, q8⟩
        have D8 := Lib.hid (D6.out.qt q8)
        have C8 := Lib.hid (C6.out.qt q8)
        clear q8 NU
        have CN := dk_counts D8.out
        rw [WR.out, FLN.out] at CN
        go_wp2_with fail
        refine CN.mono ?_
        rintro e w9 ⟨rfl, q9⟩
        have D9 := Lib.hid (D8.out.qt q9)
        have C9 := Lib.hid (C8.out.qt q9)
        have US := jused_any C9.out
        have PN := dk_pending D9.out
        rw [WY.out] at PN
        clear q9 CN
        go_wp2_with fail
        refine US.mono ?_
        rintro e wa ⟨rfl, rfl⟩
        go_wp2_with fail
        refine US.mono ?_
        rintro e wa ⟨rfl, rfl⟩
        go_wp2_with fail
        refine PN.mono ?_
        rintro e wa ⟨rfl, rfl⟩
        have FIN := Lib.hid D9.out.since.qt
        go_wp2
        go_ret
        exact ⟨by simp, FIN.out⟩
    · have y1 : decide (1 ≤ n) = false := decide_eq_false h1
      clear h1 hn0 hn1 hy1
      go_enter Tryd.func5, Tryd.ntmps5
      go_wp2_with fail
      refine FX.mono ?_
      rintro e w1 ⟨rfl, q1⟩
      have QA := Lib.hid q1
      clear q1 FX
      go_wp2_with fail
      refine (C1.out _).mono ?_
      rintro e wx ⟨rfl, rfl⟩
      go_wp2_with fail
      refine (C2.out _).mono ?_
      rintro e wx ⟨rfl, rfl⟩
      go_wp2_with fail
      refine (L1.out _).mono ?_
      rintro e wx ⟨rfl, rfl⟩
      go_wp2_with fail
      refine (L2.out _).mono ?_
      rintro e wx ⟨rfl, rfl⟩
      go_wp2_with fail
      refine (NW.out _ QA.out).mono ?_
      rintro e w2 (⟨hno, rfl, q2⟩ | ⟨n1, n2, b, rfl, hD, q2⟩)
      · exact absurd ⟨by decide, by decide⟩ hno
      have D2 := Lib.hid (show DK (fun g => w2.heap.size ≤ g) w w2 b (DS.newD 16) from dk_new QA.out hD q2)
      have BG := dk_begin HE.out D2.out (0 : Nat) (k : Nat) (9 : Nat) (by have := HK2.out; omega)
      rw [show (((0 : Nat) : Int)) = 0 from rfl, show (((9 : Nat) : Int)) = 9 from rfl] at BG
      have Z2 := Lib.hid (Nat.le_trans QA.out.size q2.size)
      clear hD q2
      go_wp2_with fail
      refine BG.mono ?_
      rintro e w3 hb
      obtain ⟨q3, q, hq1, rfl, hc⟩ := begin_ok (i := 0) (n := k) (v := 9) hb HRZ.out
      have C3 := Lib.hid (show CJ w3 q b ⟨0, k, 9, 0, false, 0⟩ from hc)
      have D3 := Lib.hid ((D2.out.qt q3).more (I := fun g => g = q) (fun g e => .inl (e ▸ hq1)))
      have GQ := Lib.hid (Nat.le_trans Z2.out hq1)
      have FT3 := FT.out _ _ _ C3.out
      clear hb q3 hc BG hq1
      go_wp2_with fail
      refine FT3.mono ?_
      rintro e w4 ⟨rfl, q4⟩
      have D4 := Lib.hid (D3.out.qt q4)
      have C4 := Lib.hid (C3.out.qt q4)
      clear q4 FT3
      go_wp2_with fail
      refine (RC.out _).mono ?_
      rintro e w5 ⟨rfl, q5⟩
      have D5 := Lib.hid (D4.out.qt q5)
      have C5 := Lib.hid (C4.out.qt q5)
      have AP := APP.out _ _ _ GQ.out D5.out C5.out
      rw [AEQ.out] at AP
      clear q5
      go_wp2_with fail
      refine AP.mono ?_
      rintro e w6 h6
      obtain ⟨rfl, d6, c6, _⟩ := jkp_no h6
      have D6 := Lib.hid d6
      have C6 := Lib.hid c6
      clear h6 d6 c6 AP
      go_wp2_with fail
      refine (LK.out _).mono ?_
      rintro e w7 ⟨rfl, rfl⟩
      have NU := num_any ad 17 _ (errs_since HE.out D6.out.since) (by decide)
      rw [errV_pos ad (by decide)] at NU
      go_wp2_with fail
      refine NU.mono ?_
      rintro e w8 ⟨rfl, q8⟩
      have D8 := Lib.hid (D6.out.qt q8)
      have C8 := Lib.hid (C6.out.qt q8)
      clear q8 NU
      have CN := dk_counts D8.out
      rw [WR.out, FLN.out] at CN
      go_wp2_with fail
      refine CN.mono ?_
      rintro e w9 ⟨rfl, q9⟩
      have D9 := Lib.hid (D8.out.qt q9)
      have C9 := Lib.hid (C8.out.qt q9)
      have US := jused_any C9.out
      have PN := dk_pending D9.out
      rw [WY.out] at PN
      clear q9 CN
      go_wp2_with fail
      refine US.mono ?_
      rintro e wa ⟨rfl, rfl⟩
      go_wp2_with fail
      refine US.mono ?_
      rintro e wa ⟨rfl, rfl⟩
      go_wp2_with fail
      refine PN.mono ?_
      rintro e wa ⟨rfl, rfl⟩
      have FIN := Lib.hid D9.out.since.qt
      go_wp2
      go_ret
      exact ⟨by simp, FIN.out⟩
  · obtain rfl : B = true := by rw [← hB]; exact decide_eq_true hok
    have AEQ := Lib.hid aeq
    have WR := Lib.hid wr2
    have FLN := Lib.hid fl2
    have WY := Lib.hid wy2
    generalize J.cost z = C at *
    have zCC : ((C : Int) == (C : Int)) = true := beq_self_eq_true _
    clear aeq wr2 fl2 wy2 hok hB
    by_cases h1 : 1 ≤ n
    · have y1 : decide (1 ≤ n) = true := decide_eq_true h1
      by_cases h2 : n ≤ 1099511627776
      · have y2 : decide (n ≤ 1099511627776) = true := decide_eq_true h2
        obtain ⟨m1, m2, m3⟩ := largest_mid h1 h2
        rw [m1] at L1 L2 zl
        have M1 := Lib.hid (fun W => jcost_any (229 + 233 * (n - 1)) (by omega) W)
        have M2 := Lib.hid (fun W => jcost_any (229 + 233 * (n - 1) + 1) (by omega) W)
        rw [m2] at M1
        rw [m3] at M2
        have wl : wrap64 (229 + 233 * (n - 1) + 1) = 229 + 233 * (n - 1) + 1 := by unfold wrap64; omega
        have wn : wrap64 (n + 1) = n + 1 := by unfold wrap64; omega
        have zn : (n != n) = false := bne_self_eq_false _
        have zn1 : (n + 1 != n + 1) = false := bne_self_eq_false _
        generalize 229 + 233 * (n - 1) = L at *
        clear m1 m2 m3 h1 h2 hn0 hn1 hy1
        go_enter Tryd.func5, Tryd.ntmps5
        go_wp2_with fail
        refine FX.mono ?_
        rintro e w1 ⟨rfl, q1⟩
        have QA := Lib.hid q1
        clear q1 FX
        go_wp2_with fail
        refine (C1.out _).mono ?_
        rintro e wx ⟨rfl, rfl⟩
        go_wp2_with fail
        refine (C2.out _).mono ?_
        rintro e wx ⟨rfl, rfl⟩
        go_wp2_with fail
        refine (L1.out _).mono ?_
        rintro e wx ⟨rfl, rfl⟩
        go_wp2_with fail
        refine (L2.out _).mono ?_
        rintro e wx ⟨rfl, rfl⟩
        go_wp2_with fail
        refine (L1.out _).mono ?_
        rintro e wx ⟨rfl, rfl⟩
        go_wp2_with fail
        refine (M1.out _).mono ?_
        rintro e wx ⟨rfl, rfl⟩
        go_wp2_with fail
        refine (L1.out _).mono ?_
        rintro e wx ⟨rfl, rfl⟩
        go_wp2_with fail
        refine (M2.out _).mono ?_
        rintro e wx ⟨rfl, rfl⟩
        go_wp2_with fail
        refine (NW.out _ QA.out).mono ?_
        rintro e w2 (⟨hno, rfl, q2⟩ | ⟨n1, n2, b, rfl, hD, q2⟩)
        · exact absurd ⟨by decide, by decide⟩ hno
        have D2 := Lib.hid (show DK (fun g => w2.heap.size ≤ g) w w2 b (DS.newD 16) from dk_new QA.out hD q2)
        have BG := dk_begin HE.out D2.out (0 : Nat) (k : Nat) (9 : Nat) (by have := HK2.out; omega)
        rw [show (((0 : Nat) : Int)) = 0 from rfl, show (((9 : Nat) : Int)) = 9 from rfl] at BG
        have Z2 := Lib.hid (Nat.le_trans QA.out.size q2.size)
        clear hD q2
        go_wp2_with fail
        refine BG.mono ?_
        rintro e w3 hb
        obtain ⟨q3, q, hq1, rfl, hc⟩ := begin_ok (i := 0) (n := k) (v := 9) hb HRZ.out
        have C3 := Lib.hid (show CJ w3 q b ⟨0, k, 9, 0, false, 0⟩ from hc)
        have D3 := Lib.hid ((D2.out.qt q3).more (I := fun g => g = q) (fun g e => .inl (e ▸ hq1)))
        have GQ := Lib.hid (Nat.le_trans Z2.out hq1)
        have FT3 := FT.out _ _ _ C3.out
        clear hb q3 hc BG hq1
        go_wp2_with fail
        refine FT3.mono ?_
        rintro e w4 ⟨rfl, q4⟩
        have D4 := Lib.hid (D3.out.qt q4)
        have C4 := Lib.hid (C3.out.qt q4)
        clear q4 FT3
        go_wp2_with fail
        refine (RC.out _).mono ?_
        rintro e w5 ⟨rfl, q5⟩
        have D5 := Lib.hid (D4.out.qt q5)
        have C5 := Lib.hid (C4.out.qt q5)
        have AP := APP.out _ _ _ GQ.out D5.out C5.out
        rw [AEQ.out] at AP
        clear q5
        go_wp2_with fail
        refine AP.mono ?_
        rintro e w6 h6
        obtain ⟨rfl, d6, c6, _⟩ := jkp_ok h6
        have D6 := Lib.hid d6
        have C6 := Lib.hid c6
        clear h6 d6 c6 AP
        go_wp2_with fail
        refine (LK.out _).mono ?_
        rintro e w7 ⟨rfl, rfl⟩
        have D8 := D6
        have C8 := C6
        have CN := dk_counts D8.out
        rw [WR.out, FLN.out] at CN
        go_wp2_with fail
        refine CN.mono ?_
        rintro e w9 ⟨rfl, q9⟩
        have D9 := Lib.hid (D8.out.qt q9)
        have C9 := Lib.hid (C8.out.qt q9)
        have US := jused_any C9.out
        have PN := dk_pending D9.out
        rw [WY.out] at PN
        clear q9 CN
        go_wp2_with fail
        refine US.mono ?_
        rintro e wa ⟨rfl, rfl⟩
        go_wp2_with fail
        refine US.mono ?_
        rintro e wa ⟨rfl, rfl⟩
        go_wp2_with fail
        refine PN.mono ?_
        rintro e wa ⟨rfl, rfl⟩
        go_wp2_with fail
        refine (CZ.out _).mono ?_
        rintro e wa ⟨rfl, rfl⟩
        have FIN := Lib.hid D9.out.since.qt
        go_wp2
        go_ret
        exact ⟨by simp, FIN.out⟩
      · have y2 : decide (n ≤ 1099511627776) = false := decide_eq_false h2
        clear h1 h2 hn0 hn1 hy1
        go_enter Tryd.func5, Tryd.ntmps5
        go_wp2_with fail
        refine FX.mono ?_
        rintro e w1 ⟨rfl, q1⟩
        have QA := Lib.hid q1
        clear q1 FX
        go_wp2_with fail
        refine (C1.out _).mono ?_
        rintro e wx ⟨rfl, rfl⟩
        go_wp2_with fail
        refine (C2.out _).mono ?_
        rintro e wx ⟨rfl, rfl⟩
        go_wp2_with fail
        refine (L1.out _).mono ?_
        rintro e wx ⟨rfl, rfl⟩
        go_wp2_with fail
        refine (L2.out _).mono ?_
        rintro e wx ⟨rfl, rfl⟩
        go_wp2_with fail
        refine (NW.out _ QA.out).mono ?_
        rintro e w2 (⟨hno, rfl, q2⟩ | ⟨n1, n2, b, rfl, hD, q2⟩)
        · exact absurd ⟨by decide, by decide⟩ hno
        have D2 := Lib.hid (show DK (fun g => w2.heap.size ≤ g) w w2 b (DS.newD 16) from dk_new QA.out hD q2)
        have BG := dk_begin HE.out D2.out (0 : Nat) (k : Nat) (9 : Nat) (by have := HK2.out; omega)
        rw [show (((0 : Nat) : Int)) = 0 from rfl, show (((9 : Nat) : Int)) = 9 from rfl] at BG
        have Z2 := Lib.hid (Nat.le_trans QA.out.size q2.size)
        clear hD q2
        go_wp2_with fail
        refine BG.mono ?_
        rintro e w3 hb
        obtain ⟨q3, q, hq1, rfl, hc⟩ := begin_ok (i := 0) (n := k) (v := 9) hb HRZ.out
        have C3 := Lib.hid (show CJ w3 q b ⟨0, k, 9, 0, false, 0⟩ from hc)
        have D3 := Lib.hid ((D2.out.qt q3).more (I := fun g => g = q) (fun g e => .inl (e ▸ hq1)))
        have GQ := Lib.hid (Nat.le_trans Z2.out hq1)
        have FT3 := FT.out _ _ _ C3.out
        clear hb q3 hc BG hq1
        go_wp2_with fail
        refine FT3.mono ?_
        rintro e w4 ⟨rfl, q4⟩
        have D4 := Lib.hid (D3.out.qt q4)
        have C4 := Lib.hid (C3.out.qt q4)
        clear q4 FT3
        go_wp2_with fail
        refine (RC.out _).mono ?_
        rintro e w5 ⟨rfl, q5⟩
        have D5 := Lib.hid (D4.out.qt q5)
        have C5 := Lib.hid (C4.out.qt q5)
        have AP := APP.out _ _ _ GQ.out D5.out C5.out
        rw [AEQ.out] at AP
        clear q5
        go_wp2_with fail
        refine AP.mono ?_
        rintro e w6 h6
        obtain ⟨rfl, d6, c6, _⟩ := jkp_ok h6
        have D6 := Lib.hid d6
        have C6 := Lib.hid c6
        clear h6 d6 c6 AP
        go_wp2_with fail
        refine (LK.out _).mono ?_
        rintro e w7 ⟨rfl, rfl⟩
        have D8 := D6
        have C8 := C6
        have CN := dk_counts D8.out
        rw [WR.out, FLN.out] at CN
        go_wp2_with fail
        refine CN.mono ?_
        rintro e w9 ⟨rfl, q9⟩
        have D9 := Lib.hid (D8.out.qt q9)
        have C9 := Lib.hid (C8.out.qt q9)
        have US := jused_any C9.out
        have PN := dk_pending D9.out
        rw [WY.out] at PN
        clear q9 CN
        go_wp2_with fail
        refine US.mono ?_
        rintro e wa ⟨rfl, rfl⟩
        go_wp2_with fail
        refine US.mono ?_
        rintro e wa ⟨rfl, rfl⟩
        go_wp2_with fail
        refine PN.mono ?_
        rintro e wa ⟨rfl, rfl⟩
        go_wp2_with fail
        refine (CZ.out _).mono ?_
        rintro e wa ⟨rfl, rfl⟩
        have FIN := Lib.hid D9.out.since.qt
        go_wp2
        go_ret
        exact ⟨by simp, FIN.out⟩
    · have y1 : decide (1 ≤ n) = false := decide_eq_false h1
      clear h1 hn0 hn1 hy1
      go_enter Tryd.func5, Tryd.ntmps5
      go_wp2_with fail
      refine FX.mono ?_
      rintro e w1 ⟨rfl, q1⟩
      have QA := Lib.hid q1
      clear q1 FX
      go_wp2_with fail
      refine (C1.out _).mono ?_
      rintro e wx ⟨rfl, rfl⟩
      go_wp2_with fail
      refine (C2.out _).mono ?_
      rintro e wx ⟨rfl, rfl⟩
      go_wp2_with fail
      refine (L1.out _).mono ?_
      rintro e wx ⟨rfl, rfl⟩
      go_wp2_with fail
      refine (L2.out _).mono ?_
      rintro e wx ⟨rfl, rfl⟩
      go_wp2_with fail
      refine (NW.out _ QA.out).mono ?_
      rintro e w2 (⟨hno, rfl, q2⟩ | ⟨n1, n2, b, rfl, hD, q2⟩)
      · exact absurd ⟨by decide, by decide⟩ hno
      have D2 := Lib.hid (show DK (fun g => w2.heap.size ≤ g) w w2 b (DS.newD 16) from dk_new QA.out hD q2)
      have BG := dk_begin HE.out D2.out (0 : Nat) (k : Nat) (9 : Nat) (by have := HK2.out; omega)
      rw [show (((0 : Nat) : Int)) = 0 from rfl, show (((9 : Nat) : Int)) = 9 from rfl] at BG
      have Z2 := Lib.hid (Nat.le_trans QA.out.size q2.size)
      clear hD q2
      go_wp2_with fail
      refine BG.mono ?_
      rintro e w3 hb
      obtain ⟨q3, q, hq1, rfl, hc⟩ := begin_ok (i := 0) (n := k) (v := 9) hb HRZ.out
      have C3 := Lib.hid (show CJ w3 q b ⟨0, k, 9, 0, false, 0⟩ from hc)
      have D3 := Lib.hid ((D2.out.qt q3).more (I := fun g => g = q) (fun g e => .inl (e ▸ hq1)))
      have GQ := Lib.hid (Nat.le_trans Z2.out hq1)
      have FT3 := FT.out _ _ _ C3.out
      clear hb q3 hc BG hq1
      go_wp2_with fail
      refine FT3.mono ?_
      rintro e w4 ⟨rfl, q4⟩
      have D4 := Lib.hid (D3.out.qt q4)
      have C4 := Lib.hid (C3.out.qt q4)
      clear q4 FT3
      go_wp2_with fail
      refine (RC.out _).mono ?_
      rintro e w5 ⟨rfl, q5⟩
      have D5 := Lib.hid (D4.out.qt q5)
      have C5 := Lib.hid (C4.out.qt q5)
      have AP := APP.out _ _ _ GQ.out D5.out C5.out
      rw [AEQ.out] at AP
      clear q5
      go_wp2_with fail
      refine AP.mono ?_
      rintro e w6 h6
      obtain ⟨rfl, d6, c6, _⟩ := jkp_ok h6
      have D6 := Lib.hid d6
      have C6 := Lib.hid c6
      clear h6 d6 c6 AP
      go_wp2_with fail
      refine (LK.out _).mono ?_
      rintro e w7 ⟨rfl, rfl⟩
      have D8 := D6
      have C8 := C6
      have CN := dk_counts D8.out
      rw [WR.out, FLN.out] at CN
      go_wp2_with fail
      refine CN.mono ?_
      rintro e w9 ⟨rfl, q9⟩
      have D9 := Lib.hid (D8.out.qt q9)
      have C9 := Lib.hid (C8.out.qt q9)
      have US := jused_any C9.out
      have PN := dk_pending D9.out
      rw [WY.out] at PN
      clear q9 CN
      go_wp2_with fail
      refine US.mono ?_
      rintro e wa ⟨rfl, rfl⟩
      go_wp2_with fail
      refine US.mono ?_
      rintro e wa ⟨rfl, rfl⟩
      go_wp2_with fail
      refine PN.mono ?_
      rintro e wa ⟨rfl, rfl⟩
      go_wp2_with fail
      refine (CZ.out _).mono ?_
      rintro e wa ⟨rfl, rfl⟩
      have FIN := Lib.hid D9.out.since.qt
      go_wp2
      go_ret
      exact ⟨by simp, FIN.out⟩
end Go.Proofs.YtggogaaooacooaaDoor
