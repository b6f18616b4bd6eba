/-
  The contract of remitlaw07.SectorStamps: it answers true.
-/
import Derived.Test.YtojcpegdbnnmdaaDoorELives
import Derived.Test.YtojcpegdbnnmdaaDoorNum
namespace Go.Proofs.YtojcpegdbnnmdaaDoor
open Go.RowKit Go.WideShapes
set_option maxRecDepth 100000

theorem Errs.e3 {ad : Nat → Addr} {w : World} (h : Errs ad w) : E3 (ad 6) (ad 3) (ad 7) w := ⟨h.cells 5 _ rfl, h.cells 2 _ rfl, h.cells 6 _ rfl⟩
theorem e3V_errs (ad : Nat → Addr) {n : Nat} (h : n = 0 ∨ n = 3 ∨ n = 6 ∨ n = 7) : e3V (ad 6) (ad 3) (ad 7) n = errV ad n := by
  rcases h with rfl | rfl | rfl | rfl <;> rfl
theorem logR_cases (v i : Int) : (E.logR v i).2 = 0 ∨ (E.logR v i).2 = 6 := by
  unfold E.logR; split
  · exact .inl rfl
  · exact .inr rfl

/-- The loop over both errors. -/
def TwoAt (w : World) (g : Nat) (a b : Value) (i : Value) (wr : World) : Prop := ∃ k : Nat, k ≤ 2 ∧ i = .int .i64 k ∧ wr.cell? ⟨g, 0, none⟩ = some a ∧ wr.cell? ⟨g, 1, none⟩ = some b ∧ Qt w wr
abbrev eV6 (ad : Nat → Addr) : Value := .iface 70 (.pointer (some (ad 6)))
theorem TwoAt.start {w w3 : World} (a b : Value) (q : Qt w w3) : TwoAt w w3.heap.size a b (.int .i64 0) (w3.alloc (.cells #[a, b] 28)) := by
  have hn := heap_alloc_new w3 (.cells #[a, b] 28)
  exact ⟨0, by omega, rfl, by rw [cell_of_row _ _ _ _ _ _ hn]; rfl, by rw [cell_of_row _ _ _ _ _ _ hn]; rfl, Keeps.alloc q _⟩
theorem TwoAt.next {w wr : World} {g k : Nat} {a b : Value} (hk : k < 2) (c0 : wr.cell? ⟨g, 0, none⟩ = some a) (c1 : wr.cell? ⟨g, 1, none⟩ = some b) (q : Qt w wr) : TwoAt w g a b (.int .i64 ((k : Int) + 1)) wr := ⟨k + 1, hk, by push_cast; rfl, c0, c1, q⟩
theorem TwoAt.qt {w wr W : World} {g : Nat} {a b i : Value} (h : TwoAt w g a b i wr) (q : Qt wr W) : TwoAt w g a b i W := by
  obtain ⟨k, h1, h2, h3, h4, h5⟩ := h
  exact ⟨k, h1, h2, q.cellv h3, q.cellv h4, Qt.trans h5 q⟩

set_option maxHeartbeats 3200000 in
theorem stamps_any (ad : Nat → Addr) (v i x j : Int) (w : World) (hv0 : -9223372036854775808 ≤ v) (hv1 : v ≤ 9223372036854775807) (hi0 : -9223372036854775808 ≤ i) (hi1 : i ≤ 9223372036854775807)
    (hx0 : -9223372036854775808 ≤ x) (hx1 : x ≤ 9223372036854775807) (hj0 : -9223372036854775808 ≤ j) (hj1 : j ≤ 9223372036854775807) (hE : Errs ad w) (hT : Tab w) :
    Calls Tryd.prog 7 #[.int .i64 v, .int .i64 i, .int .i64 x, .int .i64 j] w fun e w' => e = .returned (.bool true) ∧ Qt w w' := by
  have FX := Lib.hid (fixed_any _ _ _ w hE.e3 hT)
  have G1 := Lib.hid (show ∀ W, Qt w W → Calls Tryd.prog 16 #[.int .i64 v, .int .i64 i] W (fun e w' => e = .returned (.tuple #[.int .u64 (E.logR v i).1, errV ad (E.logR v i).2]) ∧ Qt W w') from fun W k => by
    have h := log_any _ _ _ v i W hv0 hv1 hi0 hi1 (hE.e3.qt k)
    rw [e3V_errs ad (by have := logR_cases v i; omega)] at h
    exact h)
  have G2 := Lib.hid (show ∀ W, Qt w W → Calls Tryd.prog 16 #[.int .i64 x, .int .i64 j] W (fun e w' => e = .returned (.tuple #[.int .u64 (E.logR x j).1, errV ad (E.logR x j).2]) ∧ Qt W w') from fun W k => by
    have h := log_any _ _ _ x j W hx0 hx1 hj0 hj1 (hE.e3.qt k)
    rw [e3V_errs ad (by have := logR_cases x j; omega)] at h
    exact h)
  have NM := Lib.hid (fun W (k : Qt w W) => num_any ad 6 W (hE.kept k (OffErrs.none ad)) (by omega))
  rw [errV_pos ad (by omega)] at NM
  clear hE hT
  by_cases h1 : E.logOk v i
  · have R1 : E.logR v i = (v * 1048576 + i + 1, 0) := if_pos h1
    rw [R1, errV_zero] at G1
    obtain ⟨a1, a2, a3, a4⟩ := h1
    clear R1
    by_cases h2 : E.logOk x j
    · have R2 : E.logR x j = (x * 1048576 + j + 1, 0) := if_pos h2
      rw [R2, errV_zero] at G2
      obtain ⟨b1, b2, b3, b4⟩ := h2
      clear R2
      go_enter Tryd.func7, Tryd.ntmps7
      go_wp2_with fail
      refine FX.out.mono ?_
      rintro e w1 ⟨rfl, k⟩
      have K1 := Lib.hid k; clear k
      go_wp2_with fail
      refine (G1.out _ K1.out).mono ?_
      rintro e w2 ⟨rfl, k⟩
      have K2 := Lib.hid (Qt.trans K1.out k); clear k
      go_wp2_with fail
      refine (G2.out _ K2.out).mono ?_
      rintro e w3 ⟨rfl, k⟩
      have K3 := Lib.hid (Qt.trans K2.out k); clear k K1 K2
      have START := Lib.hid (TwoAt.start .nilIface .nilIface K3.out)
      go_wp2
      go_loopw [14, 33] (fun _ i wr => TwoAt w w3.heap.size .nilIface .nilIface i wr) (fun _ i _ => 2 - (intOf i).toNat)
      case atStart => exact START.out
      case round =>
        obtain ⟨k, hk, rfl, c0, c1, q⟩ := hrel
        have HQ := Lib.hid q; clear q
        by_cases e0 : k = 0
        · subst e0
          have FIN := Lib.hid (TwoAt.next (k := 0) (by omega) c0 c1 HQ.out)
          go_wp2
          exact ⟨FIN.out, by simp [intOf]⟩
        by_cases e1 : k = 1
        · subst e1
          have FIN := Lib.hid (TwoAt.next (k := 1) (by omega) c0 c1 HQ.out)
          go_wp2
          exact ⟨FIN.out, by simp [intOf]⟩
        obtain rfl : k = 2 := by omega
        clear c0 c1 e0 e1 hk
        have f1 : 0 < v * 1048576 + i + 1 := by omega
        have f2 : 0 < x * 1048576 + j + 1 := by omega
        rcases Int.lt_trichotomy v x with t1 | t1 | t1
        · have f3 : v * 1048576 + i + 1 < x * 1048576 + j + 1 := by omega
          go_wp2
          all_goals
            go_ret
            exact ⟨congrArg (fun b => Ending.returned (.bool b)) (by simp <;> omega), HQ.out⟩
        · subst t1
          have f5 : (v * 1048576 + i + 1 == v * 1048576 + j + 1) = (i == j) := by rw [Bool.eq_iff_iff, beq_iff_eq, beq_iff_eq]; omega
          rcases Int.lt_trichotomy i j with t2 | t2 | t2
          · have f3 : v * 1048576 + i + 1 < v * 1048576 + j + 1 := by omega
            go_wp2
            all_goals
              go_ret
              exact ⟨congrArg (fun b => Ending.returned (.bool b)) (by simp <;> omega), HQ.out⟩
          · subst t2
            go_wp2
            all_goals
              go_ret
              exact ⟨congrArg (fun b => Ending.returned (.bool b)) (by simp <;> omega), HQ.out⟩
          · have f3 : ¬ (v * 1048576 + i + 1 < v * 1048576 + j + 1) := by omega
            have f4 : ¬ (i < j) := by omega
            go_wp2
            all_goals
              go_ret
              exact ⟨congrArg (fun b => Ending.returned (.bool b)) (by simp <;> omega), HQ.out⟩
        · have f3 : x * 1048576 + j + 1 < v * 1048576 + i + 1 := by omega
          go_wp2
          all_goals
            go_ret
            exact ⟨congrArg (fun b => Ending.returned (.bool b)) (by simp <;> omega), HQ.out⟩
    · have R2 : E.logR x j = (0, 6) := if_neg h2
      rw [R2, errV_pos ad (by omega)] at G2
      clear R2 h2
      go_enter Tryd.func7, Tryd.ntmps7
      go_wp2_with fail
      refine FX.out.mono ?_
      rintro e w1 ⟨rfl, k⟩
      have K1 := Lib.hid k; clear k
      go_wp2_with fail
      refine (G1.out _ K1.out).mono ?_
      rintro e w2 ⟨rfl, k⟩
      have K2 := Lib.hid (Qt.trans K1.out k); clear k
      go_wp2_with fail
      refine (G2.out _ K2.out).mono ?_
      rintro e w3 ⟨rfl, k⟩
      have K3 := Lib.hid (Qt.trans K2.out k); clear k K1 K2
      have START := Lib.hid (TwoAt.start .nilIface (eV6 ad) K3.out)
      go_wp2
      go_loopw [14, 33] (fun _ i wr => TwoAt w w3.heap.size .nilIface (eV6 ad) i wr) (fun _ i _ => 2 - (intOf i).toNat)
      case atStart => exact START.out
      case round =>
        obtain ⟨k, hk, rfl, c0, c1, q⟩ := hrel
        have HQ := Lib.hid q; clear q
        by_cases e0 : k = 0
        · subst e0
          have FIN := Lib.hid (TwoAt.next (k := 0) (by omega) c0 c1 HQ.out)
          go_wp2
          exact ⟨FIN.out, by simp [intOf]⟩
        by_cases e1 : k = 1
        · subst e1
          have FIN := Lib.hid (TwoAt.next (k := 1) (by omega) c0 c1 HQ.out)
          have HN := Lib.hid (NM.out _ HQ.out)
          have TN := Lib.hid (fun W (q : Qt wr W) => TwoAt.qt FIN.out q)
          clear FIN
          go_wp2_with fail
          refine HN.out.mono ?_
          rintro e w4 ⟨rfl, k4⟩
          have FIN := Lib.hid (TN.out _ k4)
          clear k4 TN HN
          go_wp2
          exact ⟨FIN.out, by simp [intOf]⟩
        obtain rfl : k = 2 := by omega
        clear c0 c1 e0 e1 hk
        go_wp2
        all_goals
          go_ret
          exact ⟨rfl, HQ.out⟩
  · have R1 : E.logR v i = (0, 6) := if_neg h1
    rw [R1, errV_pos ad (by omega)] at G1
    have hk2 : v < 1 ∨ 1099511627776 < v ∨ i < 0 ∨ 65536 ≤ i := by unfold E.logOk at h1; omega
    clear R1 h1
    by_cases h2 : E.logOk x j
    · have R2 : E.logR x j = (x * 1048576 + j + 1, 0) := if_pos h2
      rw [R2, errV_zero] at G2
      clear R2 h2
      go_enter Tryd.func7, Tryd.ntmps7
      go_wp2_with fail
      refine FX.out.mono ?_
      rintro e w1 ⟨rfl, k⟩
      have K1 := Lib.hid k; clear k
      go_wp2_with fail
      refine (G1.out _ K1.out).mono ?_
      rintro e w2 ⟨rfl, k⟩
      have K2 := Lib.hid (Qt.trans K1.out k); clear k
      go_wp2_with fail
      refine (G2.out _ K2.out).mono ?_
      rintro e w3 ⟨rfl, k⟩
      have K3 := Lib.hid (Qt.trans K2.out k); clear k K1 K2
      have START := Lib.hid (TwoAt.start (eV6 ad) .nilIface K3.out)
      go_wp2
      go_loopw [14, 33] (fun _ i wr => TwoAt w w3.heap.size (eV6 ad) .nilIface i wr) (fun _ i _ => 2 - (intOf i).toNat)
      case atStart => exact START.out
      case round =>
        obtain ⟨k, hk, rfl, c0, c1, q⟩ := hrel
        have HQ := Lib.hid q; clear q
        by_cases e0 : k = 0
        · subst e0
          have FIN := Lib.hid (TwoAt.next (k := 0) (by omega) c0 c1 HQ.out)
          have HN := Lib.hid (NM.out _ HQ.out)
          have TN := Lib.hid (fun W (q : Qt wr W) => TwoAt.qt FIN.out q)
          clear FIN
          go_wp2_with fail
          refine HN.out.mono ?_
          rintro e w4 ⟨rfl, k4⟩
          have FIN := Lib.hid (TN.out _ k4)
          clear k4 TN HN
          go_wp2
          exact ⟨FIN.out, by simp [intOf]⟩
        by_cases e1 : k = 1
        · subst e1
          have FIN := Lib.hid (TwoAt.next (k := 1) (by omega) c0 c1 HQ.out)
          go_wp2
          exact ⟨FIN.out, by simp [intOf]⟩
        obtain rfl : k = 2 := by omega
        clear c0 c1 e0 e1 hk
        go_wp2
        all_goals
          go_ret
          exact ⟨rfl, HQ.out⟩
    · have R2 : E.logR x j = (0, 6) := if_neg h2
      rw [R2, errV_pos ad (by omega)] at G2
      clear R2 h2
      go_enter Tryd.func7, Tryd.ntmps7
      go_wp2_with fail
      refine FX.out.mono ?_
      rintro e w1 ⟨rfl, k⟩
      have K1 := Lib.hid k; clear k
      go_wp2_with fail
      refine (G1.out _ K1.out).mono ?_
      rintro e w2 ⟨rfl, k⟩
      have K2 := Lib.hid (Qt.trans K1.out k); clear k
      go_wp2_with fail
      refine (G2.out _ K2.out).mono ?_
      rintro e w3 ⟨rfl, k⟩
      have K3 := Lib.hid (Qt.trans K2.out k); clear k K1 K2
      have START := Lib.hid (TwoAt.start (eV6 ad) (eV6 ad) K3.out)
      go_wp2
      go_loopw [14, 33] (fun _ i wr => TwoAt w w3.heap.size (eV6 ad) (eV6 ad) i wr) (fun _ i _ => 2 - (intOf i).toNat)
      case atStart => exact START.out
      case round =>
        obtain ⟨k, hk, rfl, c0, c1, q⟩ := hrel
        have HQ := Lib.hid q; clear q
        by_cases e0 : k = 0
        · subst e0
          have FIN := Lib.hid (TwoAt.next (k := 0) (by omega) c0 c1 HQ.out)
          have HN := Lib.hid (NM.out _ HQ.out)
          have TN := Lib.hid (fun W (q : Qt wr W) => TwoAt.qt FIN.out q)
          clear FIN
          go_wp2_with fail
          refine HN.out.mono ?_
          rintro e w4 ⟨rfl, k4⟩
          have FIN := Lib.hid (TN.out _ k4)
          clear k4 TN HN
          go_wp2
          exact ⟨FIN.out, by simp [intOf]⟩
        by_cases e1 : k = 1
        · subst e1
          have FIN := Lib.hid (TwoAt.next (k := 1) (by omega) c0 c1 HQ.out)
          have HN := Lib.hid (NM.out _ HQ.out)
          have TN := Lib.hid (fun W (q : Qt wr W) => TwoAt.qt FIN.out q)
          clear FIN
          go_wp2_with fail
          refine HN.out.mono ?_
          rintro e w4 ⟨rfl, k4⟩
          have FIN := Lib.hid (TN.out _ k4)
          clear k4 TN HN
          go_wp2
          exact ⟨FIN.out, by simp [intOf]⟩
        obtain rfl : k = 2 := by omega
        clear c0 c1 e0 e1 hk
        go_wp2
        all_goals
          go_ret
          exact ⟨rfl, HQ.out⟩
end Go.Proofs.YtojcpegdbnnmdaaDoor
