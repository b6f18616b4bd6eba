/-
  The contracts of money's mayStandBehind, Code.
-/
import Derived.Test.YtjjlpjfojgkpkaaGreatDoorMFmt
import Derived.Test.YtjjlpjfojgkpkaaGreatDoorMCodeB
namespace Go.Proofs.YtjjlpjfojgkpkaaGreatDoor
open Go.RowKit Go.WideShapes
set_option maxRecDepth 100000

theorem retB {a b : Bool} (h : a = b) : Ending.returned (.bool a) = .returned (.bool b) := by rw [h]
theorem mayYes (d : Nat) (w : World) (h : d ≤ 6) : Calls Tryz.prog 27 #[.int .i64 d] w fun e w' => e = .returned (.bool true) ∧ w = w' := by
  have b1 : decide ((d : Int) ≤ 6) = true := decide_eq_true (by omega)
  go_enter Tryz.func27, Tryz.ntmps27
  go_wp2
  go_ret
  exact ⟨rfl, rfl⟩
theorem mayNo (n : Int) (w : World) (h : n < 0 ∨ 6 < n) : Calls Tryz.prog 27 #[.int .i64 n] w fun e w' => e = .returned (.bool false) ∧ w = w' := by
  rcases h with h | h
  · have b1 : decide (0 ≤ n) = false := decide_eq_false (by omega)
    go_enter Tryz.func27, Tryz.ntmps27
    go_wp2
    go_ret
    exact ⟨rfl, rfl⟩
  · have b1 : decide (0 ≤ n) = true := decide_eq_true (by omega)
    have b2 : decide (n ≤ 6) = false := decide_eq_false (by omega)
    go_enter Tryz.func27, Tryz.ntmps27
    go_wp2
    go_ret
    exact ⟨rfl, rfl⟩
set_option maxHeartbeats 1600000 in
theorem code_any (s : ByteArray) (w : World) (hs : s.size ≤ 1125899906842624) :
    Calls Tryz.prog 13 #[.string s] w fun e w' => e = .returned (.bool (codeB s.data.toList)) ∧ w = w' := by
  by_cases h3 : s.size = 3
  · have HA := Lib.hid (fun hc => all_good h3 hc)
    have hb := fun k (hk : k < s.size) (hc : isCap s[k] = false) => all_bad hk hc
    have HB := Lib.hid hb
    have h3n : ((s.size : Int) != 3) = false := by rw [bne_eq_false_iff_eq]; omega
    have hz : 3 ≤ s.size := by omega
    have hz2 : s.size ≤ 3 := by omega
    generalize codeB s.data.toList = F at *
    clear h3 hb
    go_enter Tryz.func13, Tryz.ntmps13
    go_wp2
    go_loop [9] (fun i => ∃ k : Nat, i = .int .i64 k ∧ k ≤ s.size ∧ ∀ j, (hj : j < s.size) → j < k → isCap s[j] = true) (fun i => 3 - (intOf i).toNat)
    case atStart => exact ⟨0, rfl, by omega, fun j _ h => absurd h (by omega)⟩
    case round =>
      obtain ⟨k, rfl, hk, hall⟩ := hrel
      have HL := Lib.hid hall
      clear hall
      by_cases hks : k < s.size
      · have hcb := s[k].toNat_lt
        by_cases hc : 65 ≤ s[k].toNat ∧ s[k].toNat ≤ 90
        · have HN := Lib.hid (show ∀ j, (hj : j < s.size) → j < k + 1 → isCap s[j] = true from fun j hj h => by
            rcases Nat.lt_or_ge j k with h2 | h2
            · exact HL.out j hj h2
            · obtain rfl : j = k := by omega
              exact decide_eq_true hc)
          obtain ⟨hc1, hc2⟩ := hc
          go_wp2
          go_round
          case rel => exact ⟨k + 1, by go_num, by omega, HN.out⟩
          case measure => simp [intOf]; omega
        · have HX := Lib.hid (HB.out k hks (decide_eq_false hc))
          by_cases hc1 : 65 ≤ s[k].toNat
          · have hc2 : 90 < s[k].toNat := by omega
            clear hc
            go_wp2
            go_ret
            exact ⟨retB HX.out.symm, rfl⟩
          · have hc2 : s[k].toNat < 65 := by omega
            clear hc
            go_wp2
            go_ret
            exact ⟨retB HX.out.symm, rfl⟩
      · have hk2 : k = s.size := by omega
        subst hk2
        have HX := Lib.hid (HA.out (fun j hj => HL.out j hj (by omega)))
        clear hks hk
        go_wp2
        go_ret
        exact ⟨retB HX.out.symm, rfl⟩
  · have HF := Lib.hid (code_long h3)
    have h3n : ((s.size : Int) != 3) = true := by rw [bne_iff_ne]; omega
    clear h3
    go_enter Tryz.func13, Tryz.ntmps13
    go_wp2
    go_ret
    exact ⟨retB HF.out.symm, rfl⟩
end Go.Proofs.YtjjlpjfojgkpkaaGreatDoor
