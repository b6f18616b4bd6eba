/-
  The contract of money's Sub (cut out of XMSumM: not every dump has it).
-/
import Derived.Test.YtjjlpjfojgkpkaaGreatDoorMSumM
namespace Go.Proofs.YtjjlpjfojgkpkaaGreatDoor
open Go.RowKit Go.WideShapes
set_option maxRecDepth 100000

theorem not_i64 (b : Int) (b0 : -9223372036854775808 ≤ b) (b1 : b < 9223372036854775808) : bits .xor .i64 (-1) b = -1 - b := by
  by_cases h : 0 ≤ b
  · obtain ⟨n, rfl⟩ := Int.eq_ofNat_of_zero_le h
    exact i64_not n (by omega)
  · show IntKind.i64.wrap ((BitVec.ofInt 64 (-1) ^^^ BitVec.ofInt 64 b).toNat : Int) = _
    have h1 : BitVec.ofInt 64 (-1) = BitVec.allOnes 64 := by decide
    have h2 : (BitVec.ofInt 64 b).toNat = (b + 18446744073709551616).toNat := by
      rw [BitVec.toNat_ofInt]
      omega
    rw [h1, BitVec.allOnes_xor, BitVec.toNat_not, h2]
    simp [IntKind.wrap, IntKind.bits, IntKind.signed]
    omega
set_option maxHeartbeats 800000 in
theorem sub_any (ad : Nat → Addr) (a b : Int) (w : World) (hE : Errs ad w) (a0 : -9223372036854775808 ≤ a) (a1 : a < 9223372036854775808) (b0 : -9223372036854775808 ≤ b) (b1 : b < 9223372036854775808) :
    Calls Tryz.prog 15 #[.int .i64 a, .int .i64 b] w fun e w' => e = .returned (sumM ad (a - b)) ∧ Qt w w' := by
  have SU := Lib.hid (sum4_any ad _ _ _ [a, -1 - b, 1] _ (hE.alloc _) (built_ints w [a, -1 - b, 1] 2 3 rfl (by show (3 : Nat) ≤ _; decide)) (by intro x hx; simp at hx; omega))
  have HK := Lib.hid ((Qt.refl w).alloc (.cells #[.int .i64 a, .int .i64 (-1 - b), .int .i64 1] 2))
  rw [show M.sumI [a, -1 - b, 1] = a - b by simp [M.sumI]; omega] at SU
  obtain ⟨x, y, hxy⟩ := sumM_shape ad (a - b)
  rw [hxy] at SU ⊢
  have EN := not_i64 b b0 b1
  clear hE hxy
  go_enter Tryz.func15, Tryz.ntmps15
  go_wp2_with fail
  refine (SU.out).mono ?_
  rintro e w1 ⟨rfl, k1⟩
  have K1 := Lib.hid (Qt.trans HK.out k1); clear k1
  go_wp2
  go_ret2
  exact ⟨rfl, K1.out⟩
end Go.Proofs.YtjjlpjfojgkpkaaGreatDoor
