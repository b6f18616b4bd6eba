/-
  The contracts of checks.Extend, checks.Sum, and of the reference's.
-/
import Derived.Test.YtnnkibhlildojaaDoorCBase
import Derived.Laws.BitsAllLaws
import Derived.LoopTactic
import Derived.WalkLawsBesides
import Derived.Outline
namespace Go.Proofs.YtnnkibhlildojaaDoor
open Go.RowKit Go.WideShapes
set_option maxRecDepth 100000

/-- The table of package checks. -/
def Tab (w : World) : Prop := ∀ k, k < 16 → w.cell? ⟨38, k, none⟩ = some (.int .u32 (C.tab.getD k 0 : Nat))
theorem Tab.qt {w w' : World} (h : Tab w) (k : Qt w w') : Tab w' := fun i hi => k.cellv (h i hi)

theorem take_snoc' (s : ByteArray) (k : Nat) (h : k < s.size) : s.data.toList.take (k + 1) = s.data.toList.take k ++ [s[k]] := by
  rw [List.take_succ_eq_append_getElem (by simpa using h)]; rfl
theorem go_snoc (r : Nat) (s : ByteArray) (k : Nat) (h : k < s.size) : C.go r (s.data.toList.take (k + 1)) = C.byte8 (C.go r (s.data.toList.take k) ^^^ s[k].toNat) := by
  rw [take_snoc' s k h, C.go_append]; rfl

theorem u32_and15 (a : Nat) (ha : a < 4294967296) : bits .and .u32 (a : Int) 15 = ((a % 16 : Nat) : Int) := by
  have h := u32_and_nat a 15 ha (by decide)
  rw [Nat.and_two_pow_sub_one_eq_mod a 4] at h
  exact h
theorem u32_not (x : Nat) (hx : x < 4294967296) : bits .xor .u32 IntKind.u32.max (x : Int) = ((x ^^^ C.full : Nat) : Int) := by
  rw [Nat.xor_comm]
  exact u32_xor_nat C.full x (by decide) hx

theorem tab_lt : ∀ k < 16, C.tab.getD k 0 < 4294967296 := by decide
theorem nib_facts {w : World} (hT : Tab w) (r : Nat) (hr : r < 4294967296) : ∃ t : Nat, w.cell? ⟨38, r % 16, none⟩ = some (.int .u32 t) ∧ bits .and .u32 (r : Int) 15 = ((r % 16 : Nat) : Int) ∧ bits .xor .u32 ((r : Int) / 16) (t : Int) = ((C.nib r : Nat) : Int) ∧ C.nib r < 4294967296 := by
  have hm := Nat.mod_lt r (show 0 < 16 by decide)
  refine ⟨_, hT _ hm, u32_and15 r hr, ?_, C.nib_lt hr⟩
  rw [C.nib_tab r]
  exact u32_xor_nat (r / 16) _ (by omega) (tab_lt _ hm)

set_option maxHeartbeats 800000 in
theorem extend_any (x : Nat) (s : ByteArray) (w : World) (hx : x < 4294967296) (hs : s.size ≤ maxLen) (hT : Tab w) :
    Calls Tryd.prog 54 #[.int .u32 x, .string s] w fun e w' => e = .returned (.int .u32 (C.extend x s.data.toList : Nat)) ∧ w = w' := by
  unfold maxLen at hs
  have HT := Lib.hid hT
  have hx2 : x ^^^ C.full < 2 ^ 32 := Nat.xor_lt_two_pow hx (by decide)
  have hn := u32_not x hx
  have HE := Lib.hid (show C.extend x s.data.toList = C.go (x ^^^ C.full) s.data.toList ^^^ C.full from rfl)
  generalize hq : x ^^^ C.full = q at *
  clear hq hT
  go_enter Tryd.func54, Tryd.ntmps54
  go_wp2
  go_loop [5, 6, 11] (fun r _ i => ∃ k : Nat, k ≤ s.size ∧ i = .int .i64 k ∧ r = .int .u32 (C.go q (s.data.toList.take k) : Nat)) (fun _ _ i => s.size - (intOf i).toNat)
  case atStart => exact ⟨0, Nat.zero_le _, rfl, rfl⟩
  case round =>
    obtain ⟨k, hk, rfl, rfl⟩ := hrel
    have hr := C.go_lt (s.data.toList.take k) hx2
    by_cases hlt : k < s.size
    · have HS := Lib.hid (go_snoc q s k hlt)
      have hc := s[k].toNat_lt
      generalize C.go q (s.data.toList.take k) = r at *
      have h1 := u32_xor_nat r s[k].toNat hr (by omega)
      have hr1 : r ^^^ s[k].toNat < 4294967296 := Nat.xor_lt_two_pow (n := 32) hr (by omega)
      rw [C.byte8_nib] at HS
      generalize r ^^^ s[k].toNat = r1 at *
      obtain ⟨t1, hc1, ha1, hx1, hl1⟩ := nib_facts HT.out r1 hr1
      generalize C.nib r1 = r2 at *
      obtain ⟨t2, hc2, ha2, hx2', hl2⟩ := nib_facts HT.out r2 hl1
      generalize C.nib r2 = r3 at *
      go_wp2
      go_round
      case rel => exact ⟨k + 1, by omega, by go_num, by rw [HS.out]⟩
      case measure => simp [intOf]; omega
    · obtain rfl : k = s.size := by omega
      have ht : s.data.toList.take s.size = s.data.toList := List.take_of_length_le (by simp)
      rw [ht] at hr
      have hx3 := u32_not (C.go q s.data.toList) hr
      have HX := Lib.hid hx3
      rw [ht]
      clear hx3 hlt
      go_wp2
      go_ret
      exact ⟨ret_i (by rw [HE.out, HX.out]), rfl⟩

theorem sum_any (s : ByteArray) (w : World) (hs : s.size ≤ maxLen) (hT : Tab w) :
    Calls Tryd.prog 46 #[.string s] w fun e w' => e = .returned (.int .u32 (C.sum s.data.toList : Nat)) ∧ w = w' := by
  go_enter Tryd.func46, Tryd.ntmps46
  go_wp2_with fail
  refine (extend_any 0 s w (by decide) hs hT).mono ?_
  rintro e w' ⟨rfl, rfl⟩
  go_wp2
  go_ret
  exact ⟨rfl, rfl⟩

/-! ### The reference -/
set_option maxHeartbeats 800000 in
theorem refExtend_any (x : Nat) (s : ByteArray) (w : World) (hx : x < 4294967296) (hs : s.size ≤ maxLen) :
    Calls Tryd.prog 55 #[.int .u32 x, .string s] w fun e w' => e = .returned (.int .u32 (C.extend x s.data.toList : Nat)) ∧ w = w' := by
  unfold maxLen at hs
  have hx2 : x ^^^ C.full < 2 ^ 32 := Nat.xor_lt_two_pow hx (by decide)
  have hn := u32_xor_nat x C.full hx (by decide)
  rw [show ((C.full : Nat) : Int) = 4294967295 from rfl] at hn
  have HE := Lib.hid (show C.extend x s.data.toList = C.go (x ^^^ C.full) s.data.toList ^^^ C.full from rfl)
  generalize hq : x ^^^ C.full = q at *
  clear hq
  go_enter Tryd.func55, Tryd.ntmps55
  go_wp2
  go_loop [5, 6, 7, 8] (fun r i _ _ => ∃ k : Nat, k ≤ s.size ∧ i = .int .i64 k ∧ r = .int .u32 (C.go q (s.data.toList.take k) : Nat)) (fun _ i _ _ => s.size - (intOf i).toNat)
  case atStart => exact ⟨0, Nat.zero_le _, rfl, rfl⟩
  case round =>
    obtain ⟨k, hk, rfl, rfl⟩ := hrel
    have hr := C.go_lt (s.data.toList.take k) hx2
    by_cases hlt : k < s.size
    · have HS := Lib.hid (go_snoc q s k hlt)
      have hc := s[k].toNat_lt
      generalize C.go q (s.data.toList.take k) = r at *
      have h1 := u32_xor_nat r s[k].toNat hr (by omega)
      have hr1 : r ^^^ s[k].toNat < 4294967296 := Nat.xor_lt_two_pow (n := 32) hr (by omega)
      generalize r ^^^ s[k].toNat = r1 at *
      go_wp2
      go_loop [5, 7, 8] (fun r i _ => ∃ j z : Nat, j ≤ 8 ∧ i = .int .i64 j ∧ z < 4294967296 ∧ r = .int .u32 z ∧ C.byte8 r1 = C.bits (8 - j) z) (fun _ i _ => 8 - (intOf i).toNat)
      case atStart => exact ⟨0, r1, by omega, rfl, hr1, rfl, C.bits_eight r1⟩
      case round =>
        obtain ⟨j, z, hj, rfl, hz, rfl, hb⟩ := hrel
        have HB := Lib.hid hb
        clear hb
        by_cases hl8 : j < 8
        · have HT := Lib.hid (C.bits_step hl8 z)
          have hbl := C.bit_lt hz
          have hx4 : bits .xor .u32 ((z : Int) / 2) 2197175160 = ((z / 2 ^^^ C.poly : Nat) : Int) := u32_xor_nat (z / 2) C.poly (by omega) (by decide)
          have HZ := Lib.hid hz
          rcases Nat.mod_two_eq_zero_or_one z with hm | hm
          · have HB2 := Lib.hid (C.bit_even hm)
            have hd : decide ((z : Int) % 2 = 1) = false := by simp; omega
            have hd2 : ((z : Int) % 2 == 1) = false := by simpa using hd
            clear hm hx4
            go_wp2
            go_round
            case rel => exact ⟨j + 1, z / 2, by omega, by go_num, by have := HZ.out; omega, by go_num, by rw [HB.out, HT.out, HB2.out]⟩
            case measure => simp [intOf]; omega
          · have HB2 := Lib.hid (C.bit_odd hm)
            have hd : decide ((z : Int) % 2 = 1) = true := by simp; omega
            have hd2 : ((z : Int) % 2 == 1) = true := by simpa using hd
            clear hm
            go_wp2
            go_round
            case rel => exact ⟨j + 1, z / 2 ^^^ C.poly, by omega, by go_num, by rw [← HB2.out]; exact hbl, rfl, by rw [HB.out, HT.out, HB2.out]⟩
            case measure => simp [intOf]; omega
        · obtain rfl : j = 8 := by omega
          have HB2 := Lib.hid (show C.byte8 r1 = z from HB.out)
          go_wp2
          go_round
          case rel => exact ⟨k + 1, by omega, by go_num, by rw [HS.out, HB2.out]⟩
          case measure => simp [intOf]; omega
    · obtain rfl : k = s.size := by omega
      have ht : s.data.toList.take s.size = s.data.toList := List.take_of_length_le (by simp)
      rw [ht] at hr
      have hx3 := u32_xor_nat (C.go q s.data.toList) C.full hr (by decide)
      rw [show ((C.full : Nat) : Int) = 4294967295 from rfl] at hx3
      have HX := Lib.hid hx3
      rw [ht]
      clear hx3 hlt
      go_wp2
      go_ret
      exact ⟨ret_i (by rw [HE.out, HX.out]), rfl⟩

theorem refSum_any (s : ByteArray) (w : World) (hs : s.size ≤ maxLen) :
    Calls Tryd.prog 49 #[.string s] w fun e w' => e = .returned (.int .u32 (C.sum s.data.toList : Nat)) ∧ w = w' := by
  go_enter Tryd.func49, Tryd.ntmps49
  go_wp2_with fail
  refine (refExtend_any 0 s w (by decide) hs).mono ?_
  rintro e w' ⟨rfl, rfl⟩
  go_wp2
  go_ret
  exact ⟨rfl, rfl⟩
end Go.Proofs.YtnnkibhlildojaaDoor
