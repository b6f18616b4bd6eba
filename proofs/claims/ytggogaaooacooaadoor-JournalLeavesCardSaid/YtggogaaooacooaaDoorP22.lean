/-
  The contracts of checks.Extend, checks.Sum, and of the reference's.
  The contract of sector.Seal.
  The contracts of sector.Open, Ends, Log and Tear.
-/
import Derived.Test.YtggogaaooacooaaDoorP21
import Derived.Laws.BitsAllLaws
import Derived.LoopTactic
import Derived.WalkLawsBesides
import Derived.Outline
import Derived.Lib.SlBuf
import Derived.StillTailTactics
import Derived.Lib.ReplaceLaws
namespace Go.Proofs.YtggogaaooacooaaDoor
open Go.RowKit Go.WideShapes
set_option maxRecDepth 100000

/-- The table of package checks. -/
def Tab (w : World) : Prop := ∀ k, k < 16 → w.cell? ⟨38, k, none⟩ = some (.int .u32 (C.tab.getD k 0 : Nat))
theorem Tab.qt {w w' : World} (h : Tab w) (k : Qt w w') : Tab w' := fun i hi => k.cellv (h i hi)

theorem take_snoc' (s : ByteArray) (k : Nat) (h : k < s.size) : s.data.toList.take (k + 1) = s.data.toList.take k ++ [s[k]] := by
  rw [List.take_succ_eq_append_getElem (by simpa using h)]; rfl
theorem go_snoc (r : Nat) (s : ByteArray) (k : Nat) (h : k < s.size) : C.go r (s.data.toList.take (k + 1)) = C.byte8 (C.go r (s.data.toList.take k) ^^^ s[k].toNat) := by
  rw [take_snoc' s k h, C.go_append]; rfl

theorem u32_and15 (a : Nat) (ha : a < 4294967296) : bits .and .u32 (a : Int) 15 = ((a % 16 : Nat) : Int) := by
  have h := u32_and_nat a 15 ha (by decide)
  rw [Nat.and_two_pow_sub_one_eq_mod a 4] at h
  exact h
theorem u32_not (x : Nat) (hx : x < 4294967296) : bits .xor .u32 IntKind.u32.max (x : Int) = ((x ^^^ C.full : Nat) : Int) := by
  rw [Nat.xor_comm]
  exact u32_xor_nat C.full x (by decide) hx

theorem tab_lt : ∀ k < 16, C.tab.getD k 0 < 4294967296 := by decide
theorem nib_facts {w : World} (hT : Tab w) (r : Nat) (hr : r < 4294967296) : ∃ t : Nat, w.cell? ⟨38, r % 16, none⟩ = some (.int .u32 t) ∧ bits .and .u32 (r : Int) 15 = ((r % 16 : Nat) : Int) ∧ bits .xor .u32 ((r : Int) / 16) (t : Int) = ((C.nib r : Nat) : Int) ∧ C.nib r < 4294967296 := by
  have hm := Nat.mod_lt r (show 0 < 16 by decide)
  refine ⟨_, hT _ hm, u32_and15 r hr, ?_, C.nib_lt hr⟩
  rw [C.nib_tab r]
  exact u32_xor_nat (r / 16) _ (by omega) (tab_lt _ hm)

set_option maxHeartbeats 800000 in
theorem extend_any (x : Nat) (s : ByteArray) (w : World) (hx : x < 4294967296) (hs : s.size ≤ maxLen) (hT : Tab w) :
    Calls Tryd.prog 100 #[.int .u32 x, .string s] w fun e w' => e = .returned (.int .u32 (C.extend x s.data.toList : Nat)) ∧ w = w' := by
  unfold maxLen at hs
  have HT := Lib.hid hT
  have hx2 : x ^^^ C.full < 2 ^ 32 := Nat.xor_lt_two_pow hx (by decide)
  have hn := u32_not x hx
  have HE := Lib.hid (show C.extend x s.data.toList = C.go (x ^^^ C.full) s.data.toList ^^^ C.full from rfl)
  generalize hq : x ^^^ C.full = q at *
  clear hq hT
  go_enter Tryd.func100, Tryd.ntmps100
  go_wp2
  go_loop [5, 6, 11] (fun r _ i => ∃ k : Nat, k ≤ s.size ∧ i = .int .i64 k ∧ r = .int .u32 (C.go q (s.data.toList.take k) : Nat)) (fun _ _ i => s.size - (intOf i).toNat)
  case atStart => exact ⟨0, Nat.zero_le _, rfl, rfl⟩
  case round =>
    obtain ⟨k, hk, rfl, rfl⟩ := hrel
    have hr := C.go_lt (s.data.toList.take k) hx2
    by_cases hlt : k < s.size
    · have HS := Lib.hid (go_snoc q s k hlt)
      have hc := s[k].toNat_lt
      generalize C.go q (s.data.toList.take k) = r at *
      have h1 := u32_xor_nat r s[k].toNat hr (by omega)
      have hr1 : r ^^^ s[k].toNat < 4294967296 := Nat.xor_lt_two_pow (n := 32) hr (by omega)
      rw [C.byte8_nib] at HS
      generalize r ^^^ s[k].toNat = r1 at *
      obtain ⟨t1, hc1, ha1, hx1, hl1⟩ := nib_facts HT.out r1 hr1
      generalize C.nib r1 = r2 at *
      obtain ⟨t2, hc2, ha2, hx2', hl2⟩ := nib_facts HT.out r2 hl1
      generalize C.nib r2 = r3 at *
      go_wp2
      go_round
      case rel => exact ⟨k + 1, by omega, by go_num, by rw [HS.out]⟩
      case measure => simp [intOf]; omega
    · obtain rfl : k = s.size := by omega
      have ht : s.data.toList.take s.size = s.data.toList := List.take_of_length_le (by simp)
      rw [ht] at hr
      have hx3 := u32_not (C.go q s.data.toList) hr
      have HX := Lib.hid hx3
      rw [ht]
      clear hx3 hlt
      go_wp2
      go_ret
      exact ⟨ret_i (by rw [HE.out, HX.out]), rfl⟩

theorem sum_any (s : ByteArray) (w : World) (hs : s.size ≤ maxLen) (hT : Tab w) :
    Calls Tryd.prog 90 #[.string s] w fun e w' => e = .returned (.int .u32 (C.sum s.data.toList : Nat)) ∧ w = w' := by
  go_enter Tryd.func90, Tryd.ntmps90
  go_wp2_with fail
  refine (extend_any 0 s w (by decide) hs hT).mono ?_
  rintro e w' ⟨rfl, rfl⟩
  go_wp2
  go_ret
  exact ⟨rfl, rfl⟩

/-! ### The reference -/
set_option maxHeartbeats 800000 in
theorem refExtend_any (x : Nat) (s : ByteArray) (w : World) (hx : x < 4294967296) (hs : s.size ≤ maxLen) :
    Calls Tryd.prog 97 #[.int .u32 x, .string s] w fun e w' => e = .returned (.int .u32 (C.extend x s.data.toList : Nat)) ∧ w = w' := by
  unfold maxLen at hs
  have hx2 : x ^^^ C.full < 2 ^ 32 := Nat.xor_lt_two_pow hx (by decide)
  have hn := u32_xor_nat x C.full hx (by decide)
  rw [show ((C.full : Nat) : Int) = 4294967295 from rfl] at hn
  have HE := Lib.hid (show C.extend x s.data.toList = C.go (x ^^^ C.full) s.data.toList ^^^ C.full from rfl)
  generalize hq : x ^^^ C.full = q at *
  clear hq
  go_enter Tryd.func97, Tryd.ntmps97
  go_wp2
  go_loop [5, 6, 7, 8] (fun r i _ _ => ∃ k : Nat, k ≤ s.size ∧ i = .int .i64 k ∧ r = .int .u32 (C.go q (s.data.toList.take k) : Nat)) (fun _ i _ _ => s.size - (intOf i).toNat)
  case atStart => exact ⟨0, Nat.zero_le _, rfl, rfl⟩
  case round =>
    obtain ⟨k, hk, rfl, rfl⟩ := hrel
    have hr := C.go_lt (s.data.toList.take k) hx2
    by_cases hlt : k < s.size
    · have HS := Lib.hid (go_snoc q s k hlt)
      have hc := s[k].toNat_lt
      generalize C.go q (s.data.toList.take k) = r at *
      have h1 := u32_xor_nat r s[k].toNat hr (by omega)
      have hr1 : r ^^^ s[k].toNat < 4294967296 := Nat.xor_lt_two_pow (n := 32) hr (by omega)
      generalize r ^^^ s[k].toNat = r1 at *
      go_wp2
      go_loop [5, 7, 8] (fun r i _ => ∃ j z : Nat, j ≤ 8 ∧ i = .int .i64 j ∧ z < 4294967296 ∧ r = .int .u32 z ∧ C.byte8 r1 = C.bits (8 - j) z) (fun _ i _ => 8 - (intOf i).toNat)
      case atStart => exact ⟨0, r1, by omega, rfl, hr1, rfl, C.bits_eight r1⟩
      case round =>
        obtain ⟨j, z, hj, rfl, hz, rfl, hb⟩ := hrel
        have HB := Lib.hid hb
        clear hb
        by_cases hl8 : j < 8
        · have HT := Lib.hid (C.bits_step hl8 z)
          have hbl := C.bit_lt hz
          have hx4 : bits .xor .u32 ((z : Int) / 2) 2197175160 = ((z / 2 ^^^ C.poly : Nat) : Int) := u32_xor_nat (z / 2) C.poly (by omega) (by decide)
          have HZ := Lib.hid hz
          rcases Nat.mod_two_eq_zero_or_one z with hm | hm
          · have HB2 := Lib.hid (C.bit_even hm)
            have hd : decide ((z : Int) % 2 = 1) = false := by simp; omega
            have hd2 : ((z : Int) % 2 == 1) = false := by simpa using hd
            clear hm hx4
            go_wp2
            go_round
            case rel => exact ⟨j + 1, z / 2, by omega, by go_num, by have := HZ.out; omega, by go_num, by rw [HB.out, HT.out, HB2.out]⟩
            case measure => simp [intOf]; omega
          · have HB2 := Lib.hid (C.bit_odd hm)
            have hd : decide ((z : Int) % 2 = 1) = true := by simp; omega
            have hd2 : ((z : Int) % 2 == 1) = true := by simpa using hd
            clear hm
            go_wp2
            go_round
            case rel => exact ⟨j + 1, z / 2 ^^^ C.poly, by omega, by go_num, by rw [← HB2.out]; exact hbl, rfl, by rw [HB.out, HT.out, HB2.out]⟩
            case measure => simp [intOf]; omega
        · obtain rfl : j = 8 := by omega
          have HB2 := Lib.hid (show C.byte8 r1 = z from HB.out)
          go_wp2
          go_round
          case rel => exact ⟨k + 1, by omega, by go_num, by rw [HS.out, HB2.out]⟩
          case measure => simp [intOf]; omega
    · obtain rfl : k = s.size := by omega
      have ht : s.data.toList.take s.size = s.data.toList := List.take_of_length_le (by simp)
      rw [ht] at hr
      have hx3 := u32_xor_nat (C.go q s.data.toList) C.full hr (by decide)
      rw [show ((C.full : Nat) : Int) = 4294967295 from rfl] at hx3
      have HX := Lib.hid hx3
      rw [ht]
      clear hx3 hlt
      go_wp2
      go_ret
      exact ⟨ret_i (by rw [HE.out, HX.out]), rfl⟩

theorem refSum_any (s : ByteArray) (w : World) (hs : s.size ≤ maxLen) :
    Calls Tryd.prog 85 #[.string s] w fun e w' => e = .returned (.int .u32 (C.sum s.data.toList : Nat)) ∧ w = w' := by
  go_enter Tryd.func85, Tryd.ntmps85
  go_wp2_with fail
  refine (refExtend_any 0 s w (by decide) hs).mono ?_
  rintro e w' ⟨rfl, rfl⟩
  go_wp2
  go_ret
  exact ⟨rfl, rfl⟩
end Go.Proofs.YtggogaaooacooaaDoor
namespace Go.Proofs.YtggogaaooacooaaDoor
open Go.RowKit Go.WideShapes
set_option maxRecDepth 100000

/-- Three errors' variables. -/
structure E3 (er el ef : Addr) (w : World) : Prop where
  r : w.cell? ⟨0, 0, none⟩ = some (.iface 168 (.pointer (some er)))
  l : w.cell? ⟨6, 0, none⟩ = some (.iface 168 (.pointer (some el)))
  f : w.cell? ⟨1, 0, none⟩ = some (.iface 168 (.pointer (some ef)))
theorem E3.qt {er el ef : Addr} {w w' : World} (h : E3 er el ef w) (k : Qt w w') : E3 er el ef w' := ⟨k.cellv h.r, k.cellv h.l, k.cellv h.f⟩
def e3V (er el ef : Addr) (n : Nat) : Value := if n = 0 then .nilIface else .iface 168 (.pointer (some (if n = 6 then er else if n = 3 then el else ef)))

namespace E
def sealR (st : Nat) (p : List UInt8) : List UInt8 × Nat := if st = 0 then ([], 6) else if 234 < p.length then ([], 3) else (sct st p, 0)
theorem r1 (st : Nat) : put (List.replicate 256 0) 0 (low 8 st) = low 8 st ++ List.replicate 248 0 := by
  have h := put_zeros [] (low 8 st) (m := 256)
  rw [low_length] at h
  exact h
theorem r2 (st n : Nat) : put (low 8 st ++ List.replicate 248 0) 8 (low 2 n) = (low 8 st ++ low 2 n) ++ List.replicate 246 0 := by
  have h := put_zeros (low 8 st) (low 2 n) (m := 248)
  rw [low_length, low_length] at h
  exact h
theorem r3 (st n : Nat) (p : List UInt8) (hp : p.length ≤ 234) : put ((low 8 st ++ low 2 n) ++ List.replicate 246 0) 10 p = ((low 8 st ++ low 2 n) ++ pad p) ++ List.replicate 12 0 := by
  have h := put_zeros (low 8 st ++ low 2 n) p (m := 246)
  rw [List.length_append, low_length, low_length] at h
  rw [h]
  unfold pad
  rw [show 246 - p.length = (234 - p.length) + 12 by omega, ← List.replicate_append_replicate]
  simp
theorem r4 (st n x : Nat) (p : List UInt8) (hp : p.length ≤ 234) : put (((low 8 st ++ low 2 n) ++ pad p) ++ List.replicate 12 0) 244 (low 4 x) = (((low 8 st ++ low 2 n) ++ pad p) ++ low 4 x) ++ List.replicate 8 0 := by
  have h := put_zeros ((low 8 st ++ low 2 n) ++ pad p) (low 4 x) (m := 12)
  rw [List.length_append, List.length_append, low_length, low_length, low_length, pad_length hp] at h
  exact h
theorem r5 (st n x : Nat) (p : List UInt8) (hp : p.length ≤ 234) : put ((((low 8 st ++ low 2 n) ++ pad p) ++ low 4 x) ++ List.replicate 8 0) 248 (low 8 st) = (((low 8 st ++ low 2 n) ++ pad p) ++ low 4 x) ++ low 8 st := by
  have h := put_zeros (((low 8 st ++ low 2 n) ++ pad p) ++ low 4 x) (low 8 st) (m := 8)
  simp only [List.length_append, low_length, pad_length hp] at h
  rw [h]; simp
theorem r6 (st : Nat) (p : List UInt8) : (low 8 st ++ low 2 p.length) ++ pad p = front3 st p := by unfold front3; simp
theorem r7 (st : Nat) (p : List UInt8) : (((low 8 st ++ low 2 p.length) ++ pad p) ++ low 4 (C.sum (front3 st p))) ++ low 8 st = sct st p := by unfold sct front3; simp
end E

theorem zero256 : Tryd.zeroCells101 = Array.replicate 256 (.int .u8 0) := by kernel_rfl
theorem RawAt.made (w : World) : RawAt (w.alloc (.cells Tryd.zeroCells101 101)) w.heap.size (List.replicate 256 0) := ⟨fun j c hj => by
  have hn := heap_alloc_new w (.cells Tryd.zeroCells101 101)
  obtain ⟨h1, h2⟩ := List.getElem?_eq_some_iff.1 hj
  have h3 : j < 256 := by simpa using h1
  rw [List.getElem_replicate] at h2
  subst h2
  refine ⟨?_, Go.frozen_of_row _ _ _ _ _ hn⟩
  rw [cell_of_row _ _ _ _ _ _ hn, zero256]
  simp [h3]⟩

set_option maxHeartbeats 3200000 in
theorem seal_any (er el ef : Addr) (st : Nat) (s : ByteArray) (w : World) (hst : st < 18446744073709551616) (hE : E3 er el ef w) (hT : Tab w) :
    Calls Tryd.prog 76 #[.int .u64 st, .string s] w fun e w' => e = .returned (.tuple #[.string ⟨(E.sealR st s.data.toList).1.toArray⟩, e3V er el ef (E.sealR st s.data.toList).2]) ∧ Qt w w' := by
  have hlen : s.data.toList.length = s.size := by simp
  have h1 := hE.r
  have h2 := hE.l
  by_cases hz : st = 0
  · subst hz
    have HV := Lib.hid (show E.sealR 0 s.data.toList = ([], 6) from if_pos rfl)
    clear hT hE hlen h2
    go_enter Tryd.func76, Tryd.ntmps76
    go_wp2
    go_quiet (fail)
    go_wp2
    go_ret2
    exact ⟨by rw [HV.out]; rfl, Keeps.drewN (Qt.refl w) _⟩
  · by_cases hb : 234 < s.size
    · have HV := Lib.hid (show E.sealR st s.data.toList = ([], 3) by unfold E.sealR; rw [if_neg hz, if_pos (by omega)])
      clear hT hE hlen h1
      go_enter Tryd.func76, Tryd.ntmps76
      go_wp2
      go_quiet (fail)
      go_wp2
      go_ret2
      exact ⟨by rw [HV.out]; rfl, Keeps.drewN (Qt.refl w) _⟩
    · have HV := Lib.hid (show E.sealR st s.data.toList = (E.sct st s.data.toList, 0) by unfold E.sealR; rw [if_neg hz, if_neg (by omega)])
      have hp : s.data.toList.length ≤ 234 := by omega
      have HT := Lib.hid hT
      have HM := Lib.hid (RawAt.made w)
      have HQ := Lib.hid (show Since w.heap.size w (w.alloc (.cells Tryd.zeroCells101 101)) from Qt.since ((Qt.refl w).alloc _))
      have hsum := C.extend_lt (x := 0) (by decide) (E.front3 st s.data.toList)
      have HS := Lib.hid (show C.sum (E.front3 st s.data.toList) < 4294967296 from hsum)
      clear hT hE h1 h2 hsum
      go_enter Tryd.func76, Tryd.ntmps76
      go_wp2_with fail
      refine (putLow_any _ w.heap.size 0 8 256 st _ HM.out (by rw [List.length_replicate]; omega) (by omega) hst (by omega)).mono ?_
      rintro e w1 ⟨rfl, m, k⟩
      rw [E.r1] at m
      have M1 := Lib.hid m
      have Q1 := Lib.hid (HQ.out.step k (fun i e => Nat.le_of_eq e.symm))
      clear m k HM HQ
      go_wp2_with fail
      refine (putLow_any w1 w.heap.size 8 2 248 s.size _ M1.out (by simp [E.low_length]) (by omega) (by omega) (by omega)).mono ?_
      rintro e w2 ⟨rfl, m, k⟩
      rw [E.r2] at m
      have M2 := Lib.hid m
      have Q2 := Lib.hid (Q1.out.step k (fun i e => Nat.le_of_eq e.symm))
      clear m k M1 Q1
      obtain ⟨w3, hcp, m, k⟩ := M2.out.copy (o := 10) s (n := 246) (by omega) (by simp [E.low_length]) 246
      rw [E.r3 _ _ _ hp] at m
      have M3 := Lib.hid m
      have Q3 := Lib.hid (Q2.out.step k (fun i e => Nat.le_of_eq e.symm))
      clear m k M2 Q2
      go_wp2_with (refine Lib.wpList_copy_run _ rfl _ _ 75 9 rfl _ _ rfl rfl hcp ?_)
      clear hcp
      refine wp_region_still_tail 5 (by kernel_rfl) (by kernel_rfl) ?_
      simp only [List.take_succ_cons, List.take_zero, List.drop_succ_cons, List.drop_zero]
      have M4 := Lib.hid M3.out.drew
      have Q4 := Lib.hid (show Since w.heap.size w w3.drew from Keeps.drew Q3.out)
      clear M3 Q3
      change wpStill _ _ w3.drew _ _ _
      have hcv := M4.out.conv (n := 244) (by simp [E.low_length, E.pad_length hp]) 256
      rw [List.take_left' (by simp [E.low_length, E.pad_length hp]), ← hlen, E.r6] at hcv
      have hsm := sum_any ⟨(E.front3 st s.data.toList).toArray⟩ w3.drew (by show (E.front3 st s.data.toList).toArray.size ≤ maxLen; rw [List.size_toArray, E.front3_length _ hp]; unfold maxLen; omega) (HT.out.qt (Since.qt Q4.out))
      rw [show (⟨(E.front3 st s.data.toList).toArray⟩ : ByteArray).data.toList = E.front3 st s.data.toList from rfl] at hsm
      have HX := Lib.hid HS.out
      have hX := HS.out
      have R7 := Lib.hid (E.r7 st s.data.toList)
      rw [hlen] at R7
      generalize C.sum (E.front3 st s.data.toList) = x at *
      generalize E.front3 st s.data.toList = fr at *
      still_step
      still_step
      still_step
      still_call (hsm.mono (fun e w'' h => ⟨h.1, h.2.symm⟩))
      still_step
      refine wpStill_nil ?_
      change wpList _ _ _ _ _ w3.drew
      clear hsm hcv
      generalize w3.drew = w4 at *
      go_wp2_with fail
      refine (putLow_any w4 w.heap.size 244 4 12 x _ M4.out (by simp [E.low_length, E.pad_length hp]) (by omega) (by omega) (by omega)).mono ?_
      rintro e w5 ⟨rfl, m, k⟩
      rw [E.r4 _ _ _ _ hp] at m
      have M5 := Lib.hid m
      have Q5 := Lib.hid (Q4.out.step k (fun i e => Nat.le_of_eq e.symm))
      clear m k M4 Q4
      go_wp2_with fail
      refine (putLow_any w5 w.heap.size 248 8 8 st _ M5.out (by simp [E.low_length, E.pad_length hp]) (by omega) hst (by omega)).mono ?_
      rintro e w6 ⟨rfl, m, k⟩
      rw [E.r5 _ _ _ _ hp, R7.out] at m
      have Q6 := Lib.hid (Q5.out.step k (fun i e => Nat.le_of_eq e.symm))
      clear k M5 Q5
      have hcv := m.conv (n := 256) (by rw [E.sct_length _ hp]; omega) 256
      rw [List.take_of_length_le (by rw [E.sct_length _ hp]; omega)] at hcv
      clear m
      generalize E.sct st s.data.toList = sc at *
      go_wp2
      go_ret2
      exact ⟨by rw [HV.out]; rfl, Since.qt Q6.out⟩
end Go.Proofs.YtggogaaooacooaaDoor
namespace Go.Proofs.YtggogaaooacooaaDoor
open Go.RowKit Go.WideShapes
set_option maxRecDepth 100000

theorem dslice (s : ByteArray) (a b : Nat) : (s.extract a b).data.toList = (s.data.toList.drop a).take (b - a) := Lib.extract_data s a b
theorem dlen7 (s : ByteArray) : s.data.toList.length = s.size := by simp
theorem of_list {s : ByteArray} {l : List UInt8} (h : s.data.toList = l) : s = ⟨l.toArray⟩ := by subst h; rfl
theorem bytes_eq7 {D E : ByteArray} : (D.toList == E.toList) = decide (D.data.toList = E.data.toList) := by
  rw [Lib.toList_data, Lib.toList_data, Bool.eq_iff_iff, beq_iff_eq, decide_eq_true_iff]
theorem bytes_ne7 {D E : ByteArray} : (D.toList != E.toList) = decide (D.data.toList ≠ E.data.toList) := by
  unfold bne; rw [bytes_eq7]; simp

/-- 's[10:10+n]'. -/
theorem slice10 (s : ByteArray) (hz : s.size = 256) (n : Nat) (hn : n ≤ 234) (wx : World) : (Instr.slice 9 (.string s) (some (.int .i64 10)) (some (.int .i64 (10 + (n : Int)))) none).run Tryd.prog wx = .ok (.string (s.extract 10 (10 + n))) wx := by
  have := run_slice_string (P := Tryd.prog) wx 9 s .i64 .i64 10 (10 + (n : Int)) Tryd.underlying9 (by omega) (by omega) (by omega)
  rw [this, show (10 + (n : Int)).toNat = 10 + n by omega, show (10 : Int).toNat = 10 by rfl]

def openV : Option (List UInt8) → Value
  | none => .tuple #[.string ⟨#[]⟩, .bool false]
  | some p => .tuple #[.string ⟨p.toArray⟩, .bool true]

theorem open_size {st : Nat} {s : List UInt8} (h : s.length ≠ 256) : E.openS st s = none := if_neg (fun k => h k.1)
theorem open_wide {st : Nat} {s : List UInt8} (h : 234 < E.size s) : E.openS st s = none := if_neg (fun k => by have := k.2.2.1; omega)
theorem open_zero {s : List UInt8} : E.openS 0 s = none := if_neg (fun k => k.2.1 rfl)
theorem open_no {st : Nat} {s : List UInt8} (h : s ≠ E.sct st (E.pay s)) : E.openS st s = none := if_neg (fun k => h k.2.2.2)
theorem open_yes {st : Nat} {s : List UInt8} (h1 : s.length = 256) (h2 : st ≠ 0) (h3 : E.size s ≤ 234) (h : s = E.sct st (E.pay s)) : E.openS st s = some (E.pay s) := if_pos ⟨h1, h2, h3, h⟩

theorem size_lt (l : List UInt8) : E.size l < 65536 := by
  have h := E.num_lt ((l.drop 8).take 2)
  have h2 : ((l.drop 8).take 2).length ≤ 2 := by rw [List.length_take]; omega
  exact Nat.lt_of_lt_of_le h (Nat.le_trans (Nat.pow_le_pow_right (by decide) h2) (by decide))

set_option maxHeartbeats 1600000 in
theorem open_any (er el ef : Addr) (st : Nat) (s : ByteArray) (w : World) (hst : st < 18446744073709551616) (hE : E3 er el ef w) (hT : Tab w) :
    Calls Tryd.prog 93 #[.int .u64 st, .string s] w fun e w' => e = .returned (openV (E.openS st s.data.toList)) ∧ Qt w w' := by
  have hd := dlen7 s
  by_cases hz : s.size = 256
  · have hlow := low_any (s.extract 8 10) w (by rw [ByteArray.size_extract]; omega)
    rw [dslice] at hlow
    have hn : E.num ((s.data.toList.drop 8).take (10 - 8)) = E.size s.data.toList := rfl
    rw [hn] at hlow
    clear hn
    have hsl := size_lt s.data.toList
    by_cases h234 : 234 < E.size s.data.toList
    · have HV := Lib.hid (congrArg openV (open_wide (st := st) h234))
      clear hE hT hd
      generalize E.size s.data.toList = n at *
      go_enter Tryd.func93, Tryd.ntmps93
      go_wp2_with fail
      refine hlow.mono ?_
      rintro e w1 ⟨rfl, rfl⟩
      go_wp2
      go_ret2
      exact ⟨by rw [HV.out]; rfl, Qt.refl _⟩
    · have hsli := slice10 s hz (E.size s.data.toList) (by omega)
      have hpl : (s.extract 10 (10 + E.size s.data.toList)).data.toList = E.pay s.data.toList := by
        rw [dslice, Nat.add_sub_cancel_left]; rfl
      have HP := Lib.hid (of_list hpl)
      have hseal := seal_any er el ef st (s.extract 10 (10 + E.size s.data.toList)) w hst hE hT
      rw [hpl] at hseal
      have hlp := E.pay_length (raw := s.data.toList) (by omega) (by omega)
      by_cases h0 : st = 0
      · subst h0
        have HV := Lib.hid (congrArg openV (open_zero (s := s.data.toList)))
        rw [show E.sealR 0 (E.pay s.data.toList) = ([], 6) from if_pos rfl, show e3V er el ef 6 = .iface 168 (.pointer (some er)) from rfl] at hseal
        clear hE hT hd HP hpl hlp
        generalize E.size s.data.toList = n at *
        go_enter Tryd.func93, Tryd.ntmps93
        go_wp2_with fail
        refine hlow.mono ?_
        rintro e w1 ⟨rfl, rfl⟩
        clear hlow
        go_wp2_with fail
        refine hseal.mono ?_
        rintro e w1 ⟨rfl, k⟩
        have K := Lib.hid k; clear k hseal
        go_wp2
        go_ret2
        exact ⟨by rw [HV.out]; rfl, K.out⟩
      · rw [show E.sealR st (E.pay s.data.toList) = (E.sct st (E.pay s.data.toList), 0) by unfold E.sealR; rw [if_neg h0, if_neg (by omega)], show e3V er el ef 0 = .nilIface from rfl] at hseal
        by_cases hq : s.data.toList = E.sct st (E.pay s.data.toList)
        · have HV := Lib.hid (congrArg openV (open_yes (st := st) (by omega) h0 (by omega) hq))
          have hbe : (s.toList == E.sct st (E.pay s.data.toList)) = true := by
            rw [Lib.toList_data]; exact beq_iff_eq.2 hq
          clear hE hT hd hpl hlp hq
          generalize E.sct st (E.pay s.data.toList) = sc at *
          generalize E.pay s.data.toList = pl at *
          generalize E.size s.data.toList = n at *
          go_enter Tryd.func93, Tryd.ntmps93
          go_wp2_with fail
          refine hlow.mono ?_
          rintro e w1 ⟨rfl, rfl⟩
          clear hlow
          go_wp2_with fail
          refine hseal.mono ?_
          rintro e w1 ⟨rfl, k⟩
          have K := Lib.hid k; clear k hseal
          go_wp2
          go_ret2
          exact ⟨by rw [HV.out, HP.out]; rfl, K.out⟩
        · have HV := Lib.hid (congrArg openV (open_no hq))
          have hbe : (s.toList == E.sct st (E.pay s.data.toList)) = false := by
            rw [Lib.toList_data]; exact beq_eq_false_iff_ne.2 hq
          clear hE hT hd HP hpl hlp hq
          generalize E.sct st (E.pay s.data.toList) = sc at *
          generalize E.size s.data.toList = n at *
          go_enter Tryd.func93, Tryd.ntmps93
          go_wp2_with fail
          refine hlow.mono ?_
          rintro e w1 ⟨rfl, rfl⟩
          clear hlow
          go_wp2_with fail
          refine hseal.mono ?_
          rintro e w1 ⟨rfl, k⟩
          have K := Lib.hid k; clear k hseal
          go_wp2
          go_ret2
          exact ⟨by rw [HV.out]; rfl, K.out⟩
  · have HV := Lib.hid (congrArg openV (open_size (st := st) (s := s.data.toList) (by omega)))
    clear hE hT hd
    go_enter Tryd.func93, Tryd.ntmps93
    go_wp2
    go_ret2
    exact ⟨by rw [HV.out]; rfl, Qt.refl _⟩

theorem low_q (s : ByteArray) (w : World) (hs : s.size ≤ 8) : Calls Tryd.prog 102 #[.string s] w fun e w' => e = .returned (.int .u64 (E.num s.data.toList : Nat)) ∧ w' = w := (low_any s w hs).mono fun _ _ h => ⟨h.1, h.2.symm⟩
end Go.Proofs.YtggogaaooacooaaDoor
