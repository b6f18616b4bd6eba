/-
  The contracts of sector.putLow and sector.low.
  The contracts of remitref07.low and number.
  The contracts of checks.Extend, checks.Sum, and of the reference's.
-/
import Derived.Test.YtggogaaooacooaaDoorP22
import Derived.Laws.BitsAllLaws
import Derived.LoopTactic
import Derived.WalkLawsBesides
import Derived.Outline
namespace Go.Proofs.YtggogaaooacooaaDoor
open Go.RowKit Go.WideShapes
set_option maxRecDepth 100000

/-- The loop's state: k bytes are laid. -/
def PutAt (w : World) (g o n x : Nat) (l : List UInt8) (xv i : Value) (wr : World) : Prop :=
  ∃ k : Nat, k ≤ n ∧ i = .int .i64 k ∧ xv = .int .u64 ((x / 256 ^ k : Nat) : Int) ∧ RawAt wr g (E.put l o (E.low k x)) ∧ Keeps (fun q => q = g) w wr
theorem PutAt.next {w wr : World} {g o n x k : Nat} {l : List UInt8} (hk : k < n) (hl : o + n ≤ l.length) (hr : RawAt wr g (E.put l o (E.low k x))) (hs : Keeps (fun q => q = g) w wr) :
    PutAt w g o n x l (.int .u64 (((x / 256 ^ k : Nat) : Int) / 256)) (.int .i64 ((k : Int) + 1)) (wr.setCell ⟨g, o + k, none⟩ (.int .u8 (((x / 256 ^ k : Nat) : Int) % 256))) := by
  refine ⟨k + 1, hk, by push_cast; rfl, ?_, ?_, Keeps.trans hs (keeps_setCell7 wr g (o + k) _) (fun _ _ e => e)⟩
  · congr 1
    rw [Nat.pow_succ, ← Nat.div_div_eq_div_mul]; push_cast; rfl
  · have h1 := hr.store (i := o + k) ((x / 256 ^ k).toUInt8)
    rw [E.u8_mod] at h1
    have hlen := E.low_length k x
    have h2 := E.put_set (l := l) (s := E.low k x) (o := o) (by omega) ((x / 256 ^ k).toUInt8)
    rw [hlen] at h2
    rw [h2, ← E.low_snoc] at h1
    push_cast at h1 ⊢
    exact h1

set_option maxHeartbeats 1600000 in
theorem putLow_any (w : World) (g o n c x : Nat) (l : List UInt8) (h : RawAt w g l) (hl : o + n ≤ l.length) (hc : n ≤ c) (hx : x < 18446744073709551616) (hn : n ≤ 256) :
    Calls Tryd.prog 89 #[.slice (some ⟨g, o, none⟩) n c, .int .u64 x] w fun e w' => e = .returned (.tuple #[]) ∧ RawAt w' g (E.put l o (E.low n x)) ∧ Keeps (fun q => q = g) w w' := by
  have ST : PutAt w g o n x l (.int .u64 x) (.int .i64 0) w := ⟨0, Nat.zero_le _, rfl, by rw [Nat.pow_zero, Nat.div_one], by rw [E.low, E.put_nil (by omega)]; exact h, Keeps.refl _ w⟩
  have HST := Lib.hid ST
  clear ST h
  go_enter Tryd.func89, Tryd.ntmps89
  go_wp2
  go_loopw [1, 4, 7] (fun xv _ i wr => PutAt w g o n x l xv i wr) (fun _ _ i _ => n - (intOf i).toNat)
  case atStart => exact HST.out
  case round =>
    obtain ⟨k, hk, rfl, rfl, hr, hs⟩ := hrel
    by_cases hlt : k < n
    · have hlen : (E.put l o (E.low k x)).length = l.length := E.put_length (by rw [E.low_length]; omega)
      obtain ⟨cv, hcl, hcf⟩ := hr.cell (j := o + k) (by omega)
      have FIN := Lib.hid (PutAt.next (n := n) hlt hl hr hs)
      have hxk : x / 256 ^ k < 18446744073709551616 := Nat.lt_of_le_of_lt (Nat.div_le_self _ _) hx
      generalize x / 256 ^ k = y at *
      clear hr hs hlen
      go_wp2
      exact ⟨FIN.out, by simp [intOf]; omega⟩
    · obtain rfl : k = n := by omega
      have FIN := Lib.hid (And.intro hr hs)
      clear hr hs
      go_wp2
      go_end0
      exact ⟨rfl, FIN.out⟩

theorem or_byte7 (x b : Nat) (hx : x < 72057594037927936) (hb : b < 256) : bits .or .u64 ((x : Int) * 256) (b : Int) = ((b + 256 * x : Nat) : Int) := by
  rw [show (x : Int) * 256 = ((x * 256 : Nat) : Int) by omega, u64_or_nat _ _ (by omega) (by omega)]
  congr 1
  have := Nat.shiftLeft_add_eq_or_of_lt (i := 8) (b := b) (by omega) x
  rw [Nat.shiftLeft_eq] at this
  rw [← this]; omega
theorem num_drop (s : ByteArray) (k : Nat) (h : k < s.size) : E.num (s.data.toList.drop k) = s[k].toNat + 256 * E.num (s.data.toList.drop (k + 1)) := by
  rw [List.drop_eq_getElem_cons (by simpa using h), E.num]; rfl

/-- The loop's state: the bytes from k on are read. -/
def LowAt (s : ByteArray) (x i : Value) : Prop := ∃ k : Nat, k ≤ s.size ∧ i = .int .i64 ((k : Int) - 1) ∧ x = .int .u64 (E.num (s.data.toList.drop k) : Nat)

set_option maxHeartbeats 1600000 in
theorem low_any (s : ByteArray) (w : World) (hs : s.size ≤ 8) :
    Calls Tryd.prog 102 #[.string s] w fun e w' => e = .returned (.int .u64 (E.num s.data.toList : Nat)) ∧ w = w' := by
  have HST := Lib.hid (show LowAt s (.int .u64 0) (.int .i64 ((s.size : Int) - 1)) from ⟨s.size, Nat.le_refl _, rfl, by rw [List.drop_of_length_le (by simp)]; rfl⟩)
  go_enter Tryd.func102, Tryd.ntmps102
  go_wp2
  go_loop [3, 4] (fun x i => LowAt s x i) (fun _ i => (intOf i + 1).toNat)
  case atStart => exact HST.out
  case round =>
    obtain ⟨k, hk, rfl, rfl⟩ := hrel
    by_cases h0 : 0 < k
    · obtain ⟨j, rfl⟩ : ∃ j, k = j + 1 := ⟨k - 1, by omega⟩
      have hlt : j < s.size := by omega
      have hd := num_drop s j hlt
      have hb := s[j].toNat_lt
      have hlen := E.num_lt (s.data.toList.drop (j + 1))
      have hll : (s.data.toList.drop (j + 1)).length ≤ 7 := by simp; omega
      have hy : E.num (s.data.toList.drop (j + 1)) < 72057594037927936 := Nat.lt_of_lt_of_le hlen (Nat.le_trans (Nat.pow_le_pow_right (by decide) hll) (by decide))
      have HD := Lib.hid hd
      clear hd hlen hll
      have hor := or_byte7 (E.num (s.data.toList.drop (j + 1))) s[j].toNat hy (by omega)
      have FIN := Lib.hid (show LowAt s (.int .u64 ((s[j].toNat + 256 * E.num (s.data.toList.drop (j + 1)) : Nat) : Int)) (.int .i64 ((j : Int) - 1)) from ⟨j, by omega, rfl, by rw [HD.out]⟩)
      clear HD
      generalize E.num (s.data.toList.drop (j + 1)) = y at *
      have e1 : ((j + 1 : Nat) : Int) - 1 = (j : Int) := by omega
      rw [e1]
      go_wp2
      go_round
      case rel => exact FIN.out
      case measure => simp [intOf]
    · obtain rfl : k = 0 := by omega
      have HV := Lib.hid (show E.num (s.data.toList.drop 0) = E.num s.data.toList from rfl)
      generalize E.num (s.data.toList.drop 0) = y at *
      go_wp2
      go_ret
      exact ⟨ret_i (by rw [HV.out]), rfl⟩
end Go.Proofs.YtggogaaooacooaaDoor
namespace Go.Proofs.YtggogaaooacooaaDoor
open Go.RowKit Go.WideShapes
set_option maxRecDepth 100000

/-- The loop's state: k bytes are appended. -/
def RLowAt (w : World) (x n : Nat) (xv v i : Value) (wr : World) : Prop := ∃ k : Nat, k ≤ n ∧ i = .int .i64 k ∧ xv = .int .u64 ((x / 256 ^ k : Nat) : Int) ∧ NewB w wr v (E.low k x)
theorem RLowAt.more {w wr w2 w3 : World} {x n k : Nat} {v v' : Value} (hk : k < n) (hn : NewB w wr v (E.low k x)) (k2 : Qt wr w2) (hg : w2.grownBy w3 v.ownBlock) (hl : Later w2 v.ownBlock v'.ownBlock)
    (hown : w3.ownsRow 0 5 1 v' ((E.low k x).length + 1) (Lib.byteCells (E.low k x) ++ [.int .u8 (((x / 256 ^ k : Nat) : Int) % 256)])) : RLowAt w x n (.int .u64 (((x / 256 ^ k : Nat) : Int) / 256)) v' (.int .i64 ((k : Int) + 1)) w3 := by
  refine ⟨k + 1, hk, by push_cast; rfl, ?_, ?_⟩
  · congr 1
    rw [Nat.pow_succ, ← Nat.div_div_eq_div_mul]; push_cast; rfl
  · rw [E.low_snoc]
    refine hn.more k2 hg hl ?_
    have h1 := E.u8_mod (x / 256 ^ k)
    rw [h1]
    push_cast at hown ⊢
    exact hown

set_option maxHeartbeats 3200000 in
theorem refLow_any (x n : Nat) (w : World) (hx : x < 18446744073709551616) (hn : n ≤ 256) :
    Calls Tryd.prog 84 #[.int .u64 x, .int .i64 n] w fun e w' => e = .returned (.string ⟨(E.low n x).toArray⟩) ∧ Qt w w' := by
  obtain ⟨i0, hi, hz0, hz1, hz2⟩ := info_parts infoU8
  have ST : NewB w w (.slice none 0 0) [] := ⟨World.ownsRow_nil _ 0 _ 1, fun g hg => (by cases hg), Qt.since (Qt.refl w)⟩
  have HST := Lib.hid (show RLowAt w x n (.int .u64 x) (.slice none 0 0) (.int .i64 0) w from ⟨0, Nat.zero_le _, rfl, by rw [Nat.pow_zero, Nat.div_one], ST⟩)
  clear ST
  go_enter Tryd.func84, Tryd.ntmps84
  go_wp2
  go_loopw [0, 5, 6] (fun xv v i wr => RLowAt w x n xv v i wr) (fun _ _ i _ => n - (intOf i).toNat)
  case atStart => exact HST.out
  case round =>
    obtain ⟨k, hk, rfl, rfl, hb⟩ := hrel
    have hlen := E.low_length k x
    have HA := Lib.hid (fun o => (Qt.refl wr).alloc o)
    by_cases hlt : k < n
    · have Own := Lib.hid (fun (W : World) (k2 : Qt wr W) => hb.ownA k2)
      have F := Lib.hid (fun (v' : Value) (w2 w3 : World) (k2 : Qt wr w2) (hg : w2.grownBy w3 _) (hl : Later w2 _ v'.ownBlock) (hown : _) => RLowAt.more (n := n) (w2 := w2) (w3 := w3) (v' := v') hlt hb k2 hg hl hown)
      clear hb
      have hxk : x / 256 ^ k < 18446744073709551616 := Nat.lt_of_le_of_lt (Nat.div_le_self _ _) hx
      rw [hlen] at Own F
      generalize Lib.byteCells (E.low k x) = Cs at *
      generalize x / 256 ^ k = y at *
      clear hlen
      go_wp2_with (at_builtin; refine wpList_append_cells0 _ rfl _ _ 75 rfl 5 i0 (.int .u8 0) 1 1 Tryd.underlying75 hi hz0 hz1 hz2 rfl (by decide) _ k Cs rfl (Own.out _ (HA.out _)) ⟨wr.heap.size, 0, none⟩ 1 1 [.int .u8 ((y : Int) % 256)] rfl rfl (World.news_of_block (cs := #[.int .u8 ((y : Int) % 256)]) (heap_alloc_new wr _)) (by intro u hu; rw [List.mem_singleton.1 hu]; rfl) (by unfold maxLen; omega) (by omega) ?_)
      intro v' w3 hown hg hl _
      have fin := Lib.hid (F.out v' _ w3 (HA.out _) hg hl hown)
      clear hown hg hl Own F
      go_wp2
      go_roundw
      case rel => exact fin.out
      case measure => simp [intOf]; omega
    · obtain rfl : k = n := by omega
      have hcv := hb.conv
      have Q := Lib.hid hb.qt
      clear hb
      go_wp2
      go_ret
      exact ⟨rfl, Q.out⟩

end Go.Proofs.YtggogaaooacooaaDoor
namespace Go.Proofs.YtggogaaooacooaaDoor
open Go.RowKit Go.WideShapes
set_option maxRecDepth 100000

/-- The table of package checks. -/
def Tab (w : World) : Prop := ∀ k, k < 16 → w.cell? ⟨38, k, none⟩ = some (.int .u32 (C.tab.getD k 0 : Nat))
theorem Tab.qt {w w' : World} (h : Tab w) (k : Qt w w') : Tab w' := fun i hi => k.cellv (h i hi)

theorem take_snoc' (s : ByteArray) (k : Nat) (h : k < s.size) : s.data.toList.take (k + 1) = s.data.toList.take k ++ [s[k]] := by
  rw [List.take_succ_eq_append_getElem (by simpa using h)]; rfl
theorem go_snoc (r : Nat) (s : ByteArray) (k : Nat) (h : k < s.size) : C.go r (s.data.toList.take (k + 1)) = C.byte8 (C.go r (s.data.toList.take k) ^^^ s[k].toNat) := by
  rw [take_snoc' s k h, C.go_append]; rfl

theorem u32_and15 (a : Nat) (ha : a < 4294967296) : bits .and .u32 (a : Int) 15 = ((a % 16 : Nat) : Int) := by
  have h := u32_and_nat a 15 ha (by decide)
  rw [Nat.and_two_pow_sub_one_eq_mod a 4] at h
  exact h
theorem u32_not (x : Nat) (hx : x < 4294967296) : bits .xor .u32 IntKind.u32.max (x : Int) = ((x ^^^ C.full : Nat) : Int) := by
  rw [Nat.xor_comm]
  exact u32_xor_nat C.full x (by decide) hx

theorem tab_lt : ∀ k < 16, C.tab.getD k 0 < 4294967296 := by decide
theorem nib_facts {w : World} (hT : Tab w) (r : Nat) (hr : r < 4294967296) : ∃ t : Nat, w.cell? ⟨38, r % 16, none⟩ = some (.int .u32 t) ∧ bits .and .u32 (r : Int) 15 = ((r % 16 : Nat) : Int) ∧ bits .xor .u32 ((r : Int) / 16) (t : Int) = ((C.nib r : Nat) : Int) ∧ C.nib r < 4294967296 := by
  have hm := Nat.mod_lt r (show 0 < 16 by decide)
  refine ⟨_, hT _ hm, u32_and15 r hr, ?_, C.nib_lt hr⟩
  rw [C.nib_tab r]
  exact u32_xor_nat (r / 16) _ (by omega) (tab_lt _ hm)

set_option maxHeartbeats 800000 in
theorem extend_any (x : Nat) (s : ByteArray) (w : World) (hx : x < 4294967296) (hs : s.size ≤ maxLen) (hT : Tab w) :
    Calls Tryd.prog 100 #[.int .u32 x, .string s] w fun e w' => e = .returned (.int .u32 (C.extend x s.data.toList : Nat)) ∧ w = w' := by
  unfold maxLen at hs
  have HT := Lib.hid hT
  have hx2 : x ^^^ C.full < 2 ^ 32 := Nat.xor_lt_two_pow hx (by decide)
  have hn := u32_not x hx
  have HE := Lib.hid (show C.extend x s.data.toList = C.go (x ^^^ C.full) s.data.toList ^^^ C.full from rfl)
  generalize hq : x ^^^ C.full = q at *
  clear hq hT
  go_enter Tryd.func100, Tryd.ntmps100
  go_wp2
  go_loop [5, 6, 11] (fun r _ i => ∃ k : Nat, k ≤ s.size ∧ i = .int .i64 k ∧ r = .int .u32 (C.go q (s.data.toList.take k) : Nat)) (fun _ _ i => s.size - (intOf i).toNat)
  case atStart => exact ⟨0, Nat.zero_le _, rfl, rfl⟩
  case round =>
    obtain ⟨k, hk, rfl, rfl⟩ := hrel
    have hr := C.go_lt (s.data.toList.take k) hx2
    by_cases hlt : k < s.size
    · have HS := Lib.hid (go_snoc q s k hlt)
      have hc := s[k].toNat_lt
      generalize C.go q (s.data.toList.take k) = r at *
      have h1 := u32_xor_nat r s[k].toNat hr (by omega)
      have hr1 : r ^^^ s[k].toNat < 4294967296 := Nat.xor_lt_two_pow (n := 32) hr (by omega)
      rw [C.byte8_nib] at HS
      generalize r ^^^ s[k].toNat = r1 at *
      obtain ⟨t1, hc1, ha1, hx1, hl1⟩ := nib_facts HT.out r1 hr1
      generalize C.nib r1 = r2 at *
      obtain ⟨t2, hc2, ha2, hx2', hl2⟩ := nib_facts HT.out r2 hl1
      generalize C.nib r2 = r3 at *
      go_wp2
      go_round
      case rel => exact ⟨k + 1, by omega, by go_num, by rw [HS.out]⟩
      case measure => simp [intOf]; omega
    · obtain rfl : k = s.size := by omega
      have ht : s.data.toList.take s.size = s.data.toList := List.take_of_length_le (by simp)
      rw [ht] at hr
      have hx3 := u32_not (C.go q s.data.toList) hr
      have HX := Lib.hid hx3
      rw [ht]
      clear hx3 hlt
      go_wp2
      go_ret
      exact ⟨ret_i (by rw [HE.out, HX.out]), rfl⟩

theorem sum_any (s : ByteArray) (w : World) (hs : s.size ≤ maxLen) (hT : Tab w) :
    Calls Tryd.prog 90 #[.string s] w fun e w' => e = .returned (.int .u32 (C.sum s.data.toList : Nat)) ∧ w = w' := by
  go_enter Tryd.func90, Tryd.ntmps90
  go_wp2_with fail
  refine (extend_any 0 s w (by decide) hs hT).mono ?_
  rintro e w' ⟨rfl, rfl⟩
  go_wp2
  go_ret
  exact ⟨rfl, rfl⟩

/-! ### The reference -/
set_option maxHeartbeats 800000 in
theorem refExtend_any (x : Nat) (s : ByteArray) (w : World) (hx : x < 4294967296) (hs : s.size ≤ maxLen) :
    Calls Tryd.prog 97 #[.int .u32 x, .string s] w fun e w' => e = .returned (.int .u32 (C.extend x s.data.toList : Nat)) ∧ w = w' := by
  unfold maxLen at hs
  have hx2 : x ^^^ C.full < 2 ^ 32 := Nat.xor_lt_two_pow hx (by decide)
  have hn := u32_xor_nat x C.full hx (by decide)
  rw [show ((C.full : Nat) : Int) = 4294967295 from rfl] at hn
  have HE := Lib.hid (show C.extend x s.data.toList = C.go (x ^^^ C.full) s.data.toList ^^^ C.full from rfl)
  generalize hq : x ^^^ C.full = q at *
  clear hq
  go_enter Tryd.func97, Tryd.ntmps97
  go_wp2
  go_loop [5, 6, 7, 8] (fun r i _ _ => ∃ k : Nat, k ≤ s.size ∧ i = .int .i64 k ∧ r = .int .u32 (C.go q (s.data.toList.take k) : Nat)) (fun _ i _ _ => s.size - (intOf i).toNat)
  case atStart => exact ⟨0, Nat.zero_le _, rfl, rfl⟩
  case round =>
    obtain ⟨k, hk, rfl, rfl⟩ := hrel
    have hr := C.go_lt (s.data.toList.take k) hx2
    by_cases hlt : k < s.size
    · have HS := Lib.hid (go_snoc q s k hlt)
      have hc := s[k].toNat_lt
      generalize C.go q (s.data.toList.take k) = r at *
      have h1 := u32_xor_nat r s[k].toNat hr (by omega)
      have hr1 : r ^^^ s[k].toNat < 4294967296 := Nat.xor_lt_two_pow (n := 32) hr (by omega)
      generalize r ^^^ s[k].toNat = r1 at *
      go_wp2
      go_loop [5, 7, 8] (fun r i _ => ∃ j z : Nat, j ≤ 8 ∧ i = .int .i64 j ∧ z < 4294967296 ∧ r = .int .u32 z ∧ C.byte8 r1 = C.bits (8 - j) z) (fun _ i _ => 8 - (intOf i).toNat)
      case atStart => exact ⟨0, r1, by omega, rfl, hr1, rfl, C.bits_eight r1⟩
      case round =>
        obtain ⟨j, z, hj, rfl, hz, rfl, hb⟩ := hrel
        have HB := Lib.hid hb
        clear hb
        by_cases hl8 : j < 8
        · have HT := Lib.hid (C.bits_step hl8 z)
          have hbl := C.bit_lt hz
          have hx4 : bits .xor .u32 ((z : Int) / 2) 2197175160 = ((z / 2 ^^^ C.poly : Nat) : Int) := u32_xor_nat (z / 2) C.poly (by omega) (by decide)
          have HZ := Lib.hid hz
          rcases Nat.mod_two_eq_zero_or_one z with hm | hm
          · have HB2 := Lib.hid (C.bit_even hm)
            have hd : decide ((z : Int) % 2 = 1) = false := by simp; omega
            have hd2 : ((z : Int) % 2 == 1) = false := by simpa using hd
            clear hm hx4
            go_wp2
            go_round
            case rel => exact ⟨j + 1, z / 2, by omega, by go_num, by have := HZ.out; omega, by go_num, by rw [HB.out, HT.out, HB2.out]⟩
            case measure => simp [intOf]; omega
          · have HB2 := Lib.hid (C.bit_odd hm)
            have hd : decide ((z : Int) % 2 = 1) = true := by simp; omega
            have hd2 : ((z : Int) % 2 == 1) = true := by simpa using hd
            clear hm
            go_wp2
            go_round
            case rel => exact ⟨j + 1, z / 2 ^^^ C.poly, by omega, by go_num, by rw [← HB2.out]; exact hbl, rfl, by rw [HB.out, HT.out, HB2.out]⟩
            case measure => simp [intOf]; omega
        · obtain rfl : j = 8 := by omega
          have HB2 := Lib.hid (show C.byte8 r1 = z from HB.out)
          go_wp2
          go_round
          case rel => exact ⟨k + 1, by omega, by go_num, by rw [HS.out, HB2.out]⟩
          case measure => simp [intOf]; omega
    · obtain rfl : k = s.size := by omega
      have ht : s.data.toList.take s.size = s.data.toList := List.take_of_length_le (by simp)
      rw [ht] at hr
      have hx3 := u32_xor_nat (C.go q s.data.toList) C.full hr (by decide)
      rw [show ((C.full : Nat) : Int) = 4294967295 from rfl] at hx3
      have HX := Lib.hid hx3
      rw [ht]
      clear hx3 hlt
      go_wp2
      go_ret
      exact ⟨ret_i (by rw [HE.out, HX.out]), rfl⟩

theorem refSum_any (s : ByteArray) (w : World) (hs : s.size ≤ maxLen) :
    Calls Tryd.prog 85 #[.string s] w fun e w' => e = .returned (.int .u32 (C.sum s.data.toList : Nat)) ∧ w = w' := by
  go_enter Tryd.func85, Tryd.ntmps85
  go_wp2_with fail
  refine (refExtend_any 0 s w (by decide) hs).mono ?_
  rintro e w' ⟨rfl, rfl⟩
  go_wp2
  go_ret
  exact ⟨rfl, rfl⟩
end Go.Proofs.YtggogaaooacooaaDoor
