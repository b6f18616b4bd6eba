/-
  The contracts of remitref07.low and number.
-/
import Derived.Test.YtnnkibhlildojaaDoorNewB
import Derived.Test.YtnnkibhlildojaaDoorEPut
namespace Go.Proofs.YtnnkibhlildojaaDoor
open Go.RowKit Go.WideShapes
set_option maxRecDepth 100000

/-- The loop's state: k bytes are appended. -/
def RLowAt (w : World) (x n : Nat) (xv v i : Value) (wr : World) : Prop := ∃ k : Nat, k ≤ n ∧ i = .int .i64 k ∧ xv = .int .u64 ((x / 256 ^ k : Nat) : Int) ∧ NewB w wr v (E.low k x)
theorem RLowAt.more {w wr w2 w3 : World} {x n k : Nat} {v v' : Value} (hk : k < n) (hn : NewB w wr v (E.low k x)) (k2 : Qt wr w2) (hg : w2.grownBy w3 v.ownBlock) (hl : Later w2 v.ownBlock v'.ownBlock)
    (hown : w3.ownsRow 0 5 1 v' ((E.low k x).length + 1) (Lib.byteCells (E.low k x) ++ [.int .u8 (((x / 256 ^ k : Nat) : Int) % 256)])) : RLowAt w x n (.int .u64 (((x / 256 ^ k : Nat) : Int) / 256)) v' (.int .i64 ((k : Int) + 1)) w3 := by
  refine ⟨k + 1, hk, by push_cast; rfl, ?_, ?_⟩
  · congr 1
    rw [Nat.pow_succ, ← Nat.div_div_eq_div_mul]; push_cast; rfl
  · rw [E.low_snoc]
    refine hn.more k2 hg hl ?_
    have h1 := E.u8_mod (x / 256 ^ k)
    rw [h1]
    push_cast at hown ⊢
    exact hown

set_option maxHeartbeats 3200000 in
theorem refLow_any (x n : Nat) (w : World) (hx : x < 18446744073709551616) (hn : n ≤ 256) :
    Calls Tryd.prog 48 #[.int .u64 x, .int .i64 n] w fun e w' => e = .returned (.string ⟨(E.low n x).toArray⟩) ∧ Qt w w' := by
  obtain ⟨i0, hi, hz0, hz1, hz2⟩ := info_parts infoU8
  have ST : NewB w w (.slice none 0 0) [] := ⟨World.ownsRow_nil _ 0 _ 1, fun g hg => (by cases hg), Qt.since (Qt.refl w)⟩
  have HST := Lib.hid (show RLowAt w x n (.int .u64 x) (.slice none 0 0) (.int .i64 0) w from ⟨0, Nat.zero_le _, rfl, by rw [Nat.pow_zero, Nat.div_one], ST⟩)
  clear ST
  go_enter Tryd.func48, Tryd.ntmps48
  go_wp2
  go_loopw [0, 5, 6] (fun xv v i wr => RLowAt w x n xv v i wr) (fun _ _ i _ => n - (intOf i).toNat)
  case atStart => exact HST.out
  case round =>
    obtain ⟨k, hk, rfl, rfl, hb⟩ := hrel
    have hlen := E.low_length k x
    have HA := Lib.hid (fun o => (Qt.refl wr).alloc o)
    by_cases hlt : k < n
    · have Own := Lib.hid (fun (W : World) (k2 : Qt wr W) => hb.ownA k2)
      have F := Lib.hid (fun (v' : Value) (w2 w3 : World) (k2 : Qt wr w2) (hg : w2.grownBy w3 _) (hl : Later w2 _ v'.ownBlock) (hown : _) => RLowAt.more (n := n) (w2 := w2) (w3 := w3) (v' := v') hlt hb k2 hg hl hown)
      clear hb
      have hxk : x / 256 ^ k < 18446744073709551616 := Nat.lt_of_le_of_lt (Nat.div_le_self _ _) hx
      rw [hlen] at Own F
      generalize Lib.byteCells (E.low k x) = Cs at *
      generalize x / 256 ^ k = y at *
      clear hlen
      go_wp2_with (at_builtin; refine wpList_append_cells0 _ rfl _ _ 64 rfl 5 i0 (.int .u8 0) 1 1 Tryd.underlying64 hi hz0 hz1 hz2 rfl (by decide) _ k Cs rfl (Own.out _ (HA.out _)) ⟨wr.heap.size, 0, none⟩ 1 1 [.int .u8 ((y : Int) % 256)] rfl rfl (World.news_of_block (cs := #[.int .u8 ((y : Int) % 256)]) (heap_alloc_new wr _)) (by intro u hu; rw [List.mem_singleton.1 hu]; rfl) (by unfold maxLen; omega) (by omega) ?_)
      intro v' w3 hown hg hl _
      have fin := Lib.hid (F.out v' _ w3 (HA.out _) hg hl hown)
      clear hown hg hl Own F
      go_wp2
      go_roundw
      case rel => exact fin.out
      case measure => simp [intOf]; omega
    · obtain rfl : k = n := by omega
      have hcv := hb.conv
      have Q := Lib.hid hb.qt
      clear hb
      go_wp2
      go_ret
      exact ⟨rfl, Q.out⟩

/-- The loop's state: the bytes from k on are read. -/
def NumAt (s : ByteArray) (x i : Value) : Prop := ∃ k : Nat, k ≤ 8 ∧ i = .int .i64 ((k : Int) - 1) ∧ x = .int .u64 (E.num (s.data.toList.drop k) : Nat)

set_option maxHeartbeats 1600000 in
theorem number_any (s : ByteArray) (w : World) (hs : s.size = 8) :
    Calls Tryd.prog 51 #[.string s] w fun e w' => e = .returned (.int .u64 (E.num s.data.toList : Nat)) ∧ w' = w := by
  have HST := Lib.hid (show NumAt s (.int .u64 0) (.int .i64 7) from ⟨8, Nat.le_refl _, rfl, by rw [List.drop_of_length_le (by simp; omega)]; rfl⟩)
  go_enter Tryd.func51, Tryd.ntmps51
  go_wp2
  go_loop [3, 4] (fun x i => NumAt s x i) (fun _ i => (intOf i + 1).toNat)
  case atStart => exact HST.out
  case round =>
    obtain ⟨k, hk, rfl, rfl⟩ := hrel
    by_cases h0 : 0 < k
    · obtain ⟨j, rfl⟩ : ∃ j, k = j + 1 := ⟨k - 1, by omega⟩
      have hlt : j < s.size := by omega
      have hd := num_drop s j hlt
      have hb := s[j].toNat_lt
      have hlen := E.num_lt (s.data.toList.drop (j + 1))
      have hll : (s.data.toList.drop (j + 1)).length ≤ 7 := by simp; omega
      have hy : E.num (s.data.toList.drop (j + 1)) < 72057594037927936 := Nat.lt_of_lt_of_le hlen (Nat.le_trans (Nat.pow_le_pow_right (by decide) hll) (by decide))
      have HD := Lib.hid hd
      clear hd hlen hll
      have FIN := Lib.hid (show NumAt s (.int .u64 ((E.num (s.data.toList.drop (j + 1)) : Int) * 256 + (s[j].toNat : Int))) (.int .i64 ((j : Int) - 1)) from ⟨j, by omega, rfl, by rw [HD.out]; push_cast; congr 1; omega⟩)
      clear HD
      generalize E.num (s.data.toList.drop (j + 1)) = y at *
      have e1 : ((j + 1 : Nat) : Int) - 1 = (j : Int) := by omega
      rw [e1]
      go_wp2
      go_round
      case rel => exact FIN.out
      case measure => simp [intOf]
    · obtain rfl : k = 0 := by omega
      have HV := Lib.hid (show E.num (s.data.toList.drop 0) = E.num s.data.toList from rfl)
      generalize E.num (s.data.toList.drop 0) = y at *
      go_wp2
      go_ret
      exact ⟨ret_i (by rw [HV.out]), rfl⟩
end Go.Proofs.YtnnkibhlildojaaDoor
