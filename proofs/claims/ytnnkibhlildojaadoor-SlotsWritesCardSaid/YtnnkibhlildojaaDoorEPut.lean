/-
  The contracts of sector.putLow and sector.low.
-/
import Derived.Test.YtnnkibhlildojaaDoorERow
import Derived.Test.YtnnkibhlildojaaDoorCBase
namespace Go.Proofs.YtnnkibhlildojaaDoor
open Go.RowKit Go.WideShapes
set_option maxRecDepth 100000

/-- The loop's state: k bytes are laid. -/
def PutAt (w : World) (g o n x : Nat) (l : List UInt8) (xv i : Value) (wr : World) : Prop :=
  ∃ k : Nat, k ≤ n ∧ i = .int .i64 k ∧ xv = .int .u64 ((x / 256 ^ k : Nat) : Int) ∧ RawAt wr g (E.put l o (E.low k x)) ∧ Keeps (fun q => q = g) w wr
theorem PutAt.next {w wr : World} {g o n x k : Nat} {l : List UInt8} (hk : k < n) (hl : o + n ≤ l.length) (hr : RawAt wr g (E.put l o (E.low k x))) (hs : Keeps (fun q => q = g) w wr) :
    PutAt w g o n x l (.int .u64 (((x / 256 ^ k : Nat) : Int) / 256)) (.int .i64 ((k : Int) + 1)) (wr.setCell ⟨g, o + k, none⟩ (.int .u8 (((x / 256 ^ k : Nat) : Int) % 256))) := by
  refine ⟨k + 1, hk, by push_cast; rfl, ?_, ?_, Keeps.trans hs (keeps_setCell7 wr g (o + k) _) (fun _ _ e => e)⟩
  · congr 1
    rw [Nat.pow_succ, ← Nat.div_div_eq_div_mul]; push_cast; rfl
  · have h1 := hr.store (i := o + k) ((x / 256 ^ k).toUInt8)
    rw [E.u8_mod] at h1
    have hlen := E.low_length k x
    have h2 := E.put_set (l := l) (s := E.low k x) (o := o) (by omega) ((x / 256 ^ k).toUInt8)
    rw [hlen] at h2
    rw [h2, ← E.low_snoc] at h1
    push_cast at h1 ⊢
    exact h1

set_option maxHeartbeats 1600000 in
theorem putLow_any (w : World) (g o n c x : Nat) (l : List UInt8) (h : RawAt w g l) (hl : o + n ≤ l.length) (hc : n ≤ c) (hx : x < 18446744073709551616) (hn : n ≤ 256) :
    Calls Tryd.prog 45 #[.slice (some ⟨g, o, none⟩) n c, .int .u64 x] w fun e w' => e = .returned (.tuple #[]) ∧ RawAt w' g (E.put l o (E.low n x)) ∧ Keeps (fun q => q = g) w w' := by
  have ST : PutAt w g o n x l (.int .u64 x) (.int .i64 0) w := ⟨0, Nat.zero_le _, rfl, by rw [Nat.pow_zero, Nat.div_one], by rw [E.low, E.put_nil (by omega)]; exact h, Keeps.refl _ w⟩
  have HST := Lib.hid ST
  clear ST h
  go_enter Tryd.func45, Tryd.ntmps45
  go_wp2
  go_loopw [1, 4, 7] (fun xv _ i wr => PutAt w g o n x l xv i wr) (fun _ _ i _ => n - (intOf i).toNat)
  case atStart => exact HST.out
  case round =>
    obtain ⟨k, hk, rfl, rfl, hr, hs⟩ := hrel
    by_cases hlt : k < n
    · have hlen : (E.put l o (E.low k x)).length = l.length := E.put_length (by rw [E.low_length]; omega)
      obtain ⟨cv, hcl, hcf⟩ := hr.cell (j := o + k) (by omega)
      have FIN := Lib.hid (PutAt.next (n := n) hlt hl hr hs)
      have hxk : x / 256 ^ k < 18446744073709551616 := Nat.lt_of_le_of_lt (Nat.div_le_self _ _) hx
      generalize x / 256 ^ k = y at *
      clear hr hs hlen
      go_wp2
      exact ⟨FIN.out, by simp [intOf]; omega⟩
    · obtain rfl : k = n := by omega
      have FIN := Lib.hid (And.intro hr hs)
      clear hr hs
      go_wp2
      go_end0
      exact ⟨rfl, FIN.out⟩

theorem or_byte7 (x b : Nat) (hx : x < 72057594037927936) (hb : b < 256) : bits .or .u64 ((x : Int) * 256) (b : Int) = ((b + 256 * x : Nat) : Int) := by
  rw [show (x : Int) * 256 = ((x * 256 : Nat) : Int) by omega, u64_or_nat _ _ (by omega) (by omega)]
  congr 1
  have := Nat.shiftLeft_add_eq_or_of_lt (i := 8) (b := b) (by omega) x
  rw [Nat.shiftLeft_eq] at this
  rw [← this]; omega
theorem num_drop (s : ByteArray) (k : Nat) (h : k < s.size) : E.num (s.data.toList.drop k) = s[k].toNat + 256 * E.num (s.data.toList.drop (k + 1)) := by
  rw [List.drop_eq_getElem_cons (by simpa using h), E.num]; rfl

/-- The loop's state: the bytes from k on are read. -/
def LowAt (s : ByteArray) (x i : Value) : Prop := ∃ k : Nat, k ≤ s.size ∧ i = .int .i64 ((k : Int) - 1) ∧ x = .int .u64 (E.num (s.data.toList.drop k) : Nat)

set_option maxHeartbeats 1600000 in
theorem low_any (s : ByteArray) (w : World) (hs : s.size ≤ 8) :
    Calls Tryd.prog 50 #[.string s] w fun e w' => e = .returned (.int .u64 (E.num s.data.toList : Nat)) ∧ w = w' := by
  have HST := Lib.hid (show LowAt s (.int .u64 0) (.int .i64 ((s.size : Int) - 1)) from ⟨s.size, Nat.le_refl _, rfl, by rw [List.drop_of_length_le (by simp)]; rfl⟩)
  go_enter Tryd.func50, Tryd.ntmps50
  go_wp2
  go_loop [3, 4] (fun x i => LowAt s x i) (fun _ i => (intOf i + 1).toNat)
  case atStart => exact HST.out
  case round =>
    obtain ⟨k, hk, rfl, rfl⟩ := hrel
    by_cases h0 : 0 < k
    · obtain ⟨j, rfl⟩ : ∃ j, k = j + 1 := ⟨k - 1, by omega⟩
      have hlt : j < s.size := by omega
      have hd := num_drop s j hlt
      have hb := s[j].toNat_lt
      have hlen := E.num_lt (s.data.toList.drop (j + 1))
      have hll : (s.data.toList.drop (j + 1)).length ≤ 7 := by simp; omega
      have hy : E.num (s.data.toList.drop (j + 1)) < 72057594037927936 := Nat.lt_of_lt_of_le hlen (Nat.le_trans (Nat.pow_le_pow_right (by decide) hll) (by decide))
      have HD := Lib.hid hd
      clear hd hlen hll
      have hor := or_byte7 (E.num (s.data.toList.drop (j + 1))) s[j].toNat hy (by omega)
      have FIN := Lib.hid (show LowAt s (.int .u64 ((s[j].toNat + 256 * E.num (s.data.toList.drop (j + 1)) : Nat) : Int)) (.int .i64 ((j : Int) - 1)) from ⟨j, by omega, rfl, by rw [HD.out]⟩)
      clear HD
      generalize E.num (s.data.toList.drop (j + 1)) = y at *
      have e1 : ((j + 1 : Nat) : Int) - 1 = (j : Int) := by omega
      rw [e1]
      go_wp2
      go_round
      case rel => exact FIN.out
      case measure => simp [intOf]
    · obtain rfl : k = 0 := by omega
      have HV := Lib.hid (show E.num (s.data.toList.drop 0) = E.num s.data.toList from rfl)
      generalize E.num (s.data.toList.drop 0) = y at *
      go_wp2
      go_ret
      exact ⟨ret_i (by rw [HV.out]), rfl⟩
end Go.Proofs.YtnnkibhlildojaaDoor
