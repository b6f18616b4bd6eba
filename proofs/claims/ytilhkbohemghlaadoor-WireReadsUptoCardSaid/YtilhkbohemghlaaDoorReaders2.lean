/-
  The contracts of package wire's Reader, on: numbers up to a bound, signed ones, so many bytes, floats, texts.
-/
import Derived.Test.YtilhkbohemghlaaDoorReaders
namespace Go.Proofs.YtilhkbohemghlaaDoor
open Go.RowKit
set_option maxRecDepth 100000

/-! ### Upto -/

set_option maxHeartbeats 400000 in
theorem rupto_err (ad : Nat → Addr) (b : Nat) (s : ByteArray) (p e : Nat) (most : Int) (w : World) (h : Rd b s p w) (hE : Errs ad w) (hd : varintD (rest s p) = .inl e) :
    Calls Tryd.prog 48 #[.pointer (some ⟨b, 0, none⟩), .int .i64 most] w fun x w' => x = .returned (.tuple #[.int .i64 0, .iface 131 (.pointer (some (ad e)))]) ∧ Moved b s p w w' := by
  have c0 := h.cell0
  have c1 := h.cell1
  have h1 := h.le
  have h2 := h.sz
  have fin := Lib.hid (fun n => h.stay n)
  have hv := Lib.hid (fun n => varint_err ad s p e (w.drewN n) (hE.drewN n) h2 hd)
  clear h hE hd
  go_enter Tryd.func48, Tryd.ntmps48
  go_wp2
  go_quiet ((go_at_call 68; exact Calls.quiet_of (hv.out _)))
  go_wp2
  go_ret2
  exact ⟨rfl, fin.out _⟩

set_option maxHeartbeats 400000 in
theorem rupto_limit (ad : Nat → Addr) (b : Nat) (s : ByteArray) (p x n : Nat) (most : Int) (w : World) (h : Rd b s p w) (hE : Errs ad w) (hd : varintD (rest s p) = .inr (x, n)) (hm : most < x) (hm1 : most ≤ 9223372036854775807) :
    Calls Tryd.prog 48 #[.pointer (some ⟨b, 0, none⟩), .int .i64 most] w fun y w' => y = .returned (.tuple #[.int .i64 0, .iface 131 (.pointer (some (ad 3)))]) ∧ Moved b s p w w' := by
  have c0 := h.cell0
  have c1 := h.cell1
  have h1 := h.le
  have h2 := h.sz
  have c3 : w.cell? ⟨2, 0, none⟩ = some (.iface 131 (.pointer (some (ad 3)))) := hE.cells 2 _ rfl
  have fin := Lib.hid (fun n => h.stay n)
  have hv := Lib.hid (fun m => varint_ok ad s p x n (w.drewN m) (hE.drewN m) h2 hd)
  obtain ⟨hx, _, _⟩ := varintD_len h1 hd
  clear h hE hd
  by_cases h0 : most < 0
  all_goals
    go_enter Tryd.func48, Tryd.ntmps48
    go_wp2
    go_quiet ((go_at_call 68; exact Calls.quiet_of (hv.out _)))
    go_wp2
    go_quiet (fail)
    go_wp2
    go_ret2
    exact ⟨rfl, by rw [World.drewN_drewN]; exact fin.out _⟩

set_option maxHeartbeats 400000 in
theorem rupto_ok (ad : Nat → Addr) (b : Nat) (s : ByteArray) (p x n : Nat) (most : Int) (w : World) (h : Rd b s p w) (hE : Errs ad w) (hd : varintD (rest s p) = .inr (x, n)) (hm : (x : Int) ≤ most) (hm1 : most ≤ 9223372036854775807) :
    Calls Tryd.prog 48 #[.pointer (some ⟨b, 0, none⟩), .int .i64 most] w fun y w' => y = .returned (.tuple #[.int .i64 x, .nilIface]) ∧ Moved b s (p + n) w w' := by
  have c0 := h.cell0
  have c1 := h.cell1
  have f1 := h.frozen1
  have h1 := h.le
  have h2 := h.sz
  obtain ⟨hx, hpn, hn⟩ := varintD_len h1 hd
  have fin := Lib.hid (fun m => h.move hpn m)
  have hv := Lib.hid (fun m => varint_ok ad s p x n (w.drewN m) (hE.drewN m) h2 hd)
  clear h hE hd
  have h0 : ¬ most < 0 := by omega
  go_enter Tryd.func48, Tryd.ntmps48
  go_wp2
  go_quiet ((go_at_call 68; exact Calls.quiet_of (hv.out _)))
  go_wp2
  go_ret2
  exact ⟨rfl, fin.out _⟩

/-! ### Int -/

theorem unzigzag_even {x : Nat} (hx : x < 18446744073709551616) (h : x % 2 = 0) : bits .xor .i64 ((x : Int) / 2) 0 = Lib.unzigzag x := by
  show IntKind.i64.wrap ((BitVec.ofInt 64 ((x : Int) / 2) ^^^ BitVec.ofInt 64 0).toNat : Int) = _
  have h2 : (BitVec.ofInt 64 ((x : Int) / 2)).toNat = x / 2 := by
    rw [show (x : Int) / 2 = ((x / 2 : Nat) : Int) by omega, BitVec.ofInt_natCast, BitVec.toNat_ofNat]; exact Nat.mod_eq_of_lt (by omega)
  rw [BitVec.toNat_xor, h2, show (BitVec.ofInt 64 0).toNat = 0 by decide, Nat.xor_zero, IntKind.wrap_i64]
  unfold Lib.unzigzag
  rw [if_pos h]
  omega

theorem unzigzag_odd {x : Nat} (hx : x < 18446744073709551616) (h : x % 2 = 1) : bits .xor .i64 ((x : Int) / 2) (-1) = Lib.unzigzag x := by
  have h1 := Lib.i64_not (x / 2) (by omega)
  have hc : bits .xor .i64 ((x : Int) / 2) (-1) = bits .xor .i64 (-1) ((x / 2 : Nat) : Int) := by
    show IntKind.i64.wrap ((BitVec.ofInt 64 ((x : Int) / 2) ^^^ BitVec.ofInt 64 (-1)).toNat : Int) = IntKind.i64.wrap ((BitVec.ofInt 64 (-1) ^^^ BitVec.ofInt 64 ((x / 2 : Nat) : Int)).toNat : Int)
    rw [BitVec.xor_comm]
    rfl
  rw [hc, h1]
  unfold Lib.unzigzag
  rw [if_neg (by omega)]

theorem unzigzag_any (x : Nat) (w : World) (hx : x < 18446744073709551616) :
    Calls Tryd.prog 73 #[.int .u64 x] w fun e w' => e = .returned (.int .i64 (Lib.unzigzag x)) ∧ w' = w := by
  have ha := Lib.u64_and1 (x : Int) (by omega) (by omega)
  by_cases h : x % 2 = 0
  · have e := Lib.hid (unzigzag_even hx h)
    rw [show (x : Int) % 2 = 0 by omega] at ha
    clear h
    go_enter Tryd.func73, Tryd.ntmps73
    go_wp2
    go_ret
    exact ⟨ret_int e.out, rfl⟩
  · have e := Lib.hid (unzigzag_odd hx (by omega))
    rw [show (x : Int) % 2 = 1 by omega] at ha
    clear h
    go_enter Tryd.func73, Tryd.ntmps73
    go_wp2
    go_ret
    exact ⟨ret_int e.out, rfl⟩

theorem unzigzag_range {x : Nat} (hx : x < 18446744073709551616) : -9223372036854775808 ≤ Lib.unzigzag x ∧ Lib.unzigzag x ≤ 9223372036854775807 := by
  unfold Lib.unzigzag; split <;> omega

theorem zigzag_unzigzag (x : Nat) : Lib.zigzag (Lib.unzigzag x) = x := by
  unfold Lib.unzigzag Lib.zigzag
  split
  · rw [if_pos (by omega)]; omega
  · rw [if_neg (by omega)]; omega

theorem unzigzag_zigzag (x : Int) : Lib.unzigzag (Lib.zigzag x) = x := by
  unfold Lib.unzigzag Lib.zigzag
  split <;> split <;> omega

set_option maxHeartbeats 400000 in
theorem rint_err (ad : Nat → Addr) (b : Nat) (s : ByteArray) (p e : Nat) (w : World) (h : Rd b s p w) (hE : Errs ad w) (hd : varintD (rest s p) = .inl e) :
    Calls Tryd.prog 50 #[.pointer (some ⟨b, 0, none⟩)] w fun x w' => x = .returned (.tuple #[.int .i64 0, .iface 131 (.pointer (some (ad e)))]) ∧ Moved b s p w w' := by
  have hv := Lib.hid (ruint_err ad b s p e w h hE hd)
  clear h hE hd
  go_enter Tryd.func50, Tryd.ntmps50
  go_wp2_with fail
  refine hv.out.mono ?_
  rintro x w' ⟨rfl, hm⟩
  go_wp2_with fail
  refine (unzigzag_any 0 w' (by omega)).mono ?_
  rintro x w1 ⟨rfl, rfl⟩
  go_wp2
  go_ret2
  exact ⟨rfl, hm⟩

set_option maxHeartbeats 400000 in
theorem rint_ok (ad : Nat → Addr) (b : Nat) (s : ByteArray) (p x n : Nat) (w : World) (h : Rd b s p w) (hE : Errs ad w) (hd : varintD (rest s p) = .inr (x, n)) :
    Calls Tryd.prog 50 #[.pointer (some ⟨b, 0, none⟩)] w fun y w' => y = .returned (.tuple #[.int .i64 (Lib.unzigzag x), .nilIface]) ∧ Moved b s (p + n) w w' := by
  have hv := Lib.hid (ruint_ok ad b s p x n w h hE hd)
  obtain ⟨hx, _, _⟩ := varintD_len h.le hd
  clear h hE hd
  go_enter Tryd.func50, Tryd.ntmps50
  go_wp2_with fail
  refine hv.out.mono ?_
  rintro y w' ⟨rfl, hm⟩
  go_wp2_with fail
  refine (unzigzag_any x w' hx).mono ?_
  rintro y w1 ⟨rfl, rfl⟩
  go_wp2
  go_ret2
  exact ⟨rfl, hm⟩

/-! ### take, number -/

set_option maxHeartbeats 400000 in
theorem rtake_short (ad : Nat → Addr) (b : Nat) (s : ByteArray) (p : Nat) (n : Int) (w : World) (h : Rd b s p w) (hE : Errs ad w) (hn : (s.size : Int) - p < n) :
    Calls Tryd.prog 74 #[.pointer (some ⟨b, 0, none⟩), .int .i64 n] w fun y w' => y = .returned (.tuple #[.string ⟨#[]⟩, .iface 131 (.pointer (some (ad 1)))]) ∧ Moved b s p w w' := by
  have c1 : w.cell? ⟨4, 0, none⟩ = some (.iface 131 (.pointer (some (ad 1)))) := hE.cells 0 _ rfl
  have fin := Lib.hid (fun n => h.stay n)
  have hl := Lib.hid (rleft_any b s p w h)
  have h1 := h.le
  have h2 := h.sz
  clear h hE
  go_enter Tryd.func74, Tryd.ntmps74
  go_wp2_with fail
  refine hl.out.mono ?_
  rintro e w' ⟨rfl, m, rfl⟩
  go_wp2
  go_quiet (fail)
  go_wp2
  go_ret2
  exact ⟨rfl, by rw [World.drewN_drewN]; exact fin.out _⟩

set_option maxHeartbeats 400000 in
theorem rtake_ok (b : Nat) (s : ByteArray) (p n : Nat) (w : World) (h : Rd b s p w) (hn : p + n ≤ s.size) :
    Calls Tryd.prog 74 #[.pointer (some ⟨b, 0, none⟩), .int .i64 n] w fun y w' => y = .returned (.tuple #[.string (s.extract p (p + n)), .nilIface]) ∧ Moved b s (p + n) w w' := by
  have c0 := h.cell0
  have c1 := h.cell1
  have f1 := h.frozen1
  have fin := Lib.hid (fun m => h.move hn m)
  have hl := Lib.hid (rleft_any b s p w h)
  have h1 := h.le
  have h2 := h.sz
  clear h
  go_enter Tryd.func74, Tryd.ntmps74
  go_wp2_with fail
  refine hl.out.mono ?_
  rintro e w' ⟨rfl, m, rfl⟩
  go_wp2
  go_quiet (fail)
  go_wp2
  go_ret2
  exact ⟨rfl, fin.out _⟩

/-! ### number -/

def NumAt (s : ByteArray) (v i : Value) : Prop := ∃ m : Nat, m ≤ s.size ∧ i = .int .i64 ((m : Int) - 1) ∧ v = .int .u64 ((lowN (s.data.toList.drop m) : Nat) : Int)

theorem num_step {x c : Nat} (hx : x < 72057594037927936) (hc : c < 256) : bits .or .u64 ((x : Int) * 256) (c : Int) = ((c + 256 * x : Nat) : Int) := by
  rw [show (x : Int) * 256 = ((256 * x : Nat) : Int) by omega, u64_or_nat _ _ (by omega) (by omega), nat_join 8 (256 * x) c (by omega) (by omega), Nat.add_comm]

theorem lowN_drop {s : ByteArray} {m : Nat} (h : m < s.size) : lowN (s.data.toList.drop m) = s[m].toNat + 256 * lowN (s.data.toList.drop (m + 1)) := by
  have h' : m < s.data.toList.length := by simpa using h
  rw [List.drop_eq_getElem_cons h', lowN]
  rfl

set_option maxHeartbeats 400000 in
theorem number_any (s : ByteArray) (w : World) (hs : s.size ≤ 8) :
    Calls Tryd.prog 75 #[.string s] w fun e w' => e = .returned (.int .u64 ((lowN s.data.toList : Nat) : Int)) ∧ w = w' := by
  go_enter Tryd.func75, Tryd.ntmps75
  go_wp2
  go_loop [3, 4] (fun v i => NumAt s v i) (fun _ i => (intOf i + 1).toNat)
  case atStart => exact ⟨s.size, Nat.le_refl _, rfl, by rw [List.drop_eq_nil_of_le (by simp)]; rfl⟩
  case round =>
    obtain ⟨m, hm, rfl, rfl⟩ := hrel
    cases m with
    | zero =>
      go_wp2
      go_ret
      exact ⟨by simp, rfl⟩
    | succ m =>
      have hlt : m < s.size := hm
      obtain ⟨x, hx⟩ : ∃ x, lowN (s.data.toList.drop (m + 1)) = x := ⟨_, rfl⟩
      have hx1 : x < 72057594037927936 := by
        have h1 := lowN_lt (s.data.toList.drop (m + 1))
        have h2 : 256 ^ (s.data.toList.drop (m + 1)).length ≤ 256 ^ 7 := Nat.pow_le_pow_right (by omega) (by simp; omega)
        rw [hx] at h1
        omega
      rw [hx]
      have hc := s[m].toNat_lt
      have fin : NumAt s (.int .u64 (bits .or .u64 ((x : Int) * 256) (s[m].toNat : Int))) (.int .i64 ((m : Int) - 1)) :=
        ⟨m, by omega, rfl, by rw [num_step hx1 hc, lowN_drop hlt, hx]⟩
      have fin' := Lib.hid fin; clear fin hx
      rw [show (((m + 1 : Nat) : Int) - 1) = (m : Int) by omega]
      go_wp2
      go_round
      case rel => exact fin'.out
      case measure => simp [intOf]
end Go.Proofs.YtilhkbohemghlaaDoor
