/-
  The contracts of package wire's Reader: a varint, and a number of bytes.
-/
import Derived.Test.YtilhkbohemghlaaDoorWriters2
import Derived.Test.YtilhkbohemghlaaDoorErrs
import Derived.Lib.Strings
namespace Go.Proofs.YtilhkbohemghlaaDoor
open Go.RowKit
set_option maxRecDepth 100000

theorem pow128 (k : Nat) : (2 : Int) ^ (7 * k) = ((128 ^ k : Nat) : Int) := by
  rw [Int.pow_mul]
  norm_cast

theorem or_step {k acc c : Nat} (hk : k ≤ 9) (hc : c < 256) (h9 : k = 9 → c ≤ 1) (ha : acc < 128 ^ k) :
    bits .or .u64 (acc : Int) (IntKind.u64.wrap (IntKind.u64.wrap (bits .and .u8 (c : Int) 127) * 2 ^ (7 * k))) = ((acc + c % 128 * 128 ^ k : Nat) : Int) := by
  have hp : 128 ^ k ≤ 128 ^ 9 := Nat.pow_le_pow_right (by omega) hk
  have hb : c % 128 * 128 ^ k < 18446744073709551616 := by
    by_cases e : k = 9
    · subst e
      have := h9 rfl
      omega
    · have h8 : 128 ^ k ≤ 128 ^ 8 := Nat.pow_le_pow_right (by omega) (by omega)
      have : c % 128 * 128 ^ k ≤ 127 * 128 ^ 8 := Nat.mul_le_mul (by omega) h8
      omega
  rw [u8_and127 _ (by omega) (by omega), pow128, IntKind.wrap_u64, IntKind.wrap_u64]
  have e1 : (c : Int) % 128 % 18446744073709551616 * ((128 ^ k : Nat) : Int) % 18446744073709551616 = ((c % 128 * 128 ^ k : Nat) : Int) := by
    rw [show (c : Int) % 128 % 18446744073709551616 = ((c % 128 : Nat) : Int) by omega]
    rw [← Int.natCast_mul]
    omega
  rw [e1, u64_or_nat _ _ (by omega) (by omega), Nat.or_comm]
  rw [nat_join (7 * k) (c % 128 * 128 ^ k) acc (by rw [Nat.pow_mul]; exact Nat.mul_mod_left _ _) (by rw [Nat.pow_mul]; exact ha), Nat.add_comm]

/-- What varint answers. -/
def vRes (ad : Nat → Addr) : Nat ⊕ (Nat × Nat) → Value
  | .inl n => .tuple #[.int .u64 0, .int .i64 0, errV ad n]
  | .inr (x, n) => .tuple #[.int .u64 x, .int .i64 n, .nilIface]

def VarAt (s : ByteArray) (v i : Value) : Prop :=
  ∃ (k acc : Nat), i = .int .i64 k ∧ v = .int .u64 acc ∧ k ≤ 9 ∧ k ≤ s.size ∧ acc < 128 ^ k ∧ varintD s.data.toList = vd k acc (s.data.toList.drop k)

theorem vd_at {s : ByteArray} {k acc : Nat} (h : k < s.size) : vd k acc (s.data.toList.drop k) = if k = 9 ∧ 1 < s[k].toNat then .inl 2 else
    if 128 ≤ s[k].toNat then vd (k + 1) (acc + s[k].toNat % 128 * 128 ^ k) (s.data.toList.drop (k + 1)) else
    if s[k].toNat = 0 ∧ 0 < k then .inl 2 else .inr (acc + s[k].toNat % 128 * 128 ^ k, k + 1) := by
  have h' : k < s.data.toList.length := by simpa using h
  rw [List.drop_eq_getElem_cons h', vd]
  rfl

theorem VarAt.more {s : ByteArray} {k acc : Nat} {i : Value} (hk : k < 9) (h : k < s.size) (ha : acc < 128 ^ k) (hd : varintD s.data.toList = vd k acc (s.data.toList.drop k)) (hb : 128 ≤ s[k].toNat) (hi : i = .int .i64 ((k : Int) + 1)) :
    VarAt s (.int .u64 (bits .or .u64 (acc : Int) (IntKind.u64.wrap (IntKind.u64.wrap (bits .and .u8 (s[k].toNat : Int) 127) * 2 ^ (7 * k))))) i := by
  have hc := s[k].toNat_lt
  refine ⟨k + 1, _, by rw [hi]; simp, by rw [or_step (by omega) hc (fun e => by omega) ha], by omega, h, ?_, ?_⟩
  · rw [Nat.pow_succ]
    have h1 : s[k].toNat % 128 * 128 ^ k ≤ 127 * 128 ^ k := Nat.mul_le_mul_right _ (by omega)
    omega
  · rw [hd, vd_at h, if_neg (by omega), if_pos hb]

set_option maxHeartbeats 800000 in
theorem varint_any (ad : Nat → Addr) (s : ByteArray) (w : World) (hE : Errs ad w) (hs : s.size ≤ 140737488355328) :
    Calls Tryd.prog 68 #[.string s] w fun e w' => e = .returned (vRes ad (varintD s.data.toList)) ∧ ∃ n, w' = w.drewN n := by
  have c2 : w.cell? ⟨5, 0, none⟩ = some (.iface 131 (.pointer (some (ad 2)))) := hE.cells 1 _ rfl
  have c1 : w.cell? ⟨4, 0, none⟩ = some (.iface 131 (.pointer (some (ad 1)))) := hE.cells 0 _ rfl
  clear hE
  go_enter Tryd.func68, Tryd.ntmps68
  go_wp2
  go_loop [5, 6, 7] (fun v i _ => VarAt s v i) (fun _ i _ => s.size - (intOf i).toNat)
  case atStart => exact ⟨0, 0, rfl, rfl, by omega, by omega, by decide, rfl⟩
  case round =>
    obtain ⟨k, acc, rfl, rfl, hk, hks, hacc, hd⟩ := hrel
    have Hacc := Lib.hid hacc; clear hacc
    have Hd := Lib.hid hd; clear hd
    by_cases hlt : k < s.size
    · have hc := s[k].toNat_lt
      by_cases h9 : k = 9 ∧ 1 < s[k].toNat
      · have fin : varintD s.data.toList = .inl 2 := by rw [Hd.out, vd_at hlt, if_pos h9]
        have Fin := Lib.hid fin; clear fin
        obtain ⟨h9, h1⟩ := h9
        have t9 : ((k : Int) == 9) = true := by simp; omega
        have t1 : (1 : Int) < (s[k].toNat : Int) := by omega
        clear h9
        go_wp2
        go_quiet (fail)
        go_wp2
        go_ret3
        exact ⟨by rw [Fin.out]; rfl, _, rfl⟩
      · by_cases hb : 128 ≤ s[k].toNat
        · have hk9 : k < 9 := by omega
          have t9 : ((k : Int) == 9) = false := by simp; omega
          have fin := Lib.hid (fun i => VarAt.more (i := i) hk9 hlt Hacc.out Hd.out hb)
          clear h9
          go_wp2
          go_round
          case rel => exact fin.out _ rfl
          case measure => simp [intOf]; omega
        · by_cases h0 : s[k].toNat = 0 ∧ 0 < k
          · have fin : varintD s.data.toList = .inl 2 := by rw [Hd.out, vd_at hlt, if_neg h9, if_neg hb, if_pos h0]
            have Fin := Lib.hid fin; clear fin
            have t9 : ((k : Int) == 9) = false ∨ ((k : Int) == 9) = true := by by_cases e : (k : Int) = 9 <;> simp [e]
            have t0 : ((s[k].toNat : Int) == 0) = true := by simp; omega
            have tk : (0 : Int) < (k : Int) := by omega
            have t1 : (s[k].toNat : Int) < 128 := by omega
            have t2 : (s[k].toNat : Int) ≤ 1 := by omega
            clear h9 h0
            rcases t9 with t9 | t9
            all_goals
              go_wp2
              go_quiet (fail)
              go_wp2
              go_ret3
              exact ⟨by rw [Fin.out]; rfl, _, rfl⟩
          · have fin : varintD s.data.toList = .inr (acc + s[k].toNat % 128 * 128 ^ k, k + 1) := by rw [Hd.out, vd_at hlt, if_neg h9, if_neg hb, if_neg h0]
            have Fin := Lib.hid fin; clear fin
            have t9 : (((k : Int) == 9) = false ∨ ((k : Int) == 9) = true ∧ (s[k].toNat : Int) ≤ 1) := by
              by_cases e : k = 9
              · exact .inr ⟨by simp; omega, by omega⟩
              · exact .inl (by simp; omega)
            have t0 : ((s[k].toNat : Int) == 0) = false ∨ ((s[k].toNat : Int) == 0) = true ∧ (k : Int) ≤ 0 := by
              by_cases e : s[k].toNat = 0
              · exact .inr ⟨by rw [e]; rfl, by omega⟩
              · exact .inl (by simp; omega)
            have t1 : (s[k].toNat : Int) < 128 := by omega
            have HO := Lib.hid (or_step (c := s[k].toNat) hk hc (by omega) Hacc.out)
            clear h9 h0
            rcases t9 with t9 | ⟨t9, t8⟩ <;> rcases t0 with t0 | ⟨t0, t7⟩
            all_goals
              go_wp2
              go_ret3
              exact ⟨by rw [Fin.out, HO.out]; simp [vRes], 0, rfl⟩
    · have fin : varintD s.data.toList = .inl 1 := by rw [Hd.out, List.drop_eq_nil_of_le (by simp; omega)]; rfl
      have Fin := Lib.hid fin; clear fin
      go_wp2
      go_quiet (fail)
      go_wp2
      go_ret3
      exact ⟨by rw [Fin.out]; rfl, _, rfl⟩

theorem vd_err : ∀ (l : List UInt8) (i acc e : Nat), vd i acc l = .inl e → e = 1 ∨ e = 2
  | [], i, acc, e, h => by simp [vd] at h; omega
  | b :: r, i, acc, e, h => by
    rw [vd] at h
    split at h
    · injection h; omega
    · split at h
      · exact vd_err r _ _ e h
      · split at h
        · injection h; omega
        · cases h

/-- A wire.Reader in block b over s, at the place p. -/
structure Rd (b : Nat) (s : ByteArray) (p : Nat) (w : World) : Prop where
  blk : w.heap[b]? = some (.cells #[.string s, .int .i64 p] 86 (0, 0))
  le : p ≤ s.size
  sz : s.size ≤ 140737488355328

/-- What is left. -/
def rest (s : ByteArray) (p : Nat) : List UInt8 := s.data.toList.drop p

theorem rest_length (s : ByteArray) (p : Nat) : (rest s p).length = s.size - p := by simp [rest]
theorem rest_drop (s : ByteArray) (p n : Nat) : (rest s p).drop n = rest s (p + n) := by simp [rest]

theorem Rd.cell0 {b : Nat} {s : ByteArray} {p : Nat} {w : World} (h : Rd b s p w) : w.cell? ⟨b, 0, none⟩ = some (.string s) := by rw [Lib.cell_of_heap h.blk]; rfl
theorem Rd.cell1 {b : Nat} {s : ByteArray} {p : Nat} {w : World} (h : Rd b s p w) : w.cell? ⟨b, 1, none⟩ = some (.int .i64 p) := by rw [Lib.cell_of_heap h.blk]; rfl
theorem Rd.lt {b : Nat} {s : ByteArray} {p : Nat} {w : World} (h : Rd b s p w) : b < w.heap.size := lt_of_block h.blk
theorem Rd.frozen1 {b : Nat} {s : ByteArray} {p : Nat} {w : World} (h : Rd b s p w) : w.frozen? ⟨b, 1, none⟩ = false := Lib.frozen_of_heap h.blk 1
theorem Rd.kept {S : Nat → Prop} {b : Nat} {s : ByteArray} {p : Nat} {w w' : World} (h : Rd b s p w) (hk : Keeps S w w') (hb : ¬ S b) : Rd b s p w' := ⟨(hk.block b h.lt hb).trans h.blk, h.le, h.sz⟩
theorem Rd.drewN {b : Nat} {s : ByteArray} {p : Nat} {w : World} (h : Rd b s p w) (n : Nat) : Rd b s p (w.drewN n) := ⟨h.blk, h.le, h.sz⟩
theorem Rd.alloc {b : Nat} {s : ByteArray} {p : Nat} {w : World} (h : Rd b s p w) (o : Obj) : Rd b s p (w.alloc o) := h.kept (S := fun _ => False) ((Keeps.refl _ _).alloc o) (fun h => h)
theorem Rd.put {b : Nat} {s : ByteArray} {p : Nat} {w : World} (h : Rd b s p w) {q : Nat} (hq : q ≤ s.size) : Rd b s q (w.setCell ⟨b, 1, none⟩ (.int .i64 q)) := by
  refine ⟨?_, hq, h.sz⟩
  simp [World.setCell, Array.getElem?_modify, h.blk]

/-- What a Reader's call leaves: the place moved on, nothing else turned. -/
structure Moved (b : Nat) (s : ByteArray) (q : Nat) (w w' : World) : Prop where
  rd : Rd b s q w'
  keeps : Keeps (fun k => k = b) w w'

theorem Moved.trans {b : Nat} {s : ByteArray} {p q : Nat} {w w1 w2 : World} (h : Moved b s p w w1) (k : Moved b s q w1 w2) : Moved b s q w w2 := ⟨k.rd, h.keeps.trans k.keeps (fun _ _ h => h)⟩
theorem Rd.stay {b : Nat} {s : ByteArray} {p : Nat} {w : World} (h : Rd b s p w) (n : Nat) : Moved b s p w (w.drewN n) := ⟨h.drewN n, (Keeps.refl _ _).drewN n⟩
theorem Rd.move {b : Nat} {s : ByteArray} {p : Nat} {w : World} (h : Rd b s p w) {q : Nat} (hq : q ≤ s.size) (n : Nat) : Moved b s q w ((w.drewN n).setCell ⟨b, 1, none⟩ (.int .i64 q)) :=
  ⟨(h.drewN n).put hq, Keeps.setCell (S := fun k => k = b) ((Keeps.refl _ _).drewN n) (p := ⟨b, 1, none⟩) (fun _ => rfl) _⟩

theorem extract_rest (s : ByteArray) (p : Nat) : (s.extract p s.size).data.toList = s.data.toList.drop p := by
  rw [Lib.extract_data, List.take_of_length_le]
  simp

theorem varint_err (ad : Nat → Addr) (s : ByteArray) (p e : Nat) (w : World) (hE : Errs ad w) (hs : s.size ≤ 140737488355328) (hd : varintD (rest s p) = .inl e) :
    Calls Tryd.prog 68 #[.string (s.extract p s.size)] w fun x w' => x = .returned (.tuple #[.int .u64 0, .int .i64 0, .iface 131 (.pointer (some (ad e)))]) ∧ ∃ n, w' = w.drewN n := by
  have h := varint_any ad (s.extract p s.size) w hE (by simp; omega)
  rw [extract_rest] at h
  have hd' : varintD (s.data.toList.drop p) = .inl e := hd
  rw [hd'] at h
  have he := vd_err _ _ _ _ hd
  simp only [vRes, errV_pos ad (show 0 < e by omega)] at h
  exact h

theorem varint_ok (ad : Nat → Addr) (s : ByteArray) (p x n : Nat) (w : World) (hE : Errs ad w) (hs : s.size ≤ 140737488355328) (hd : varintD (rest s p) = .inr (x, n)) :
    Calls Tryd.prog 68 #[.string (s.extract p s.size)] w fun y w' => y = .returned (.tuple #[.int .u64 x, .int .i64 n, .nilIface]) ∧ ∃ n, w' = w.drewN n := by
  have h := varint_any ad (s.extract p s.size) w hE (by simp; omega)
  rw [extract_rest] at h
  have hd' : varintD (s.data.toList.drop p) = .inr (x, n) := hd
  rw [hd'] at h
  exact h

theorem varintD_len {s : ByteArray} {p x n : Nat} (hp : p ≤ s.size) (hd : varintD (rest s p) = .inr (x, n)) : x < 18446744073709551616 ∧ p + n ≤ s.size ∧ n ≤ 10 := by
  obtain ⟨hx, hn, t, ht⟩ := varintD_inv hd
  have hl := rest_length s p
  rw [ht, List.length_append] at hl
  have := Lib.uvarint_length64 hx
  exact ⟨hx, by omega, by omega⟩

theorem rread_any (s : ByteArray) (w : World) (hs : s.size ≤ 140737488355328) :
    Calls Tryd.prog 14 #[.string s] w fun e w' => e = .returned (.pointer (some ⟨w.heap.size, 0, none⟩)) ∧ Rd w.heap.size s 0 w' ∧ Keeps (fun _ => False) w w' := by
  go_enter Tryd.func14, Tryd.ntmps14
  go_wp2
  go_ret
  exact ⟨rfl, ⟨heap_alloc_new w _, Nat.zero_le _, hs⟩, (Keeps.refl _ _).alloc _⟩

theorem rat_any (b : Nat) (s : ByteArray) (p : Nat) (w : World) (h : Rd b s p w) :
    Calls Tryd.prog 16 #[.pointer (some ⟨b, 0, none⟩)] w fun e w' => e = .returned (.int .i64 p) ∧ w' = w := by
  have c1 := h.cell1
  clear h
  go_enter Tryd.func16, Tryd.ntmps16
  go_wp2
  go_ret
  exact ⟨rfl, rfl⟩

set_option maxHeartbeats 400000 in
theorem rleft_any (b : Nat) (s : ByteArray) (p : Nat) (w : World) (h : Rd b s p w) :
    Calls Tryd.prog 17 #[.pointer (some ⟨b, 0, none⟩)] w fun e w' => e = .returned (.int .i64 ((s.size : Int) - p)) ∧ ∃ n, w' = w.drewN n := by
  have c0 := h.cell0
  have c1 := h.cell1
  have h1 := h.le
  have h2 := h.sz
  clear h
  go_enter Tryd.func17, Tryd.ntmps17
  go_wp2
  go_quiet (fail)
  go_wp2
  go_ret
  exact ⟨rfl, _, rfl⟩

theorem rdone_any (ad : Nat → Addr) (b : Nat) (s : ByteArray) (p : Nat) (w : World) (h : Rd b s p w) (hE : Errs ad w) :
    Calls Tryd.prog 19 #[.pointer (some ⟨b, 0, none⟩)] w fun e w' => e = .returned (errV ad (if p < s.size then 5 else 0)) ∧ ∃ n, w' = w.drewN n := by
  have c5 : w.cell? ⟨0, 0, none⟩ = some (.iface 131 (.pointer (some (ad 5)))) := hE.cells 4 _ rfl
  have h1 := h.le
  have h2 := h.sz
  by_cases hp : p < s.size
  · rw [if_pos hp, errV_pos ad (by omega)]
    have h3 : (0 : Int) < (s.size : Int) - p := by omega
    go_enter Tryd.func19, Tryd.ntmps19
    go_wp2_with fail
    refine (rleft_any b s p _ h).mono ?_
    rintro e w' ⟨rfl, n, rfl⟩
    go_wp2
    go_ret
    exact ⟨rfl, _, rfl⟩
  · rw [if_neg hp, errV_zero]
    have h3 : ¬ (0 : Int) < (s.size : Int) - p := by omega
    go_enter Tryd.func19, Tryd.ntmps19
    go_wp2_with fail
    refine (rleft_any b s p _ h).mono ?_
    rintro e w' ⟨rfl, n, rfl⟩
    go_wp2
    go_ret
    exact ⟨rfl, _, rfl⟩

set_option maxHeartbeats 400000 in
theorem ruint_err (ad : Nat → Addr) (b : Nat) (s : ByteArray) (p e : Nat) (w : World) (h : Rd b s p w) (hE : Errs ad w) (hd : varintD (rest s p) = .inl e) :
    Calls Tryd.prog 34 #[.pointer (some ⟨b, 0, none⟩)] w fun x w' => x = .returned (.tuple #[.int .u64 0, .iface 131 (.pointer (some (ad e)))]) ∧ Moved b s p w w' := by
  have c0 := h.cell0
  have c1 := h.cell1
  have f1 := h.frozen1
  have h1 := h.le
  have h2 := h.sz
  have fin := Lib.hid (fun n => h.move h1 n)
  have hv := Lib.hid (fun n => varint_err ad s p e (w.drewN n) (hE.drewN n) h2 hd)
  clear h hE hd
  go_enter Tryd.func34, Tryd.ntmps34
  go_wp2
  go_quiet ((go_at_call 68; exact Calls.quiet_of (hv.out _)))
  go_wp2
  go_ret2
  exact ⟨rfl, fin.out _⟩

set_option maxHeartbeats 400000 in
theorem ruint_ok (ad : Nat → Addr) (b : Nat) (s : ByteArray) (p x n : Nat) (w : World) (h : Rd b s p w) (hE : Errs ad w) (hd : varintD (rest s p) = .inr (x, n)) :
    Calls Tryd.prog 34 #[.pointer (some ⟨b, 0, none⟩)] w fun y w' => y = .returned (.tuple #[.int .u64 x, .nilIface]) ∧ Moved b s (p + n) w w' := by
  have c0 := h.cell0
  have c1 := h.cell1
  have f1 := h.frozen1
  have h1 := h.le
  have h2 := h.sz
  obtain ⟨hx, hpn, hn⟩ := varintD_len h1 hd
  have fin := Lib.hid (fun m => h.move hpn m)
  have hv := Lib.hid (fun m => varint_ok ad s p x n (w.drewN m) (hE.drewN m) h2 hd)
  clear h hE hd
  go_enter Tryd.func34, Tryd.ntmps34
  go_wp2
  go_quiet ((go_at_call 68; exact Calls.quiet_of (hv.out _)))
  go_wp2
  go_ret2
  exact ⟨rfl, fin.out _⟩
end Go.Proofs.YtilhkbohemghlaaDoor
