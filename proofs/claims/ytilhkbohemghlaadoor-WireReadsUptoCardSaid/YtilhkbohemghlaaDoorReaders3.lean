/-
  The contracts of package wire's Reader, on: eight bytes, a byte, floats, texts, lists of texts.
-/
import Derived.Test.YtilhkbohemghlaaDoorReaders2
namespace Go.Proofs.YtilhkbohemghlaaDoor
open Go.RowKit
set_option maxRecDepth 100000

theorem extract_take (s : ByteArray) (p n : Nat) : (s.extract p (p + n)).data.toList = (rest s p).take n := by
  rw [Lib.extract_data, show p + n - p = n by omega]; rfl

theorem take_size {s : ByteArray} {p n : Nat} (h : p + n ≤ s.size) : (s.extract p (p + n)).size = n := by
  have e : (s.extract p (p + n)).size = (s.extract p (p + n)).data.toList.length := rfl
  rw [e, extract_take, List.length_take, rest_length]
  omega

theorem number_take (s : ByteArray) (p n : Nat) (w : World) (h : p + n ≤ s.size) (hn : n ≤ 8) :
    Calls Tryd.prog 75 #[.string (s.extract p (p + n))] w fun e w' => e = .returned (.int .u64 ((lowN ((rest s p).take n) : Nat) : Int)) ∧ w = w' := by
  have q := number_any (s.extract p (p + n)) w (by rw [take_size h]; exact hn)
  rw [extract_take] at q
  exact q

theorem number_none (w : World) :
    Calls Tryd.prog 75 #[.string ⟨#[]⟩] w fun e w' => e = .returned (.int .u64 0) ∧ w = w' := number_any ⟨#[]⟩ w (by decide)

set_option maxHeartbeats 400000 in
theorem rfixed_short (ad : Nat → Addr) (b : Nat) (s : ByteArray) (p : Nat) (w : World) (h : Rd b s p w) (hE : Errs ad w) (hn : s.size - p < 8) :
    Calls Tryd.prog 52 #[.pointer (some ⟨b, 0, none⟩)] w fun y w' => y = .returned (.tuple #[.int .u64 0, .iface 131 (.pointer (some (ad 1)))]) ∧ Moved b s p w w' := by
  have hle := h.le
  have hv := Lib.hid (rtake_short ad b s p 8 w h hE (by omega))
  clear h hE
  go_enter Tryd.func52, Tryd.ntmps52
  go_wp2_with fail
  refine hv.out.mono ?_
  rintro x w' ⟨rfl, hm⟩
  go_wp2_with fail
  refine (number_none w').mono ?_
  rintro x w1 ⟨rfl, rfl⟩
  go_wp2
  go_ret2
  exact ⟨rfl, hm⟩

set_option maxHeartbeats 400000 in
theorem rfixed_ok (b : Nat) (s : ByteArray) (p : Nat) (w : World) (h : Rd b s p w) (hn : p + 8 ≤ s.size) :
    Calls Tryd.prog 52 #[.pointer (some ⟨b, 0, none⟩)] w fun y w' => y = .returned (.tuple #[.int .u64 ((lowN ((rest s p).take 8) : Nat) : Int), .nilIface]) ∧ Moved b s (p + 8) w w' := by
  have hv := Lib.hid (rtake_ok b s p 8 w h hn)
  have hq := Lib.hid (fun w => number_take s p 8 w hn (by omega))
  clear h
  generalize s.extract p (p + 8) = t at hv hq
  generalize lowN ((rest s p).take 8) = x at hq ⊢
  go_enter Tryd.func52, Tryd.ntmps52
  go_wp2_with fail
  refine hv.out.mono ?_
  rintro x w' ⟨rfl, hm⟩
  go_wp2_with fail
  refine (hq.out w').mono ?_
  rintro x w1 ⟨rfl, rfl⟩
  go_wp2
  go_ret2
  exact ⟨rfl, hm⟩

set_option maxHeartbeats 400000 in
theorem rbyte_short (ad : Nat → Addr) (b : Nat) (s : ByteArray) (p : Nat) (w : World) (h : Rd b s p w) (hE : Errs ad w) (hn : s.size - p < 1) :
    Calls Tryd.prog 54 #[.pointer (some ⟨b, 0, none⟩)] w fun y w' => y = .returned (.tuple #[.int .u8 0, .iface 131 (.pointer (some (ad 1)))]) ∧ Moved b s p w w' := by
  have hle := h.le
  have hv := Lib.hid (rtake_short ad b s p 1 w h hE (by omega))
  clear h hE
  go_enter Tryd.func54, Tryd.ntmps54
  go_wp2_with fail
  refine hv.out.mono ?_
  rintro x w' ⟨rfl, hm⟩
  go_wp2_with fail
  refine (number_none w').mono ?_
  rintro x w1 ⟨rfl, rfl⟩
  go_wp2
  go_ret2
  exact ⟨rfl, hm⟩

set_option maxHeartbeats 400000 in
theorem rbyte_ok (b : Nat) (s : ByteArray) (p : Nat) (w : World) (h : Rd b s p w) (hn : p + 1 ≤ s.size) :
    Calls Tryd.prog 54 #[.pointer (some ⟨b, 0, none⟩)] w fun y w' => y = .returned (.tuple #[.int .u8 ((lowN ((rest s p).take 1) : Nat) : Int), .nilIface]) ∧ Moved b s (p + 1) w w' := by
  have hv := Lib.hid (rtake_ok b s p 1 w h hn)
  have hq := Lib.hid (fun w => number_take s p 1 w hn (by omega))
  have hx : lowN ((rest s p).take 1) < 256 := by
    have h1 := lowN_lt ((rest s p).take 1)
    have h2 : 256 ^ ((rest s p).take 1).length ≤ 256 ^ 1 := Nat.pow_le_pow_right (by omega) (by rw [List.length_take]; omega)
    omega
  clear h
  generalize s.extract p (p + 1) = t at hv hq
  generalize lowN ((rest s p).take 1) = x at hq hx ⊢
  go_enter Tryd.func54, Tryd.ntmps54
  go_wp2_with fail
  refine hv.out.mono ?_
  rintro x w' ⟨rfl, hm⟩
  go_wp2_with fail
  refine (hq.out w').mono ?_
  rintro x w1 ⟨rfl, rfl⟩
  go_wp2
  go_ret2
  exact ⟨rfl, hm⟩

/-! ### Float -/

theorem run_float32frombits (P : Program) (x : Nat) (w : World) : (Extern.MathFloatBits.float32frombits #[.int .u32 (x : Int)]).run P w = .ok (.float .f32 x) w := by
  show (pure (Value.float .f32 (x : Int).toNat) : Sem Value).run P w = _
  simp

set_option maxHeartbeats 400000 in
theorem rfloat_short (ad : Nat → Addr) (b : Nat) (s : ByteArray) (p : Nat) (w : World) (h : Rd b s p w) (hE : Errs ad w) (hn : s.size - p < 4) :
    Calls Tryd.prog 55 #[.pointer (some ⟨b, 0, none⟩)] w fun y w' => y = .returned (.tuple #[.float .f32 0, .iface 131 (.pointer (some (ad 1)))]) ∧ Moved b s p w w' := by
  have hle := h.le
  have c1 := h.cell1
  have hv := Lib.hid (rtake_short ad b s p 4 w h hE (by omega))
  clear h hE
  go_enter Tryd.func55, Tryd.ntmps55
  go_wp2_with fail
  refine hv.out.mono ?_
  rintro x w' ⟨rfl, hm⟩
  go_wp2
  go_ret2
  exact ⟨rfl, hm⟩

theorem Moved.quiet {b : Nat} {s : ByteArray} {q : Nat} {w w1 w2 : World} (h : Moved b s q w w1) (k : Keeps (fun _ => False) w1 w2) : Moved b s q w w2 :=
  ⟨h.rd.kept k (fun h => h), h.keeps.trans k (fun _ _ h => h.elim)⟩
theorem Moved.back {b : Nat} {s : ByteArray} {p q : Nat} {w w1 : World} (h : Moved b s q w w1) (hp : p ≤ s.size) (n : Nat) : Moved b s p w ((w1.setCell ⟨b, 1, none⟩ (.int .i64 p)).drewN n) :=
  ⟨(h.rd.put hp).drewN n, (Keeps.setCell (S := fun k => k = b) h.keeps (p := ⟨b, 1, none⟩) (fun _ => rfl) _).drewN n⟩

set_option maxHeartbeats 800000 in
theorem rfloat_ok (b : Nat) (s : ByteArray) (p : Nat) (w : World) (h : Rd b s p w) (hn : p + 4 ≤ s.size) (hc : canon (lowN ((rest s p).take 4)) = lowN ((rest s p).take 4)) :
    Calls Tryd.prog 55 #[.pointer (some ⟨b, 0, none⟩)] w fun y w' => y = .returned (.tuple #[.float .f32 (lowN ((rest s p).take 4)), .nilIface]) ∧ Moved b s (p + 4) w w' := by
  have c1 := h.cell1
  have hv := Lib.hid (rtake_ok b s p 4 w h hn)
  have hq := Lib.hid (fun w => number_take s p 4 w hn (by omega))
  have hx : lowN ((rest s p).take 4) < 4294967296 := by
    have h1 := lowN_lt ((rest s p).take 4)
    have h2 : 256 ^ ((rest s p).take 4).length ≤ 256 ^ 4 := Nat.pow_le_pow_right (by omega) (by rw [List.length_take]; omega)
    omega
  clear h
  generalize s.extract p (p + 4) = t at hv hq
  generalize lowN ((rest s p).take 4) = x at hq hx hc ⊢
  have hb := Lib.hid (fun w => floatBits_any x w hx)
  rw [hc] at hb
  clear hc
  go_enter Tryd.func55, Tryd.ntmps55
  go_wp2_with fail
  refine hv.out.mono ?_
  rintro y w' ⟨rfl, hm⟩
  go_wp2_with fail
  refine (hq.out w').mono ?_
  rintro y w1 ⟨rfl, rfl⟩
  go_wp2_with fail
  rw [run_callFunc_extern Tryd.func40 (by kernel_rfl) (by kernel_rfl) (by kernel_rfl) (e := Extern.MathFloatBits.float32frombits) (by kernel_rfl)]
  rw [run_float32frombits]
  simp only [Result.andThen]
  rw [Oper.upon_value]
  go_wp2_with fail
  refine (hb.out w').mono ?_
  rintro y w2 ⟨rfl, hk⟩
  have fin := Lib.hid (hm.quiet hk); clear hm hk
  go_wp2
  go_ret2
  exact ⟨rfl, fin.out⟩

set_option maxHeartbeats 800000 in
theorem rfloat_form (ad : Nat → Addr) (b : Nat) (s : ByteArray) (p : Nat) (w : World) (h : Rd b s p w) (hE : Errs ad w) (hO : OffErrs ad (fun k => k = b)) (hn : p + 4 ≤ s.size) (hc : canon (lowN ((rest s p).take 4)) ≠ lowN ((rest s p).take 4)) :
    Calls Tryd.prog 55 #[.pointer (some ⟨b, 0, none⟩)] w fun y w' => y = .returned (.tuple #[.float .f32 0, .iface 131 (.pointer (some (ad 7)))]) ∧ Moved b s p w w' := by
  have c1 := h.cell1
  have hle := h.le
  have hv := Lib.hid (rtake_ok b s p 4 w h hn)
  have hq := Lib.hid (fun w => number_take s p 4 w hn (by omega))
  have hx : lowN ((rest s p).take 4) < 4294967296 := by
    have h1 := lowN_lt ((rest s p).take 4)
    have h2 : 256 ^ ((rest s p).take 4).length ≤ 256 ^ 4 := Nat.pow_le_pow_right (by omega) (by rw [List.length_take]; omega)
    omega
  clear h
  generalize s.extract p (p + 4) = t at hv hq
  generalize lowN ((rest s p).take 4) = x at hq hx hc ⊢
  have hb := Lib.hid (fun w => floatBits_any x w hx)
  have hcl := canon_lt hx
  generalize canon x = y at hb hc hcl
  have ht : ((y : Int) != (x : Int)) = true := by rw [bne_iff_ne]; omega
  clear hc
  go_enter Tryd.func55, Tryd.ntmps55
  go_wp2_with fail
  refine hv.out.mono ?_
  rintro y w' ⟨rfl, hm⟩
  go_wp2_with fail
  refine (hq.out w').mono ?_
  rintro y w1 ⟨rfl, rfl⟩
  go_wp2_with fail
  rw [run_callFunc_extern Tryd.func40 (by kernel_rfl) (by kernel_rfl) (by kernel_rfl) (e := Extern.MathFloatBits.float32frombits) (by kernel_rfl)]
  rw [run_float32frombits]
  simp only [Result.andThen]
  rw [Oper.upon_value]
  go_wp2_with fail
  refine (hb.out w').mono ?_
  rintro y w2 ⟨rfl, hk⟩
  have hm2 := hm.quiet hk
  have f1 := hm2.rd.frozen1
  have d1 := hm2.rd.cell1
  have hE2 : Errs ad w2 := hE.kept hm2.keeps hO
  have c7 : w2.cell? ⟨3, 0, none⟩ = some (.iface 131 (.pointer (some (ad 7)))) := hE2.cells 6 _ rfl
  have hne : ¬ (3 = b) := hO.vars 3 (by decide)
  have fin := Lib.hid (fun n => hm2.back hle n); clear hm hk hm2 hE hE2 hO
  go_wp2
  go_quiet (fail)
  go_wp2
  go_ret2
  exact ⟨rfl, fin.out _⟩
end Go.Proofs.YtilhkbohemghlaaDoor
