/-
  The contracts of checks.Digits, and of the reference's.
-/
import Derived.Test.YtalopcbjcgbdfaaDoorCRefRest
import Derived.Test.YtalopcbjcgbdfaaDoorConv
namespace Go.Proofs.YtalopcbjcgbdfaaDoor
open Go.RowKit Go.WideShapes
set_option maxRecDepth 100000

def digV (ef : Addr) (s : List UInt8) : Value :=
  match C.digits s with
  | none => .tuple #[.string ⟨#[]⟩, formV ef]
  | some d => .tuple #[.string ⟨d.toArray⟩, .nilIface]
theorem digV_none {ef : Addr} {s : List UInt8} (h : C.rest s = none) : digV ef s = .tuple #[.string ⟨#[]⟩, formV ef] := by
  unfold digV C.digits; rw [h]
theorem digits_of {s : List UInt8} {q : Nat} (h : C.rest s = some q) : C.digits s = some (C.two (98 - (q * 100) % 97)) := by
  cases hd : C.digits s with
  | none => rw [C.digits_none hd] at h; cases h
  | some d =>
    obtain ⟨q', hq, hne, _, rfl⟩ := C.digits_some hd
    rw [C.rest_ne hne, hq] at h
    injection h with h
    rw [h]
theorem digV_some {ef : Addr} {s : List UInt8} {q : Nat} (h : C.rest s = some q) : digV ef s = .tuple #[.string ⟨(C.two (98 - (q * 100) % 97)).toArray⟩, .nilIface] := by
  unfold digV; rw [digits_of h]
theorem rest_lt {s : List UInt8} {q : Nat} (h : C.rest s = some q) : q < 97 := by
  obtain ⟨_, _, h1⟩ := C.rest_good h
  exact C.restG_lt (by decide) h1

set_option maxHeartbeats 800000 in
theorem digits_any (ef : Addr) (s : ByteArray) (w : World) (hs : s.size ≤ maxLen) (hf : FormAt ef w) :
    Calls Tryd.prog 41 #[.string s] w fun e w' => e = .returned (digV ef s.data.toList) ∧ Qt w w' := by
  cases hr : C.rest s.data.toList with
  | none =>
    have HV := Lib.hid (restV_none (ef := ef) hr)
    have HD := Lib.hid (digV_none (ef := ef) hr)
    clear hr
    go_enter Tryd.func41, Tryd.ntmps41
    go_wp2_with fail
    refine (rest_any ef s w hs hf).mono ?_
    rintro e w' ⟨rfl, k⟩
    have K := Lib.hid k
    rw [HV.out]
    clear k
    go_wp2
    go_ret2
    exact ⟨by rw [HD.out]; rfl, K.out⟩
  | some q =>
    have HV := Lib.hid (restV_some (ef := ef) hr)
    have HD := Lib.hid (digV_some (ef := ef) hr)
    have hq := rest_lt hr
    clear hr
    go_enter Tryd.func41, Tryd.ntmps41
    go_wp2_with fail
    refine (rest_any ef s w hs hf).mono ?_
    rintro e w1 ⟨rfl, k⟩
    have K := Lib.hid k
    have KA := Lib.hid (fun o => k.alloc (w := w1) o)
    have hcv := conv2 w1
    rw [HV.out]
    clear k
    go_wp2
    go_ret2
    exact ⟨by rw [HD.out]; rfl, KA.out _⟩

/-! ### The reference -/
def digN (s : List UInt8) : Value :=
  match C.digits s with
  | none => .tuple #[.string ⟨#[]⟩, .int .i64 7]
  | some d => .tuple #[.string ⟨d.toArray⟩, .int .i64 0]
theorem digN_none {s : List UInt8} (h : C.rest s = none) : digN s = .tuple #[.string ⟨#[]⟩, .int .i64 7] := by
  unfold digN C.digits; rw [h]
theorem digN_some {s : List UInt8} {q : Nat} (h : C.rest s = some q) : digN s = .tuple #[.string ⟨(C.two (98 - (q * 100) % 97)).toArray⟩, .int .i64 0] := by
  unfold digN; rw [digits_of h]
theorem rest_noughts {s : List UInt8} {q : Nat} (h : C.rest s = some q) : C.rest (s ++ [48, 48]) = some (q * 100 % 97) := by
  obtain ⟨hs, hg, hq⟩ := C.rest_good h
  have h0 := C.restG_two hq (n := 0) (by decide)
  rw [C.two_noughts] at h0
  rw [C.rest_ne (by simp), h0, Nat.add_zero]

set_option maxHeartbeats 800000 in
theorem refDigits_any (s : ByteArray) (w : World) (hs : s.size + 2 ≤ maxLen) :
    Calls Tryd.prog 33 #[.string s] w fun e w' => e = .returned (digN s.data.toList) ∧ Qt w w' := by
  unfold maxLen at hs
  cases hr : C.rest s.data.toList with
  | none =>
    have HV := Lib.hid (restN_none hr)
    have HD := Lib.hid (digN_none hr)
    clear hr
    go_enter Tryd.func33, Tryd.ntmps33
    go_wp2_with fail
    refine (refRest_any s w (by unfold maxLen; omega)).mono ?_
    rintro e w' ⟨rfl, rfl⟩
    rw [HV.out]
    go_wp2
    go_ret2
    exact ⟨by rw [HD.out]; rfl, Qt.refl w⟩
  | some q =>
    have HV := Lib.hid (restN_some hr)
    have HV2 := Lib.hid (restN_some (rest_noughts hr))
    have HD := Lib.hid (digN_some hr)
    have hq := rest_lt hr
    have hcv := conv2 w
    have KA := Lib.hid (fun o => (Qt.refl w).alloc o)
    clear hr
    go_enter Tryd.func33, Tryd.ntmps33
    go_wp2_with fail
    refine (refRest_any s w (by unfold maxLen; omega)).mono ?_
    rintro e w1 ⟨rfl, rfl⟩
    rw [HV.out]
    go_wp2_with fail
    refine (refRest_any _ w (by unfold maxLen; rw [ByteArray.size_append]; exact hs)).mono ?_
    rintro e w1 ⟨rfl, rfl⟩
    rw [show (s ++ (⟨#[48, 48]⟩ : ByteArray)).data.toList = s.data.toList ++ [48, 48] by simp, HV2.out]
    go_wp2
    go_ret2
    exact ⟨by rw [HD.out]; rfl, KA.out _⟩
end Go.Proofs.YtalopcbjcgbdfaaDoor
