/-
  The contracts of checks.Fits, and of the reference's.
-/
import Derived.Test.YtalopcbjcgbdfaaDoorCDig
import Derived.Lib.IndexBytes
import Derived.WalkSpells
namespace Go.Proofs.YtalopcbjcgbdfaaDoor
open Go.RowKit Go.WideShapes
set_option maxRecDepth 100000

theorem ret_b {a b : Bool} (h : a = b) : Ending.returned (.bool a) = .returned (.bool b) := by rw [h]
theorem digV_of {ef : Addr} {s d : List UInt8} (h : C.digits s = some d) : digV ef s = .tuple #[.string ⟨d.toArray⟩, .nilIface] := by unfold digV; rw [h]
theorem digV_no {ef : Addr} {s : List UInt8} (h : C.digits s = none) : digV ef s = .tuple #[.string ⟨#[]⟩, formV ef] := by unfold digV; rw [h]
theorem digN_of {s d : List UInt8} (h : C.digits s = some d) : digN s = .tuple #[.string ⟨d.toArray⟩, .int .i64 0] := by unfold digN; rw [h]
theorem digN_no {s : List UInt8} (h : C.digits s = none) : digN s = .tuple #[.string ⟨#[]⟩, .int .i64 7] := by unfold digN; rw [h]

theorem fits_short {s : ByteArray} (h : s.size < 3) : C.fits s.data.toList = false := by
  unfold C.fits
  have : s.data.toList.length = s.size := rfl
  rw [decide_eq_false (by omega)]; rfl
theorem fits_none {s : ByteArray} (h : C.digits (s.data.toList.take (s.size - 2)) = none) : C.fits s.data.toList = false := by
  unfold C.fits
  have e : s.data.toList.length = s.size := rfl
  rw [e, h]
  simp
theorem fits_some {s : ByteArray} {d : List UInt8} (h3 : 3 ≤ s.size) (h : C.digits (s.data.toList.take (s.size - 2)) = some d) : C.fits s.data.toList = (s.data.toList.drop (s.size - 2) == d) := by
  unfold C.fits
  have e : s.data.toList.length = s.size := rfl
  rw [e, h, decide_eq_true h3, Bool.true_and, Bool.eq_iff_iff]
  simp only [beq_iff_eq, Option.some.injEq]
  exact eq_comm

set_option maxHeartbeats 1600000 in
theorem fits_any (ef : Addr) (s : ByteArray) (w : World) (hs : s.size ≤ maxLen) (hf : FormAt ef w) :
    Calls Tryd.prog 31 #[.string s] w fun e w' => e = .returned (.bool (C.fits s.data.toList)) ∧ Qt w w' := by
  have hs0 := hs
  unfold maxLen at hs
  by_cases h3 : s.size < 3
  · have HF := Lib.hid (fits_short h3)
    go_enter Tryd.func31, Tryd.ntmps31
    go_wp2
    go_ret
    exact ⟨by rw [HF.out]; rfl, Qt.refl w⟩
  · have h3' : 3 ≤ s.size := by omega
    have hz : (s.extract 0 (s.size - 2)).size ≤ maxLen := by rw [ByteArray.size_extract]; unfold maxLen; omega
    have hd : (s.extract 0 (s.size - 2)).data.toList = s.data.toList.take (s.size - 2) := by rw [Lib.extract_data, List.drop_zero, Nat.sub_zero]
    have HC := Lib.hid (digits_any ef (s.extract 0 (s.size - 2)) w hz hf)
    rw [hd] at HC
    cases hg : C.digits (s.data.toList.take (s.size - 2)) with
    | none =>
      have HF := Lib.hid (fits_none hg)
      rw [digV_no hg] at HC
      clear hg hd hz
      go_enter Tryd.func31, Tryd.ntmps31
      go_wp2_with fail
      refine HC.out.mono ?_
      rintro e w' ⟨rfl, k⟩
      have K := Lib.hid k
      clear k
      go_wp2
      go_ret
      exact ⟨by rw [HF.out]; rfl, K.out⟩
    | some d =>
      have HF := Lib.hid (fits_some h3' hg)
      rw [digV_of hg] at HC
      clear hg hd hz
      go_enter Tryd.func31, Tryd.ntmps31
      go_wp2_with fail
      refine HC.out.mono ?_
      rintro e w' ⟨rfl, k⟩
      have K := Lib.hid k
      clear k
      go_wp2
      go_ret
      exact ⟨ret_b (by rw [HF.out, Lib.toList_data, Lib.extract_to_end]), K.out⟩
end Go.Proofs.YtalopcbjcgbdfaaDoor
