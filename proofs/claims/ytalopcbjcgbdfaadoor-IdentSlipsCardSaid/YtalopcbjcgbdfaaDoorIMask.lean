/-
  The contracts of package ident's Mask, and of the reference's Normal, Mask.
-/
import Derived.Test.YtalopcbjcgbdfaaDoorINorm
import Derived.Test.YtalopcbjcgbdfaaDoorShelf
import Derived.Deep.RegionHeld3
import Derived.IntWalk
namespace Go.Proofs.YtalopcbjcgbdfaaDoor
open Go.RowKit Go.WideShapes
set_option maxRecDepth 100000

theorem ret_s1 {a b : ByteArray} (h : a = b) : Ending.returned (.string a) = .returned (.string b) := by rw [h]
theorem repeat_one (x : UInt8) (c : Nat) : Lib.repeatL [x] c = List.replicate c x := by
  induction c with
  | zero => rfl
  | succ c ih => rw [Lib.repeatL, ih, List.replicate_succ]; rfl
def maskS (s : ByteArray) : ByteArray := ⟨(I.mask s.data.toList).toArray⟩
theorem maskS_short {s : ByteArray} (h : s.size ≤ 8) : maskS s = ⟨(List.replicate s.size 42).toArray⟩ := by
  unfold maskS I.mask; rw [if_pos (by rw [dlen]; exact h), dlen]
theorem maskS_long {s : ByteArray} (h : ¬ s.size ≤ 8) : maskS s = s.extract 0 4 ++ ⟨(List.replicate (s.size - 8) 42).toArray⟩ ++ s.extract (s.size - 4) s.size := by
  unfold maskS I.mask
  rw [if_neg (by rw [dlen]; exact h)]
  refine (str_list ?_).symm
  rw [dapp, dapp, dhead, dtail, dlen]

set_option maxHeartbeats 1600000 in
theorem iMask_any (s : ByteArray) (w : World) (hs : s.size ≤ 140737488351232) :
    Calls Tryd.prog 15 #[.string s] w fun e w' => e = .returned (.string (maskS s)) ∧ Qt w w' := by
  by_cases h8 : s.size ≤ 8
  · have HE := Lib.hid (maskS_short h8)
    have RP := Lib.hid (Tryd.strings_Repeat ⟨#[42]⟩ s.size w (by omega) (by show 1 * s.size ≤ _; omega))
    rw [show (⟨#[42]⟩ : ByteArray).data.toList = [42] from rfl, repeat_one] at RP
    have hf : decide ((s.size : Int) - 8 ≤ 0) = true := by simp; omega
    go_enter Tryd.func15, Tryd.ntmps15
    go_wp2_with fail
    refine RP.out.mono ?_
    rintro e w' ⟨rfl, k⟩
    have K := Lib.hid (Qt.of_below k); clear k
    go_wp2
    go_ret
    exact ⟨ret_s1 HE.out.symm, K.out⟩
  · have HE := Lib.hid (maskS_long h8)
    obtain ⟨c, hc⟩ : ∃ c, s.size - 8 = c := ⟨_, rfl⟩
    have RP := Lib.hid (fun W => Tryd.strings_Repeat ⟨#[42]⟩ c W (by omega) (by show 1 * c ≤ _; omega))
    rw [show (⟨#[42]⟩ : ByteArray).data.toList = [42] from rfl, repeat_one] at RP
    have ec : (s.size : Int) - 8 = (c : Int) := by omega
    have hf : decide (c = 0) = false := by rw [decide_eq_false_iff_not]; omega
    have h4 : 4 ≤ s.size := by omega
    obtain ⟨d, hd⟩ : ∃ d, s.size - 4 = d := ⟨_, rfl⟩
    have ed : (s.size : Int) - 4 = (d : Int) := by omega
    have hdl : d ≤ s.size := by omega
    have h4i : (4 : Int) ≤ (s.size : Int) := by omega
    have hdi : (d : Int) ≤ (s.size : Int) := by omega
    have hd0 : (0 : Int) ≤ (d : Int) := by omega
    have hwd : IntKind.i64.wrap (d : Int) = (d : Int) := IntWalk.i64_in _ (by omega)
    have hm1 : ¬ 9223372036854775807 < 4 + c := by omega
    have hm2 : ¬ 9223372036854775807 < 4 + c + (s.size - d) := by omega
    rw [hc, hd] at HE
    generalize hR : (⟨(List.replicate c 42).toArray⟩ : ByteArray) = R at HE RP
    have hRs : R.size = c := by rw [← hR]; show (List.replicate c (42 : UInt8)).toArray.size = c; simp
    clear hR h8 hc hd
    go_enter Tryd.func15, Tryd.ntmps15
    go_wp2
    go_region_held3 (fun _ => True) (trivial) ((go_at_call 34; refine (RP.out _).mono ?_; rintro e w' ⟨rfl, k⟩))
    go_wp2
    go_ret
    exact ⟨ret_s1 HE.out.symm, Qt.trans (Keeps.drew (Qt.refl w)) (Qt.of_below k)⟩
end Go.Proofs.YtalopcbjcgbdfaaDoor
