/-
  The contract of package ident's Check.
-/
import Derived.Test.YtalopcbjcgbdfaaDoorIAcc
import Derived.StillTailTactics
namespace Go.Proofs.YtalopcbjcgbdfaaDoor
open Go.RowKit Go.WideShapes
set_option maxRecDepth 100000

theorem dapp (s t : ByteArray) : (s ++ t).data.toList = s.data.toList ++ t.data.toList := by simp
theorem ret_v {a b : Value} (h : a = b) : Ending.returned a = .returned b := by rw [h]
/-- The error of a number among none, form and digits. -/
def accE (ef ed : Addr) (n : Nat) : Value := if n = 0 then .nilIface else if n = 8 then digE ed else formV ef
theorem rot_s (s : ByteArray) : (s.extract 4 s.size ++ s.extract 0 4).data.toList = s.data.toList.drop 4 ++ s.data.toList.take 4 := by
  rw [ByteArray.data_append, Array.toList_append, dtail, dhead]
theorem chk_form {s : ByteArray} (h : formS s = false) : chkS s = 7 := by unfold formS at h; unfold chkS I.chk; rw [if_neg (by rw [h]; decide)]
theorem chk_fit {s : ByteArray} (h : formS s = true) (hf : C.fits (s.extract 4 s.size ++ s.extract 0 4).data.toList = true) : chkS s = 0 := by
  unfold formS at h
  rw [rot_s] at hf
  unfold chkS I.chk; rw [if_pos h, if_pos hf]
theorem chk_unfit {s : ByteArray} (h : formS s = true) (hf : C.fits (s.extract 4 s.size ++ s.extract 0 4).data.toList = false) : chkS s = 8 := by
  unfold formS at h
  rw [rot_s] at hf
  unfold chkS I.chk; rw [if_pos h, if_neg (by rw [hf]; decide)]
theorem form_size {s : ByteArray} (h : formS s = true) : 4 < s.size ∧ s.size ≤ 34 := I.form_len h
set_option maxHeartbeats 1600000 in
theorem iCheck_any (ef ed : Addr) (s : ByteArray) (w : World) (hs : s.size ≤ maxLen) (hf : FormAt ef w) (hd : DigAt ed w) :
    Calls Tryd.prog 13 #[.string s] w fun e w' => e = .returned (accE ef ed (chkS s)) ∧ Qt w w' := by
  have H1 := Lib.hid (isAccount_any s w hs)
  have hf' : w.cell? ⟨1, 0, none⟩ = some (formV ef) := hf
  have hd' : ∀ w', Qt w w' → w'.cell? ⟨3, 0, none⟩ = some (digE ed) := fun w' k => hd.qt k
  cases hc : formS s with
  | false =>
    have HE := Lib.hid (show accE ef ed (chkS s) = formV ef by rw [chk_form hc]; rfl)
    rw [hc] at H1
    clear hc hd hd' hf
    go_enter Tryd.func13, Tryd.ntmps13
    go_wp2_with fail
    refine H1.out.mono ?_
    rintro e w' ⟨rfl, rfl⟩
    go_wp2
    go_ret
    exact ⟨ret_v HE.out.symm, Qt.refl _⟩
  | true =>
    obtain ⟨l4, l34⟩ := form_size hc
    have H2 := Lib.hid (fun W (k : Qt w W) => fits_any ef (s.extract 4 s.size ++ s.extract 0 4) W (by rw [ByteArray.size_append, ByteArray.size_extract, ByteArray.size_extract]; unfold maxLen; omega) (hf.qt k))
    have hD := Lib.hid hd'
    have h4 : 4 ≤ s.size := by omega
    have h4i : (4 : Int) ≤ (s.size : Int) := by omega
    have hmx : ¬ 9223372036854775807 < s.size := by omega
    rw [hc] at H1
    cases hg : C.fits (s.extract 4 s.size ++ s.extract 0 4).data.toList with
    | false =>
      have HE := Lib.hid (show accE ef ed (chkS s) = digE ed by rw [chk_unfit hc hg]; rfl)
      rw [hg] at H2
      clear hc hd hf hg hs hf' hd' l4 l34
      go_enter Tryd.func13, Tryd.ntmps13
      go_wp2_with fail
      refine H1.out.mono ?_
      rintro e w' ⟨rfl, rfl⟩
      go_wp2
      go_still_tail 5, (by kernel_rfl)
      change wpList _ _ _ _ _ w.drew
      have KD := Lib.hid (show Qt w w.drew from Keeps.drew (Qt.refl w))
      generalize w.drew = w2 at *
      go_wp2_with fail
      refine (H2.out _ KD.out).mono ?_
      rintro e w' ⟨rfl, k⟩
      have K := Lib.hid (Qt.trans KD.out k)
      have hd2 := hD.out _ K.out
      clear k
      go_wp2
      go_ret
      exact ⟨ret_v HE.out.symm, K.out⟩
    | true =>
      have HE := Lib.hid (show accE ef ed (chkS s) = .nilIface by rw [chk_fit hc hg]; rfl)
      rw [hg] at H2
      clear hc hd hf hg hs hd' hf' l4 l34
      go_enter Tryd.func13, Tryd.ntmps13
      go_wp2_with fail
      refine H1.out.mono ?_
      rintro e w' ⟨rfl, rfl⟩
      go_wp2
      go_still_tail 5, (by kernel_rfl)
      change wpList _ _ _ _ _ w.drew
      have KD := Lib.hid (show Qt w w.drew from Keeps.drew (Qt.refl w))
      generalize w.drew = w2 at *
      go_wp2_with fail
      refine (H2.out _ KD.out).mono ?_
      rintro e w' ⟨rfl, k⟩
      have K := Lib.hid (Qt.trans KD.out k)
      clear k
      go_wp2
      go_ret
      exact ⟨ret_v HE.out.symm, K.out⟩
end Go.Proofs.YtalopcbjcgbdfaaDoor
