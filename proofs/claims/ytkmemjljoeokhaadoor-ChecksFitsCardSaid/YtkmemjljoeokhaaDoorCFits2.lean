/-
  The contract of remitlaw03.ChecksFits: it answers true.
-/
import Derived.Test.YtkmemjljoeokhaaDoorCRests
namespace Go.Proofs.YtkmemjljoeokhaaDoor
open Go.RowKit Go.WideShapes
set_option maxRecDepth 100000

theorem fits_no_rest {s : List UInt8} (h : C.rest s = none) : C.fits s = false := by
  cases hf : C.fits s with
  | false => rfl
  | true => rw [C.fits_rest hf] at h; cases h

set_option maxHeartbeats 3200000 in
theorem fitsLaw_any (ad : Nat → Addr) (s : ByteArray) (w : World) (hz : s.size ≤ 140737488351232) (hE : Errs ad w) (hT : Tab w) :
    Calls Tryd.prog 6 #[.string s] w fun e w' => e = .returned (.bool true) ∧ Qt w w' := by
  have hs : s.size ≤ maxLen := by unfold maxLen; omega
  have hE' := fun (W : World) (k : Qt w W) => hE.kept k (OffErrs.none ad)
  have HL := Lib.hid (lives_any (ad 7) w hE.form hT)
  have R1 := Lib.hid (fun W (k : Qt w W) => rest_any (ad 7) s W hs (hE' W k).form)
  have D1 := Lib.hid (fun W (k : Qt w W) => digits_any (ad 7) s W hs (hE' W k).form)
  have F1 := Lib.hid (fun W (k : Qt w W) => fits_any (ad 7) s W hs (hE' W k).form)
  cases hr : C.rest s.data.toList with
  | none =>
    have NU := Lib.hid (fun W (k : Qt w W) => num_any ad 7 W (hE' W k) (by decide))
    rw [restV_none hr] at R1
    rw [digV_none hr] at D1
    rw [fits_no_rest hr] at F1
    rw [errV_form] at NU
    clear hr hE hE' hT hs hz
    go_enter Tryd.func6, Tryd.ntmps6
    go_wp2_with fail
    refine HL.out.mono ?_
    rintro e w1 ⟨rfl, k1⟩
    have K1 := Lib.hid k1; clear k1
    go_wp2_with fail
    refine (R1.out _ K1.out).mono ?_
    rintro e w2 ⟨rfl, k2⟩
    have K2 := Lib.hid (Qt.trans K1.out k2); clear k2
    go_wp2_with fail
    refine (F1.out _ K2.out).mono ?_
    rintro e w3 ⟨rfl, k3⟩
    have K3 := Lib.hid (Qt.trans K2.out k3); clear k3
    go_wp2_with fail
    refine (D1.out _ K3.out).mono ?_
    rintro e w4 ⟨rfl, k4⟩
    have K4 := Lib.hid (Qt.trans K3.out k4); clear k4
    go_wp2
    go_quiet (fail)
    go_wp2_with fail
    refine (NU.out _ (K4.out.drewN _)).mono ?_
    rintro e w5 ⟨rfl, k5⟩
    have K5 := Lib.hid (Qt.trans (K4.out.drewN _) k5); clear k5
    go_wp2
    go_ret
    exact ⟨by simp, K5.out⟩
  | some q =>
    have hq := rest_lt hr
    have hd := digits_of hr
    have h1 := C.digits_rest hd
    have hf2 := C.fits_digits hd
    have hsd : (s ++ ⟨(C.two (98 - (q * 100) % 97)).toArray⟩ : ByteArray).size ≤ maxLen := by
      rw [ByteArray.size_append]
      have : (⟨(C.two (98 - (q * 100) % 97)).toArray⟩ : ByteArray).size = 2 := rfl
      unfold maxLen; omega
    have R2 := Lib.hid (fun W (k : Qt w W) => rest_any (ad 7) (s ++ ⟨(C.two (98 - (q * 100) % 97)).toArray⟩) W hsd (hE' W k).form)
    have F2 := Lib.hid (fun W (k : Qt w W) => fits_any (ad 7) (s ++ ⟨(C.two (98 - (q * 100) % 97)).toArray⟩) W hsd (hE' W k).form)
    have e0 : (s ++ ⟨(C.two (98 - (q * 100) % 97)).toArray⟩ : ByteArray).data.toList = s.data.toList ++ C.two (98 - (q * 100) % 97) := by simp
    rw [e0] at R2 F2
    rw [restV_some h1.1] at R2
    rw [hf2] at F2
    rw [restV_some hr] at R1
    rw [digV_of hd] at D1
    have hfr : C.fits s.data.toList = true → q = 1 := fun h => by
      have := C.fits_rest h
      rw [hr] at this
      exact Option.some.inj this
    have hD : (⟨(C.two (98 - (q * 100) % 97)).toArray⟩ : ByteArray).size ≤ 2 := Nat.le_refl 2
    generalize (⟨(C.two (98 - (q * 100) % 97)).toArray⟩ : ByteArray) = D at *
    have HF := Lib.hid hfr
    clear hr hd h1 hf2 e0 hsd hE hE' hT hs hfr
    cases hfb : C.fits s.data.toList with
    | true =>
      obtain rfl : q = 1 := HF.out hfb
      rw [hfb] at F1
      clear hfb HF
      go_enter Tryd.func6, Tryd.ntmps6
      go_wp2_with fail
      refine HL.out.mono ?_
      rintro e w1 ⟨rfl, k1⟩
      have K1 := Lib.hid k1; clear k1
      go_wp2_with fail
      refine (R1.out _ K1.out).mono ?_
      rintro e w2 ⟨rfl, k2⟩
      have K2 := Lib.hid (Qt.trans K1.out k2); clear k2
      go_wp2_with fail
      refine (F1.out _ K2.out).mono ?_
      rintro e w3 ⟨rfl, k3⟩
      have K3 := Lib.hid (Qt.trans K2.out k3); clear k3
      go_wp2_with fail
      refine (D1.out _ K3.out).mono ?_
      rintro e w4 ⟨rfl, k4⟩
      have K4 := Lib.hid (Qt.trans K3.out k4); clear k4
      go_wp2
      go_quiet (fail)
      go_wp2_with fail
      refine (R2.out _ (K4.out.drewN _)).mono ?_
      rintro e w5 ⟨rfl, k5⟩
      have K5 := Lib.hid (Qt.trans (K4.out.drewN _) k5); clear k5
      go_wp2_with fail
      refine (F2.out _ K5.out).mono ?_
      rintro e w6 ⟨rfl, k6⟩
      have K6 := Lib.hid (Qt.trans K5.out k6); clear k6
      go_wp2
      go_ret
      exact ⟨by simp, K6.out⟩
    | false =>
      rw [hfb] at F1
      clear hfb HF
      go_enter Tryd.func6, Tryd.ntmps6
      go_wp2_with fail
      refine HL.out.mono ?_
      rintro e w1 ⟨rfl, k1⟩
      have K1 := Lib.hid k1; clear k1
      go_wp2_with fail
      refine (R1.out _ K1.out).mono ?_
      rintro e w2 ⟨rfl, k2⟩
      have K2 := Lib.hid (Qt.trans K1.out k2); clear k2
      go_wp2_with fail
      refine (F1.out _ K2.out).mono ?_
      rintro e w3 ⟨rfl, k3⟩
      have K3 := Lib.hid (Qt.trans K2.out k3); clear k3
      go_wp2_with fail
      refine (D1.out _ K3.out).mono ?_
      rintro e w4 ⟨rfl, k4⟩
      have K4 := Lib.hid (Qt.trans K3.out k4); clear k4
      go_wp2
      go_quiet (fail)
      go_wp2_with fail
      refine (R2.out _ (K4.out.drewN _)).mono ?_
      rintro e w5 ⟨rfl, k5⟩
      have K5 := Lib.hid (Qt.trans (K4.out.drewN _) k5); clear k5
      go_wp2_with fail
      refine (F2.out _ K5.out).mono ?_
      rintro e w6 ⟨rfl, k6⟩
      have K6 := Lib.hid (Qt.trans K5.out k6); clear k6
      go_wp2
      go_ret
      exact ⟨by simp, K6.out⟩
end Go.Proofs.YtkmemjljoeokhaaDoor
