/-
  The contract of remitlaw03.lives.
-/
import Derived.Test.YtkmemjljoeokhaaDoorCFits
import Derived.Test.YtkmemjljoeokhaaDoorCLuhn
namespace Go.Proofs.YtkmemjljoeokhaaDoor
open Go.RowKit Go.WideShapes
set_option maxRecDepth 100000

theorem lives_digits : C.digits [49] = some [57, 53] := by decide
theorem lives_luhn : C.luhnB [55, 57, 57, 50, 55, 51, 57, 56, 55, 49] = some 3 := by decide
theorem lives_rest : C.rest [49, 65] = some 13 := by decide
theorem lives_sum : C.sum [49, 50, 51, 52, 53, 54, 55, 56, 57] = 3808858755 := by decide +kernel
theorem lives_fits : C.fits [49, 57, 53] = true := by decide

set_option maxHeartbeats 1600000 in
theorem lives_any (ef : Addr) (w : World) (hf : FormAt ef w) (hT : Tab w) : Calls Tryd.prog 9 #[] w fun e w' => e = .returned (.bool true) ∧ Qt w w' := by
  have HF := Lib.hid (fun (W : World) (k : Qt w W) => hf.qt k)
  have HT := Lib.hid (fun (W : World) (k : Qt w W) => hT.qt k)
  clear hf hT
  go_enter Tryd.func9, Tryd.ntmps9
  go_wp2_with fail
  refine (digits_any ef ⟨#[49]⟩ _ (by decide) (HF.out _ (Qt.refl w))).mono ?_
  rintro e w1 ⟨rfl, k1⟩
  have K1 := Lib.hid k1; clear k1
  rw [show digV ef (⟨#[49]⟩ : ByteArray).data.toList = .tuple #[.string ⟨#[57, 53]⟩, .nilIface] from digV_of lives_digits]
  go_wp2_with fail
  refine (luhn_any ef ⟨#[55, 57, 57, 50, 55, 51, 57, 56, 55, 49]⟩ _ (by decide) (HF.out _ K1.out)).mono ?_
  rintro e w2 ⟨rfl, k2⟩
  have K2 := Lib.hid (Qt.trans K1.out k2); clear k2
  rw [show luhnV ef (⟨#[55, 57, 57, 50, 55, 51, 57, 56, 55, 49]⟩ : ByteArray).data.toList = .tuple #[.int .i64 (3 : Nat), .nilIface] from luhnV_some lives_luhn]
  go_wp2_with fail
  refine (rest_any ef ⟨#[49, 65]⟩ _ (by decide) (HF.out _ K2.out)).mono ?_
  rintro e w3 ⟨rfl, k3⟩
  have K3 := Lib.hid (Qt.trans K2.out k3); clear k3
  rw [show restV ef (⟨#[49, 65]⟩ : ByteArray).data.toList = .tuple #[.int .i64 (13 : Nat), .nilIface] from restV_some lives_rest]
  go_wp2_with fail
  refine (sum_any ⟨#[49, 50, 51, 52, 53, 54, 55, 56, 57]⟩ _ (by decide) (HT.out _ K3.out)).mono ?_
  rintro e w4 ⟨rfl, rfl⟩
  rw [show C.sum (⟨#[49, 50, 51, 52, 53, 54, 55, 56, 57]⟩ : ByteArray).data.toList = 3808858755 from lives_sum]
  go_wp2_with fail
  refine (fits_any ef ⟨#[49, 57, 53]⟩ _ (by decide) (HF.out _ K3.out)).mono ?_
  rintro e w5 ⟨rfl, k5⟩
  have K5 := Lib.hid (Qt.trans K3.out k5); clear k5
  rw [show C.fits (⟨#[49, 57, 53]⟩ : ByteArray).data.toList = true from lives_fits]
  go_wp2
  go_ret
  exact ⟨rfl, K5.out⟩
end Go.Proofs.YtkmemjljoeokhaaDoor
