/-
  The contract of remitlaw05.lives; what Id and Make answer at fixed texts.
-/
import Derived.Test.YtalopcbjcgbdfaaDoorIMake
import Derived.Test.YtalopcbjcgbdfaaDoorNum
namespace Go.Proofs.YtalopcbjcgbdfaaDoor
open Go.RowKit Go.WideShapes
set_option maxRecDepth 100000

theorem live_make : I.make [71, 66] [87, 69, 83, 84, 49, 50, 51, 52, 53, 54, 57, 56, 55, 54, 53, 52, 51, 50] = some [71, 66, 56, 50, 87, 69, 83, 84, 49, 50, 51, 52, 53, 54, 57, 56, 55, 54, 53, 52, 51, 50] := by decide +kernel
theorem id_one (ei : Addr) (w : World) (hf : IdAt ei w) : Calls Tryd.prog 17 #[.string ⟨#[97]⟩] w fun e w' => e = .returned .nilIface ∧ w' = w :=
  (iId2_any ei ⟨#[97]⟩ w (by decide) hf).mono fun _ _ ⟨h1, h2⟩ => ⟨h1.trans (by rw [idV_yes (by decide)]), h2.symm⟩
theorem id_none (ei : Addr) (w : World) (hf : IdAt ei w) : Calls Tryd.prog 17 #[.string ⟨#[]⟩] w fun e w' => e = .returned (.iface 107 (.pointer (some ei))) ∧ w' = w :=
  (iId2_any ei ⟨#[]⟩ w (by decide) hf).mono fun _ _ ⟨h1, h2⟩ => ⟨h1.trans (by rw [idV_no (by decide)]), h2.symm⟩
/-- An error against itself. -/
theorem eq_same (ei : Addr) (w : World) : (binOp .eql 24 (.iface 107 (.pointer (some ei))) (.iface 107 (.pointer (some ei)))).run Tryd.prog w = .ok (.bool true) w := by
  obtain ⟨i, hi, hcmp⟩ := Option.map_eq_some_iff.1 compErr
  obtain ⟨j, hj, _⟩ := Option.map_eq_some_iff.1 sizeErr
  exact run_eql_iface_ptr_same (P := Tryd.prog) w ei Tryd.underlying24 Tryd.underlying107 hi hcmp hj
set_option maxHeartbeats 1600000 in
theorem iLives_any (ef ei : Addr) (w : World) (hf : FormAt ef w) (hi : IdAt ei w) : Calls Tryd.prog 9 #[] w fun e w' => e = .returned (.bool true) ∧ Qt w w' := by
  have HM := iMake_any ef ⟨#[71, 66]⟩ ⟨#[87, 69, 83, 84, 49, 50, 51, 52, 53, 54, 57, 56, 55, 54, 53, 52, 51, 50]⟩ w (by decide) (by decide) hf
  rw [makeV_some (ef := ef) (c := (⟨#[71, 66]⟩ : ByteArray).data.toList) (b := (⟨#[87, 69, 83, 84, 49, 50, 51, 52, 53, 54, 57, 56, 55, 54, 53, 52, 51, 50]⟩ : ByteArray).data.toList) live_make] at HM
  have HI := Lib.hid (fun W (k : Qt w W) => hi.qt k)
  have HQ := eq_same ei
  clear hf hi
  go_enter Tryd.func9, Tryd.ntmps9
  go_wp2_with fail
  refine HM.mono ?_
  rintro e w1 ⟨rfl, k1⟩
  have K1 := Lib.hid k1
  have hi1 : w1.cell? ⟨2, 0, none⟩ = some (.iface 107 (.pointer (some ei))) := HI.out _ k1
  have I1 := Lib.hid (fun n => HI.out _ (Keeps.drewN k1 n))
  clear k1 HM
  go_wp2
  go_quiet ((go_at_call 17; first | (with_reducible exact Calls.quiet_of_same (id_one ei _ (I1.out _))) | (with_reducible exact Calls.quiet_of_same (id_none ei _ (I1.out _)))))
  go_wp2
  go_ret
  exact ⟨rfl, Keeps.drewN K1.out _⟩
end Go.Proofs.YtalopcbjcgbdfaaDoor
