/-
  The contract of remitlaw06.DiskFrom: it answers true.
-/
import Derived.Test.YtbifhnlinnokaaaDoorLPlays
namespace Go.Proofs.YtbifhnlinnokaaaDoor
open Go.RowKit Go.WideShapes
set_option maxRecDepth 100000

theorem PlayI.from' (l : List UInt8) (n : Nat) : PlayI 0 (DS.fromD l n) := ⟨Nat.le_refl _, Nat.le_refl _, Nat.le_refl _, Nat.le_refl _⟩

set_option maxHeartbeats 3200000 in
theorem fromLaw_any (ad : Nat → Addr) (s : ByteArray) (v : Value) (g off : Nat) (os : List OpD) (w : World) (hz : s.size ≤ 1048576) (hE : Errs ad w) (hs : Script w v g off os) :
    Calls Tryd.prog 4 #[.string s, v] w fun e w' => e = .returned (.bool true) ∧ Qt w w' := by
  have HE := Lib.hid hE
  have HSC := Lib.hid hs
  clear hs
  go_enter Tryd.func4, Tryd.ntmps4
  go_wp2_with fail
  refine (lives_any ad w hE).mono ?_
  rintro e w1 ⟨rfl, q1⟩
  have K1 := Lib.hid q1
  clear q1 hE
  go_wp2_with fail
  refine (from_any ad s w1 (HE.out.kept K1.out (OffErrs.none ad)) (by omega)).mono ?_
  rintro e w2 (⟨hf, rfl, q2⟩ | ⟨hf, hno, rfl, q2⟩ | ⟨hf, n1, n2, b, rfl, hD, q2⟩)
  · have K2 := Lib.hid (Qt.trans K1.out q2)
    clear q2
    go_wp2_with fail
    refine (ref_from s w2 (by omega)).mono ?_
    rintro e w3 (⟨_, rfl, q3⟩ | ⟨hf2, _, rfl, q3⟩ | ⟨hf2, _, _, c, rfl, hR, q3⟩)
    · have K3 := Lib.hid (Qt.trans K2.out q3)
      clear q3
      go_wp2_with fail
      refine (num_any ad 7 w3 (HE.out.kept K3.out (OffErrs.none ad)) (by omega)).mono ?_
      rintro e w4 ⟨rfl, q4⟩
      have K4 := Lib.hid (Qt.trans K3.out q4)
      clear q4
      go_wp2
      go_ret
      exact ⟨rfl, K4.out⟩
    · exact absurd hf2 hf
    · exact absurd hf2 hf
  · have K2 := Lib.hid (Qt.trans K1.out q2)
    clear q2
    go_wp2_with fail
    refine (ref_from s w2 (by omega)).mono ?_
    rintro e w3 (⟨hf2, rfl, q3⟩ | ⟨_, _, rfl, q3⟩ | ⟨_, n1, n2, c, rfl, hR, q3⟩)
    · exact absurd hf hf2
    · have K3 := Lib.hid (Qt.trans K2.out q3)
      clear q3
      go_wp2_with fail
      refine (num_any ad 6 w3 (HE.out.kept K3.out (OffErrs.none ad)) (by omega)).mono ?_
      rintro e w4 ⟨rfl, q4⟩
      have K4 := Lib.hid (Qt.trans K3.out q4)
      clear q4
      go_wp2
      go_ret
      exact ⟨rfl, K4.out⟩
    · exact absurd ⟨n1, n2⟩ hno
  · have K2 := Lib.hid q2
    have HD := Lib.hid hD
    clear q2 hD
    go_wp2_with fail
    refine (ref_from s w2 (by omega)).mono ?_
    rintro e w3 (⟨hf2, rfl, q3⟩ | ⟨_, hno, rfl, q3⟩ | ⟨_, _, _, c, rfl, hR, q3⟩)
    · exact absurd hf hf2
    · exact absurd ⟨n1, n2⟩ hno
    · have HP := Lib.hid (pair_new K1.out HD.out K2.out hR q3)
      have K3 := Lib.hid (Qt.trans (Qt.trans K1.out K2.out) q3)
      clear q3 hR
      go_wp2_with fail
      refine (num_nil w3).mono ?_
      rintro e w4 ⟨rfl, rfl⟩
      go_wp2_with fail
      refine (play_any ad v g off os HE.out HP.out (PlayI.from' _ _) HSC.out).mono ?_
      rintro e w5 ⟨rfl, S5⟩
      have HQ := Lib.hid (Since.qt S5)
      clear S5
      go_wp2
      go_ret
      exact ⟨rfl, HQ.out⟩
end Go.Proofs.YtbifhnlinnokaaaDoor
