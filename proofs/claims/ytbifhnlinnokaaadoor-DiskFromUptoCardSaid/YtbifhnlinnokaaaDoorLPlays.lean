/-
  The contract of remitlaw06.DiskPlays: it answers true.
-/
import Derived.Test.YtbifhnlinnokaaaDoorSPlay
namespace Go.Proofs.YtbifhnlinnokaaaDoor
open Go.RowKit Go.WideShapes
set_option maxRecDepth 100000

theorem pair_new {w0 w1 w2 w3 : World} {b c : Nat} {d : DS} (q1 : Qt w0 w1) (hD : DiskAt w2 b d (Grow (fun _ => False) w1 w2)) (q2 : Qt w1 w2) (hR : RefAt w3 c d (Grow (fun _ => False) w2 w3)) (q3 : Qt w2 w3) : Pair w3.heap.size w0 w3 b c d d := by
  have z1 := q1.size
  have z2 := q2.size
  have z3 := q3.size
  refine ⟨_, _, hD.qt q3, hR, ?_, ?_, ?_, Qt.since (Qt.trans (Qt.trans q1 q2) q3)⟩
  · rintro k (e | e) (f | f)
    · exact e
    · exact e
    · exact f
    · omega
  · rintro k (e | e)
    · exact e.elim
    · omega
  · rintro k (e | e)
    · exact e.elim
    · omega
theorem PlayI.new (n : Nat) : PlayI 0 (DS.newD n) := ⟨Nat.le_refl _, Nat.le_refl _, Nat.le_refl _, Nat.le_refl _⟩

set_option maxHeartbeats 3200000 in
theorem plays_any (ad : Nat → Addr) (n : Int) (v : Value) (g off : Nat) (os : List OpD) (w : World) (hE : Errs ad w) (hs : Script w v g off os) :
    Calls Tryd.prog 3 #[.int .i64 n, v] w fun e w' => e = .returned (.bool true) ∧ Qt w w' := by
  have HE := Lib.hid hE
  have HSC := Lib.hid hs
  clear hs
  go_enter Tryd.func3, Tryd.ntmps3
  go_wp2_with fail
  refine (lives_any ad w hE).mono ?_
  rintro e w1 ⟨rfl, q1⟩
  have K1 := Lib.hid q1
  clear q1 hE
  go_wp2_with fail
  refine (new_any ad n w1 (HE.out.kept K1.out (OffErrs.none ad))).mono ?_
  rintro e w2 (⟨hno, rfl, q2⟩ | ⟨n1, n2, b, rfl, hD, q2⟩)
  · have K2 := Lib.hid (Qt.trans K1.out q2)
    clear q2
    go_wp2_with fail
    refine (ref_new n w2).mono ?_
    rintro e w3 (⟨_, rfl, q3⟩ | ⟨n1, n2, c, rfl, hR, q3⟩)
    · have K3 := Lib.hid (Qt.trans K2.out q3)
      clear q3
      go_wp2_with fail
      refine (num_any ad 6 w3 (HE.out.kept K3.out (OffErrs.none ad)) (by omega)).mono ?_
      rintro e w4 ⟨rfl, q4⟩
      have K4 := Lib.hid (Qt.trans K3.out q4)
      clear q4
      go_wp2
      go_ret
      exact ⟨rfl, K4.out⟩
    · exact absurd ⟨n1, n2⟩ hno
  · have K2 := Lib.hid q2
    have HD := Lib.hid hD
    clear q2 hD
    go_wp2_with fail
    refine (ref_new n w2).mono ?_
    rintro e w3 (⟨hno, rfl, q3⟩ | ⟨_, _, c, rfl, hR, q3⟩)
    · exact absurd ⟨n1, n2⟩ hno
    · have HP := Lib.hid (pair_new K1.out HD.out K2.out hR q3)
      have K3 := Lib.hid (Qt.trans (Qt.trans K1.out K2.out) q3)
      clear q3 hR
      go_wp2_with fail
      refine (num_nil w3).mono ?_
      rintro e w4 ⟨rfl, rfl⟩
      go_wp2_with fail
      refine (play_any ad v g off os HE.out HP.out (PlayI.new _) HSC.out).mono ?_
      rintro e w5 ⟨rfl, S5⟩
      have HQ := Lib.hid (Since.qt S5)
      clear S5
      go_wp2
      go_ret
      exact ⟨rfl, HQ.out⟩
end Go.Proofs.YtbifhnlinnokaaaDoor
