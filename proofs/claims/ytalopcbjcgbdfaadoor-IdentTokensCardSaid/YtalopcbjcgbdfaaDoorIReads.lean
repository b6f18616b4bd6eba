/-
  The contracts of remitlaw05.IdentReads, IdentMakes: they answer true.
-/
import Derived.Test.YtalopcbjcgbdfaaDoorILives
import Derived.Test.YtalopcbjcgbdfaaDoorIRefB
import Derived.Test.YtalopcbjcgbdfaaDoorIRefC
namespace Go.Proofs.YtalopcbjcgbdfaaDoor
open Go.RowKit Go.WideShapes
set_option maxRecDepth 100000

theorem Errs.form {ad : Nat → Addr} {w : World} (h : Errs ad w) : FormAt (ad 7) w := h.cells 6 1 rfl
theorem Errs.dig {ad : Nat → Addr} {w : World} (h : Errs ad w) : DigAt (ad 8) w := h.cells 7 3 rfl
theorem Errs.id {ad : Nat → Addr} {w : World} (h : Errs ad w) : IdAt (ad 26) w := h.cells 25 2 rfl
theorem accE_err (ad : Nat → Addr) (s : List UInt8) : accE (ad 7) (ad 8) (I.chk s) = errV ad (I.chk s) ∧ I.chk s ≤ 37 := by
  rcases chk_cases s with h | h | h <;> rw [h] <;> exact ⟨rfl, by decide⟩
theorem norm_pair (ad : Nat → Addr) (s : List UInt8) : ∃ (x : ByteArray) (n : Nat), n ≤ 37 ∧ normV (ad 7) (ad 8) s = .tuple #[.string x, errV ad n] ∧ normN s = .tuple #[.string x, .int .i64 n] := by
  unfold normV normN
  by_cases h : I.chk (I.norm s) = 0
  · rw [if_pos h, if_pos h]; exact ⟨_, 0, by decide, rfl, rfl⟩
  · rw [if_neg h, if_neg h, (accE_err ad _).1]; exact ⟨_, _, (accE_err ad _).2, rfl, rfl⟩
theorem id_pair (ad : Nat → Addr) (s : List UInt8) : ∃ n : Nat, n ≤ 37 ∧ idV (ad 26) s = errV ad n ∧ idN s = (n : Int) := by
  cases h : I.idB s with
  | true => exact ⟨0, by decide, idV_yes h, idN_yes h⟩
  | false => exact ⟨26, by decide, idV_no h, idN_no h⟩
theorem make_pair (ad : Nat → Addr) (c b : List UInt8) : ∃ (x : ByteArray) (n : Nat), n ≤ 37 ∧ makeV (ad 7) c b = .tuple #[.string x, errV ad n] ∧ makeN c b = .tuple #[.string x, .int .i64 n] := by
  unfold makeV makeN
  cases I.make c b with
  | none => exact ⟨_, 7, by decide, rfl, rfl⟩
  | some l => exact ⟨_, 0, by decide, rfl, rfl⟩

set_option maxHeartbeats 3200000 in
theorem reads_any (ad : Nat → Addr) (s : ByteArray) (w : World) (hz : s.size ≤ 140737488351232) (hE : Errs ad w) :
    Calls Tryd.prog 3 #[.string s] w fun e w' => e = .returned (.bool true) ∧ Qt w w' := by
  have hs : s.size ≤ maxLen := by unfold maxLen; omega
  have hE' := fun (W : World) (k : Qt w W) => hE.kept k (OffErrs.none ad)
  have HL := Lib.hid (iLives_any (ad 7) (ad 26) w hE.form hE.id)
  have N1 := Lib.hid (fun W (k : Qt w W) => iNormal_any (ad 7) (ad 8) s W hz (hE' W k).form (hE' W k).dig)
  have N2 := Lib.hid (fun W => refNormal_any s W hz)
  have C1 := Lib.hid (fun W (k : Qt w W) => iCheck_any (ad 7) (ad 8) s W hs (hE' W k).form (hE' W k).dig)
  have C2 := Lib.hid (fun W => refCheck_any s W hz)
  have M1 := Lib.hid (fun W => iMask_any s W hz)
  have M2 := Lib.hid (fun W => refMask_any s W hz)
  have I1 := Lib.hid (fun W (k : Qt w W) => iId2_any (ad 26) s W hs (hE' W k).id)
  have I2 := Lib.hid (fun W => refId_any s W)
  have NU := Lib.hid (fun W (k : Qt w W) n (h : n ≤ 37) => num_any ad n W (hE' W k) h)
  obtain ⟨x1, n1, hn1, p1, q1⟩ := norm_pair ad s.data.toList
  obtain ⟨n2, hn2, p2, q2⟩ := id_pair ad s.data.toList
  obtain ⟨p3, hn3⟩ := accE_err ad s.data.toList
  rw [p1] at N1; rw [q1] at N2; rw [p2] at I1; rw [q2] at I2
  rw [show accE (ad 7) (ad 8) (chkS s) = errV ad (I.chk s.data.toList) from p3] at C1
  generalize I.chk s.data.toList = n3 at *
  generalize maskS s = ms at *
  clear p1 q1 p2 q2 p3 hE hE' hs hz
  go_enter Tryd.func3, Tryd.ntmps3
  go_wp2_with fail
  refine HL.out.mono ?_
  rintro e w1 ⟨rfl, k1⟩
  have K1 := Lib.hid k1; clear k1
  go_wp2_with fail
  refine (N1.out _ K1.out).mono ?_
  rintro e w2 ⟨rfl, k2⟩
  have K2 := Lib.hid (Qt.trans K1.out k2); clear k2
  go_wp2_with fail
  refine (N2.out _).mono ?_
  rintro e w3 ⟨rfl, k3⟩
  have K3 := Lib.hid (Qt.trans K2.out k3); clear k3
  go_wp2_with fail
  refine (NU.out _ K3.out n1 hn1).mono ?_
  rintro e w4 ⟨rfl, k4⟩
  have K4 := Lib.hid (Qt.trans K3.out k4); clear k4
  go_wp2_with fail
  refine (C1.out _ K4.out).mono ?_
  rintro e w5 ⟨rfl, k5⟩
  have K5 := Lib.hid (Qt.trans K4.out k5); clear k5
  go_wp2_with fail
  refine (NU.out _ K5.out n3 hn3).mono ?_
  rintro e w6 ⟨rfl, k6⟩
  have K6 := Lib.hid (Qt.trans K5.out k6); clear k6
  go_wp2_with fail
  refine (C2.out _).mono ?_
  rintro e w7 ⟨rfl, k7⟩
  have K7 := Lib.hid (Qt.trans K6.out k7); clear k7
  go_wp2_with fail
  refine (M1.out _).mono ?_
  rintro e w8 ⟨rfl, k8⟩
  have K8 := Lib.hid (Qt.trans K7.out k8); clear k8
  go_wp2_with fail
  refine (M2.out _).mono ?_
  rintro e w9 ⟨rfl, k9⟩
  have K9 := Lib.hid (Qt.trans K8.out k9); clear k9
  go_wp2_with fail
  refine (I1.out _ K9.out).mono ?_
  rintro e w10 ⟨rfl, rfl⟩
  go_wp2_with fail
  refine (NU.out _ K9.out n2 hn2).mono ?_
  rintro e w11 ⟨rfl, k11⟩
  have K11 := Lib.hid (Qt.trans K9.out k11); clear k11
  go_wp2_with fail
  refine (I2.out _).mono ?_
  rintro e w12 ⟨rfl, rfl⟩
  go_wp2
  go_ret
  exact ⟨by simp, K11.out⟩

set_option maxHeartbeats 3200000 in
theorem makes_any (ad : Nat → Addr) (c b : ByteArray) (kind : Int) (w : World) (hc : c.size ≤ 140737488351232) (hb : b.size ≤ 140737488351232) (hE : Errs ad w) :
    Calls Tryd.prog 4 #[.string c, .string b, .int .i64 kind] w fun e w' => e = .returned (.bool true) ∧ Qt w w' := by
  have hE' := fun (W : World) (k : Qt w W) => hE.kept k (OffErrs.none ad)
  have HL := Lib.hid (iLives_any (ad 7) (ad 26) w hE.form hE.id)
  have N1 := Lib.hid (fun W (k : Qt w W) => iMake_any (ad 7) c b W (by unfold maxLen; omega) (by unfold maxLen; omega) (hE' W k).form)
  have N2 := Lib.hid (fun W => refMake_any c b W hc hb)
  have S1 := Lib.hid (fun W => iSystem_any kind c W (by omega))
  have S2 := Lib.hid (fun W => refSystem_any kind c W (by omega))
  have T1 := Lib.hid (fun W => iSystem_any kind b W (by omega))
  have T2 := Lib.hid (fun W => refSystem_any kind b W (by omega))
  have NU := Lib.hid (fun W (k : Qt w W) n (h : n ≤ 37) => num_any ad n W (hE' W k) h)
  obtain ⟨x1, n1, hn1, p1, q1⟩ := make_pair ad c.data.toList b.data.toList
  rw [p1] at N1; rw [q1] at N2
  generalize sysB kind c.data.toList = y1 at *
  generalize sysB kind b.data.toList = y2 at *
  clear p1 q1 hE hE' hc hb
  go_enter Tryd.func4, Tryd.ntmps4
  go_wp2_with fail
  refine HL.out.mono ?_
  rintro e w1 ⟨rfl, k1⟩
  have K1 := Lib.hid k1; clear k1
  go_wp2_with fail
  refine (N1.out _ K1.out).mono ?_
  rintro e w2 ⟨rfl, k2⟩
  have K2 := Lib.hid (Qt.trans K1.out k2); clear k2
  go_wp2_with fail
  refine (N2.out _).mono ?_
  rintro e w3 ⟨rfl, k3⟩
  have K3 := Lib.hid (Qt.trans K2.out k3); clear k3
  go_wp2_with fail
  refine (NU.out _ K3.out n1 hn1).mono ?_
  rintro e w4 ⟨rfl, k4⟩
  have K4 := Lib.hid (Qt.trans K3.out k4); clear k4
  go_wp2_with fail
  refine (S1.out _).mono ?_
  rintro e w5 ⟨rfl, rfl⟩
  go_wp2_with fail
  refine (S2.out _).mono ?_
  rintro e w5 ⟨rfl, rfl⟩
  go_wp2_with fail
  refine (T1.out _).mono ?_
  rintro e w5 ⟨rfl, rfl⟩
  go_wp2_with fail
  refine (T2.out _).mono ?_
  rintro e w5 ⟨rfl, rfl⟩
  go_wp2
  go_ret
  exact ⟨by simp, K4.out⟩
end Go.Proofs.YtalopcbjcgbdfaaDoor
