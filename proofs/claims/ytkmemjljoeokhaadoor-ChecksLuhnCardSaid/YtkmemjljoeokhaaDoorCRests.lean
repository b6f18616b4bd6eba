/-
  The contract of remitlaw03.ChecksRests: it answers true.
-/
import Derived.Test.YtkmemjljoeokhaaDoorCLives
import Derived.Test.YtkmemjljoeokhaaDoorNum
import Derived.Test.YtkmemjljoeokhaaDoorCDoor
namespace Go.Proofs.YtkmemjljoeokhaaDoor
open Go.RowKit Go.WideShapes
set_option maxRecDepth 100000

/-- What a call with an error and the reference's call with a number answer, side by side. -/
def PairV (ad : Nat → Addr) (v1 v2 : Value) : Prop := ∃ (x : Value) (n : Nat), n ≤ 37 ∧ v1 = .tuple #[x, errV ad n] ∧ v2 = .tuple #[x, .int .i64 n]
theorem errV_form (ad : Nat → Addr) : errV ad 7 = formV (ad 7) := rfl
theorem rest_pair (ad : Nat → Addr) (s : List UInt8) : ∃ (x : Int) (n : Nat), n ≤ 37 ∧ restV (ad 7) s = .tuple #[.int .i64 x, errV ad n] ∧ restN s = .tuple #[.int .i64 x, .int .i64 n] := by
  cases h : C.rest s with
  | none => exact ⟨0, 7, by decide, restV_none h, restN_none h⟩
  | some r => exact ⟨r, 0, by decide, restV_some h, restN_some h⟩
theorem dig_pair (ad : Nat → Addr) (s : List UInt8) : ∃ (x : ByteArray) (n : Nat), n ≤ 37 ∧ digV (ad 7) s = .tuple #[.string x, errV ad n] ∧ digN s = .tuple #[.string x, .int .i64 n] := by
  cases h : C.digits s with
  | none => exact ⟨⟨#[]⟩, 7, by decide, digV_no h, digN_no h⟩
  | some d => exact ⟨⟨d.toArray⟩, 0, by decide, digV_of h, digN_of h⟩
theorem luhn_pair (ad : Nat → Addr) (s : List UInt8) : ∃ (x : Int) (n : Nat), n ≤ 37 ∧ luhnV (ad 7) s = .tuple #[.int .i64 x, errV ad n] ∧ luhnN s = .tuple #[.int .i64 x, .int .i64 n] := by
  cases h : C.luhnB s with
  | none => exact ⟨0, 7, by decide, luhnV_none h, luhnN_none h⟩
  | some r => exact ⟨r, 0, by decide, luhnV_some h, luhnN_some h⟩

set_option maxHeartbeats 3200000 in
theorem rests_any (ad : Nat → Addr) (s : ByteArray) (w : World) (hz : s.size ≤ 140737488351232) (hE : Errs ad w) (hT : Tab w) :
    Calls Tryd.prog 5 #[.string s] w fun e w' => e = .returned (.bool true) ∧ Qt w w' := by
  have hs : s.size ≤ maxLen := by unfold maxLen; omega
  have hE' := fun (W : World) (k : Qt w W) => hE.kept k (OffErrs.none ad)
  have HL := Lib.hid (lives_any (ad 7) w hE.form hT)
  have R1 := Lib.hid (fun W (k : Qt w W) => rest_any (ad 7) s W hs (hE' W k).form)
  have R2 := Lib.hid (fun W => refRest_any s W hs)
  have D1 := Lib.hid (fun W (k : Qt w W) => digits_any (ad 7) s W hs (hE' W k).form)
  have D2 := Lib.hid (fun W => refDigits_any s W (by unfold maxLen; omega))
  have L1 := Lib.hid (fun W (k : Qt w W) => luhn_any (ad 7) s W hs (hE' W k).form)
  have L2 := Lib.hid (fun W => refLuhn_any s W (by omega))
  have F1 := Lib.hid (fun W (k : Qt w W) => fits_any (ad 7) s W hs (hE' W k).form)
  have F2 := Lib.hid (fun W => refFits_any s W hs)
  have NU := Lib.hid (fun W (k : Qt w W) n (h : n ≤ 37) => num_any ad n W (hE' W k) h)
  obtain ⟨x1, n1, hn1, p1, q1⟩ := rest_pair ad s.data.toList
  obtain ⟨x2, n2, hn2, p2, q2⟩ := dig_pair ad s.data.toList
  obtain ⟨x3, n3, hn3, p3, q3⟩ := luhn_pair ad s.data.toList
  rw [p1] at R1; rw [q1] at R2; rw [p2] at D1; rw [q2] at D2; rw [p3] at L1; rw [q3] at L2
  generalize C.fits s.data.toList = fb at *
  clear p1 q1 p2 q2 p3 q3 hE hE' hT hs hz
  go_enter Tryd.func5, Tryd.ntmps5
  go_wp2_with fail
  refine HL.out.mono ?_
  rintro e w1 ⟨rfl, k1⟩
  have K1 := Lib.hid k1; clear k1
  go_wp2_with fail
  refine (R1.out _ K1.out).mono ?_
  rintro e w2 ⟨rfl, k2⟩
  have K2 := Lib.hid (Qt.trans K1.out k2); clear k2
  go_wp2_with fail
  refine (R2.out _).mono ?_
  rintro e w2' ⟨rfl, rfl⟩
  go_wp2_with fail
  refine (NU.out _ K2.out n1 hn1).mono ?_
  rintro e w3 ⟨rfl, k3⟩
  have K3 := Lib.hid (Qt.trans K2.out k3); clear k3
  go_wp2_with fail
  refine (D1.out _ K3.out).mono ?_
  rintro e w4 ⟨rfl, k4⟩
  have K4 := Lib.hid (Qt.trans K3.out k4); clear k4
  go_wp2_with fail
  refine (D2.out _).mono ?_
  rintro e w5 ⟨rfl, k5⟩
  have K5 := Lib.hid (Qt.trans K4.out k5); clear k5
  go_wp2_with fail
  refine (NU.out _ K5.out n2 hn2).mono ?_
  rintro e w6 ⟨rfl, k6⟩
  have K6 := Lib.hid (Qt.trans K5.out k6); clear k6
  go_wp2_with fail
  refine (L1.out _ K6.out).mono ?_
  rintro e w7 ⟨rfl, k7⟩
  have K7 := Lib.hid (Qt.trans K6.out k7); clear k7
  go_wp2_with fail
  refine (L2.out _).mono ?_
  rintro e w8 ⟨rfl, rfl⟩
  go_wp2_with fail
  refine (NU.out _ K7.out n3 hn3).mono ?_
  rintro e w9 ⟨rfl, k9⟩
  have K9 := Lib.hid (Qt.trans K7.out k9); clear k9
  go_wp2_with fail
  refine (F1.out _ K9.out).mono ?_
  rintro e w10 ⟨rfl, k10⟩
  have K10 := Lib.hid (Qt.trans K9.out k10); clear k10
  go_wp2_with fail
  refine (F2.out _).mono ?_
  rintro e w11 ⟨rfl, k11⟩
  have K11 := Lib.hid (Qt.trans K10.out k11); clear k11
  go_wp2
  go_ret
  exact ⟨by simp, K11.out⟩
end Go.Proofs.YtkmemjljoeokhaaDoor
