/-
  The contract of remitlaw05.IdentTokens: it answers true.
-/
import Derived.Test.YtalopcbjcgbdfaaDoorIRefT
import Derived.Test.YtalopcbjcgbdfaaDoorIReads
namespace Go.Proofs.YtalopcbjcgbdfaaDoor
open Go.RowKit Go.WideShapes
set_option maxRecDepth 100000

theorem Errs.range {ad : Nat → Addr} {w : World} (h : Errs ad w) : RangeAt (ad 6) w := h.cells 5 0 rfl
theorem token_pair (ad : Nat → Addr) (n : Int) : ∃ (x : ByteArray) (k : Nat), k ≤ 37 ∧ tokenV (ad 6) n = .tuple #[.string x, errV ad k] ∧ tokenN n = .tuple #[.string x, .int .i64 k] := by
  unfold tokenV tokenN
  by_cases h : 1 ≤ n ∧ n ≤ 999999999999
  · rw [if_pos h, if_pos h]; exact ⟨_, 0, by decide, rfl, rfl⟩
  · rw [if_neg h, if_neg h]; exact ⟨_, 6, by decide, rfl, rfl⟩
theorem numV_err (s : List UInt8) : (I.numV s).2 = 0 ∨ (I.numV s).2 = 7 ∨ (I.numV s).2 = 8 := by
  unfold I.numV
  split
  · split
    · split
      · exact .inr (.inl rfl)
      · exact .inl rfl
    · exact .inr (.inr rfl)
  · exact .inr (.inl rfl)
theorem number_pair (ad : Nat → Addr) (s : List UInt8) : ∃ (x : Int) (k : Nat), k ≤ 37 ∧ numbV (ad 7) (ad 8) s = .tuple #[.int .i64 x, errV ad k] ∧ numbN s = .tuple #[.int .i64 x, .int .i64 k] := by
  unfold numbV numbN
  refine ⟨_, (I.numV s).2, ?_, ?_, rfl⟩
  · rcases numV_err s with h | h | h <;> omega
  · rcases numV_err s with h | h | h <;> rw [h] <;> rfl
theorem ne_same (ei : Addr) (w : World) : (binOp .neq 24 (.iface 107 (.pointer (some ei))) (.iface 107 (.pointer (some ei)))).run Tryd.prog w = .ok (.bool false) w := by
  obtain ⟨i, hi, hcmp⟩ := Option.map_eq_some_iff.1 compErr
  obtain ⟨j, hj, _⟩ := Option.map_eq_some_iff.1 sizeErr
  simp only [binOp]
  simp [Op.equal, Op.maxDepth, run_equalIn_iface_ptr_same (P := Tryd.prog) w 9998 ei Tryd.underlying24 Tryd.underlying107 hi hcmp hj]
set_option maxHeartbeats 3200000 in
theorem tokens_any (ad : Nat → Addr) (n : Int) (s : ByteArray) (w : World) (lo : -9223372036854775808 ≤ n) (hi : n < 9223372036854775808) (hz : s.size ≤ 140737488351232) (hE : Errs ad w) (ht : Tab10 w) :
    Calls Tryd.prog 5 #[.int .i64 n, .string s] w fun e w' => e = .returned (.bool true) ∧ Qt w w' := by
  have hs : s.size ≤ maxLen := by unfold maxLen; omega
  have hE' := fun (W : World) (k : Qt w W) => hE.kept k (OffErrs.none ad)
  have Z := iToken_any (ad 6) (ad 7) 0 w (by decide) (by decide) hE.range hE.form ht
  rw [tokenV_no (by decide)] at Z
  have T1 := Lib.hid (fun W (k : Qt w W) => iToken_any (ad 6) (ad 7) n W lo hi (hE' W k).range (hE' W k).form (ht.qt k))
  have T2 := Lib.hid (fun W => refToken_any n W lo hi)
  have N1 := Lib.hid (fun W (k : Qt w W) => iNumber_any (ad 7) (ad 8) s W hs (hE' W k).form (hE' W k).dig)
  have N2 := Lib.hid (fun W => refNumber_any s W)
  have NU := Lib.hid (fun W (k : Qt w W) n (h : n ≤ 37) => num_any ad n W (hE' W k) h)
  have HR := Lib.hid (fun W (k : Qt w W) => show W.cell? ⟨0, 0, none⟩ = some (rangeV (ad 6)) from (hE' W k).range)
  have NE := ne_same (ad 6)
  obtain ⟨x1, n1, hn1, p1, q1⟩ := token_pair ad n
  obtain ⟨x2, n2, hn2, p2, q2⟩ := number_pair ad s.data.toList
  rw [p1] at T1; rw [q1] at T2; rw [p2] at N1; rw [q2] at N2
  clear p1 q1 p2 q2 hE hE' hs hz ht lo hi
  go_enter Tryd.func5, Tryd.ntmps5
  go_wp2_with fail
  refine Z.mono ?_
  rintro e w1 ⟨rfl, k1⟩
  have K1 := Lib.hid k1
  have hr1 := HR.out _ k1
  clear k1 Z
  go_wp2_with fail
  refine (T1.out _ K1.out).mono ?_
  rintro e w2 ⟨rfl, k2⟩
  have K2 := Lib.hid (Qt.trans K1.out k2); clear k2 hr1
  go_wp2_with fail
  refine (T2.out _).mono ?_
  rintro e w3 ⟨rfl, k3⟩
  have K3 := Lib.hid (Qt.trans K2.out k3); clear k3
  go_wp2_with fail
  refine (NU.out _ K3.out n1 hn1).mono ?_
  rintro e w4 ⟨rfl, k4⟩
  have K4 := Lib.hid (Qt.trans K3.out k4); clear k4
  go_wp2_with fail
  refine (N1.out _ K4.out).mono ?_
  rintro e w5 ⟨rfl, k5⟩
  have K5 := Lib.hid (Qt.trans K4.out k5); clear k5
  go_wp2_with fail
  refine (N2.out _).mono ?_
  rintro e w6 ⟨rfl, k6⟩
  have K6 := Lib.hid (Qt.trans K5.out k6); clear k6
  go_wp2_with fail
  refine (NU.out _ K6.out n2 hn2).mono ?_
  rintro e w7 ⟨rfl, k7⟩
  have K7 := Lib.hid (Qt.trans K6.out k7); clear k7
  go_wp2
  go_ret
  exact ⟨by simp, K7.out⟩
end Go.Proofs.YtalopcbjcgbdfaaDoor
