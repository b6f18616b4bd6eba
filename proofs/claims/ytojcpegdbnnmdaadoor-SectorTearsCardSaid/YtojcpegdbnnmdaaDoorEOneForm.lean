/-
  The contract of remitlaw07.SectorOneForm: it answers true.
-/
import Derived.Test.YtojcpegdbnnmdaaDoorEStamps
namespace Go.Proofs.YtojcpegdbnnmdaaDoor
open Go.RowKit Go.WideShapes
set_option maxRecDepth 100000

theorem sealR_cases (st : Nat) (p : List UInt8) : (E.sealR st p).2 = 0 ∨ (E.sealR st p).2 = 3 ∨ (E.sealR st p).2 = 6 := by
  unfold E.sealR; split
  · exact .inr (.inr rfl)
  · split
    · exact .inr (.inl rfl)
    · exact .inl rfl
theorem seal_errs (ad : Nat → Addr) (st : Nat) (s : ByteArray) (w : World) (hst : st < 18446744073709551616) (hE : Errs ad w) (hT : Tab w) :
    Calls Tryd.prog 9 #[.int .u64 st, .string s] w fun e w' => e = .returned (.tuple #[.string ⟨(E.sealR st s.data.toList).1.toArray⟩, errV ad (E.sealR st s.data.toList).2]) ∧ Qt w w' := by
  have h := seal_any _ _ _ st s w hst hE.e3 hT
  rw [e3V_errs ad (by have := sealR_cases st s.data.toList; omega)] at h
  exact h
theorem openV_none {w : World} {f : FuncId} {a : Array Value} {o : Option (List UInt8)} (h : Calls Tryd.prog f a w fun e w' => e = .returned (openV o) ∧ Qt w w') (ho : o = none) : Calls Tryd.prog f a w fun e w' => e = .returned (.tuple #[.string ⟨#[]⟩, .bool false]) ∧ Qt w w' := by subst ho; exact h
theorem openV_some {w : World} {f : FuncId} {a : Array Value} {o : Option (List UInt8)} {p : List UInt8} (h : Calls Tryd.prog f a w fun e w' => e = .returned (openV o) ∧ Qt w w') (ho : o = some p) : Calls Tryd.prog f a w fun e w' => e = .returned (.tuple #[.string ⟨p.toArray⟩, .bool true]) ∧ Qt w w' := by subst ho; exact h
theorem open_not {st o : Nat} (hs : st < 2 ^ 64) (ho : o < 2 ^ 64) {p : List UInt8} (hz : st ≠ 0) (h : p.length ≤ 234) (hne : o ≠ st) : E.openS o (E.sct st p) = none := by
  have h0 := E.open_other hs ho hz h
  rw [decide_eq_false hne] at h0
  unfold E.counts at h0
  exact Option.isSome_eq_false_iff.1 h0 |> Option.isNone_iff_eq_none.1

set_option maxHeartbeats 3200000 in
theorem oneForm_any (ad : Nat → Addr) (st o : Nat) (s r : ByteArray) (w : World) (hst : st < 18446744073709551616) (ho : o < 18446744073709551616) (hE : Errs ad w) (hT : Tab w) :
    Calls Tryd.prog 4 #[.int .u64 st, .int .u64 o, .string s, .string r] w fun e w' => e = .returned (.bool true) ∧ Qt w w' := by
  have hd := dlen7 s
  have FX := Lib.hid (fixed_any _ _ _ w hE.e3 hT)
  have SE := fun W (k : Qt w W) => seal_errs ad st s W hst (hE.kept k (OffErrs.none ad)) (hT.qt k)
  by_cases hz : st = 0
  · subst hz
    rw [show E.sealR 0 s.data.toList = ([], 6) from if_pos rfl, errV_pos ad (by omega)] at SE
    have NM := Lib.hid (fun W (k : Qt w W) => num_any ad 6 W (hE.kept k (OffErrs.none ad)) (by omega))
    rw [errV_pos ad (by omega)] at NM
    have S1 := Lib.hid SE
    clear SE hE hT hd
    go_enter Tryd.func4, Tryd.ntmps4
    go_wp2_with fail
    refine FX.out.mono ?_
    rintro e w1 ⟨rfl, k⟩
    have K1 := Lib.hid k; clear k
    go_wp2_with fail
    refine (S1.out _ K1.out).mono ?_
    rintro e w2 ⟨rfl, k⟩
    have K2 := Lib.hid (Qt.trans K1.out k); clear k
    go_wp2_with fail
    refine (NM.out _ K2.out).mono ?_
    rintro e w3 ⟨rfl, k⟩
    have K3 := Lib.hid (Qt.trans K2.out k); clear k
    go_wp2
    go_ret
    exact ⟨rfl, K3.out⟩
  · by_cases hb : 234 < s.size
    · rw [show E.sealR st s.data.toList = ([], 3) by unfold E.sealR; rw [if_neg hz, if_pos (by omega)], errV_pos ad (by omega)] at SE
      have NM := Lib.hid (fun W (k : Qt w W) => num_any ad 3 W (hE.kept k (OffErrs.none ad)) (by omega))
      rw [errV_pos ad (by omega)] at NM
      have S1 := Lib.hid SE
      clear SE hE hT hd
      go_enter Tryd.func4, Tryd.ntmps4
      go_wp2_with fail
      refine FX.out.mono ?_
      rintro e w1 ⟨rfl, k⟩
      have K1 := Lib.hid k; clear k
      go_wp2_with fail
      refine (S1.out _ K1.out).mono ?_
      rintro e w2 ⟨rfl, k⟩
      have K2 := Lib.hid (Qt.trans K1.out k); clear k
      go_wp2_with fail
      refine (NM.out _ K2.out).mono ?_
      rintro e w3 ⟨rfl, k⟩
      have K3 := Lib.hid (Qt.trans K2.out k); clear k
      go_wp2
      go_ret
      exact ⟨rfl, K3.out⟩
    · rw [show E.sealR st s.data.toList = (E.sct st s.data.toList, 0) by unfold E.sealR; rw [if_neg hz, if_neg (by omega)], errV_zero] at SE
      have hp : s.data.toList.length ≤ 234 := by omega
      have hbd : decide ((234 : Int) < (s.size : Int)) = false := decide_eq_false (by omega)
      have hz2 : ((st : Int) == 0) = false := by rw [beq_eq_false_iff_ne]; omega
      obtain ⟨S, hS⟩ : ∃ S : ByteArray, S = ⟨(E.sct st s.data.toList).toArray⟩ := ⟨_, rfl⟩
      have hl : S.data.toList = E.sct st s.data.toList := by rw [hS]
      rw [← hS] at SE
      have S1 := Lib.hid SE
      have O1 := Lib.hid (show ∀ W, Qt w W → Calls Tryd.prog 12 #[.int .u64 st, .string S] W (fun e w' => e = .returned (.tuple #[.string s, .bool true]) ∧ Qt W w') from fun W (k : Qt w W) => openV_some (open_any _ _ _ st S W hst (hE.e3.qt k) (hT.qt k)) (by rw [hl]; exact E.open_sct hz hp))
      have OR := fun W (k : Qt w W) => open_any _ _ _ st r W hst (hE.e3.qt k) (hT.qt k)
      have SQ := Lib.hid (fun (p : ByteArray) W (k : Qt w W) => seal_errs ad st p W hst (hE.kept k (OffErrs.none ad)) (hT.qt k))
      -- the other stamp
      have OO : ∃ (p2 : ByteArray) (b2 : Bool), b2 = decide (o = st) ∧ ∀ W, Qt w W → Calls Tryd.prog 12 #[.int .u64 o, .string S] W fun e w' => e = .returned (.tuple #[.string p2, .bool b2]) ∧ Qt W w' := by
        by_cases he : o = st
        · subst he
          exact ⟨_, true, by simp, fun W k => openV_some (open_any _ _ _ o S W ho (hE.e3.qt k) (hT.qt k)) (by rw [hl]; exact E.open_sct hz hp)⟩
        · exact ⟨_, false, by simp [he], fun W k => openV_none (open_any _ _ _ o S W ho (hE.e3.qt k) (hT.qt k)) (by rw [hl]; exact open_not (by omega) (by omega) hz hp he)⟩
      obtain ⟨p2, b2, hb2, OO⟩ := OO
      have O2 := Lib.hid OO
      have hq : (b2 == ((o : Int) == (st : Int))) = true := by
        subst hb2
        by_cases he : o = st
        · subst he; simp
        · have : ¬ (o : Int) = (st : Int) := by omega
          simp [he, this]
      clear OO hS SE hb2
      cases hR : E.openS st r.data.toList with
      | none =>
        have O3 := Lib.hid (fun W k => openV_none (OR W k) hR)
        clear hE hT OR hR SQ hl
        go_enter Tryd.func4, Tryd.ntmps4
        go_wp2_with fail
        refine FX.out.mono ?_
        rintro e w1 ⟨rfl, k⟩
        have K1 := Lib.hid k; clear k
        go_wp2_with fail
        refine (S1.out _ K1.out).mono ?_
        rintro e w2 ⟨rfl, k⟩
        have K2 := Lib.hid (Qt.trans K1.out k); clear k
        go_wp2_with fail
        refine (O1.out _ K2.out).mono ?_
        rintro e w3 ⟨rfl, k⟩
        have K3 := Lib.hid (Qt.trans K2.out k); clear k
        go_wp2_with fail
        refine (O2.out _ K3.out).mono ?_
        rintro e w4 ⟨rfl, k⟩
        have K4 := Lib.hid (Qt.trans K3.out k); clear k
        go_wp2_with fail
        refine (O3.out _ K4.out).mono ?_
        rintro e w5 ⟨rfl, k⟩
        have K5 := Lib.hid (Qt.trans K4.out k); clear k
        go_wp2
        go_ret
        exact ⟨rfl, K5.out⟩
      | some q =>
        have O3 := Lib.hid (fun W k => openV_some (OR W k) hR)
        obtain ⟨hq1, hq2, hq3⟩ := E.open_some hR
        have SZ : ∀ W, Qt w W → Calls Tryd.prog 9 #[.int .u64 st, .string ⟨q.toArray⟩] W fun e w' => e = .returned (.tuple #[.string r, .nilIface]) ∧ Qt W w' := fun W k => by
          have h := SQ.out ⟨q.toArray⟩ W k
          rw [show (⟨q.toArray⟩ : ByteArray).data.toList = q from rfl, show E.sealR st q = (E.sct st q, 0) by unfold E.sealR; rw [if_neg hz, if_neg (by omega)], errV_zero, ← hq3] at h
          exact h
        have S3 := Lib.hid SZ
        clear hE hT OR hR SQ hl SZ hq1 hq3
        go_enter Tryd.func4, Tryd.ntmps4
        go_wp2_with fail
        refine FX.out.mono ?_
        rintro e w1 ⟨rfl, k⟩
        have K1 := Lib.hid k; clear k
        go_wp2_with fail
        refine (S1.out _ K1.out).mono ?_
        rintro e w2 ⟨rfl, k⟩
        have K2 := Lib.hid (Qt.trans K1.out k); clear k
        go_wp2_with fail
        refine (O1.out _ K2.out).mono ?_
        rintro e w3 ⟨rfl, k⟩
        have K3 := Lib.hid (Qt.trans K2.out k); clear k
        go_wp2_with fail
        refine (O2.out _ K3.out).mono ?_
        rintro e w4 ⟨rfl, k⟩
        have K4 := Lib.hid (Qt.trans K3.out k); clear k
        go_wp2_with fail
        refine (O3.out _ K4.out).mono ?_
        rintro e w5 ⟨rfl, k⟩
        have K5 := Lib.hid (Qt.trans K4.out k); clear k
        go_wp2_with fail
        refine (S3.out _ K5.out).mono ?_
        rintro e w6 ⟨rfl, k⟩
        have K6 := Lib.hid (Qt.trans K5.out k); clear k
        go_wp2
        go_ret
        exact ⟨rfl, K6.out⟩
end Go.Proofs.YtojcpegdbnnmdaaDoor
