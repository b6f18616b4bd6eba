/-
  The contracts of remitref07.Open, Ends, Log and Tear.
-/
import Derived.Test.YtnnkibhlildojaaDoorERefS
namespace Go.Proofs.YtnnkibhlildojaaDoor
open Go.RowKit Go.WideShapes
set_option maxRecDepth 100000

theorem size_two (s : ByteArray) (h8 : 8 < s.size) (h9 : 9 < s.size) : E.size s.data.toList = s[8].toNat + 256 * s[9].toNat := by
  have l := dlen7 s
  have e : (s.data.toList.drop 8).take 2 = [s[8], s[9]] := by
    rw [List.drop_eq_getElem_cons (by omega), List.drop_eq_getElem_cons (by omega)]
    rfl
  unfold E.size
  rw [e, E.num, E.num, E.num]
  rfl

set_option maxHeartbeats 1600000 in
theorem refOpen_any (st : Nat) (s : ByteArray) (w : World) (hst : st < 18446744073709551616) :
    Calls Tryd.prog 42 #[.int .u64 st, .string s] w fun e w' => e = .returned (openV (E.openS st s.data.toList)) ∧ Qt w w' := by
  have hd := dlen7 s
  by_cases hz : s.size = 256
  · have h8 : 8 < s.size := by omega
    have h9 : 9 < s.size := by omega
    have hn := size_two s h8 h9
    have hsl := size_lt s.data.toList
    have b8 := s[8].toNat_lt
    have b9 := s[9].toNat_lt
    have hni : (s[8].toNat : Int) + 256 * (s[9].toNat : Int) = (E.size s.data.toList : Int) := by omega
    by_cases h234 : 234 < E.size s.data.toList
    · have HV := Lib.hid (congrArg openV (open_wide (st := st) h234))
      have h234' : 234 < (s[8].toNat : Int) + 256 * (s[9].toNat : Int) := by omega
      clear hd hn hni h234 hsl
      go_enter Tryd.func42, Tryd.ntmps42
      go_wp2
      go_quiet (fail)
      go_wp2
      go_ret2
      exact ⟨by rw [HV.out]; rfl, Keeps.drewN (Qt.refl w) _⟩
    · have hsli := fun W => slice10 s hz (E.size s.data.toList) (by omega) W
      have hpl : (s.extract 10 (10 + E.size s.data.toList)).data.toList = E.pay s.data.toList := by
        rw [dslice, Nat.add_sub_cancel_left]; rfl
      have HP := Lib.hid (of_list hpl)
      have hseal := fun W => refSeal_any st (s.extract 10 (10 + E.size s.data.toList)) W hst
      rw [hpl] at hseal
      have hlp := E.pay_length (raw := s.data.toList) (by omega) (by omega)
      rw [show (s[8].toNat : Int) + 256 * (s[9].toNat : Int) = (s[8].toNat : Int) + (OfNat.ofNat 256 : Int) * (s[9].toNat : Int) from rfl] at hni
      have HNI := Lib.hid hni
      clear hn hni
      by_cases h0 : st = 0
      · subst h0
        have HV := Lib.hid (congrArg openV (open_zero (s := s.data.toList)))
        rw [show E.sealR 0 (E.pay s.data.toList) = ([], 6) from if_pos rfl] at hseal
        have HS := Lib.hid hseal
        clear hd HP hpl hlp hseal
        generalize E.size s.data.toList = n at *
        go_enter Tryd.func42, Tryd.ntmps42
        go_wp2
        go_quiet (fail)
        rw [HNI.out]
        go_wp2_with fail
        refine (HS.out _).mono ?_
        rintro e w1 ⟨rfl, k⟩
        have K := Lib.hid (Qt.trans (Keeps.drewN (Qt.refl w) _) k); clear k HS
        go_wp2
        go_ret2
        exact ⟨by rw [HV.out]; rfl, K.out⟩
      · rw [show E.sealR st (E.pay s.data.toList) = (E.sct st (E.pay s.data.toList), 0) by unfold E.sealR; rw [if_neg h0, if_neg (by omega)]] at hseal
        have HS := Lib.hid hseal
        by_cases hq : s.data.toList = E.sct st (E.pay s.data.toList)
        · have HV := Lib.hid (congrArg openV (open_yes (st := st) (by omega) h0 (by omega) hq))
          have hbe : (E.sct st (E.pay s.data.toList) == s.toList) = true := by
            rw [Lib.toList_data]; exact beq_iff_eq.2 hq.symm
          have hbe2 : (s.toList == E.sct st (E.pay s.data.toList)) = true := by
            rw [Lib.toList_data]; exact beq_iff_eq.2 hq
          clear hd hpl hlp hq hseal
          generalize E.sct st (E.pay s.data.toList) = sc at *
          generalize E.pay s.data.toList = pl at *
          generalize E.size s.data.toList = n at *
          go_enter Tryd.func42, Tryd.ntmps42
          go_wp2
          go_quiet (fail)
          rw [HNI.out]
          go_wp2_with fail
          refine (HS.out _).mono ?_
          rintro e w1 ⟨rfl, k⟩
          have K := Lib.hid (Qt.trans (Keeps.drewN (Qt.refl w) _) k); clear k HS
          go_wp2
          go_ret2
          exact ⟨by rw [HV.out, HP.out]; rfl, K.out⟩
        · have HV := Lib.hid (congrArg openV (open_no hq))
          have hbe : (E.sct st (E.pay s.data.toList) == s.toList) = false := by
            rw [Lib.toList_data]; exact beq_eq_false_iff_ne.2 (fun e => hq e.symm)
          clear hd HP hpl hlp hq hseal
          generalize E.sct st (E.pay s.data.toList) = sc at *
          generalize E.size s.data.toList = n at *
          go_enter Tryd.func42, Tryd.ntmps42
          go_wp2
          go_quiet (fail)
          rw [HNI.out]
          go_wp2_with fail
          refine (HS.out _).mono ?_
          rintro e w1 ⟨rfl, k⟩
          have K := Lib.hid (Qt.trans (Keeps.drewN (Qt.refl w) _) k); clear k HS
          go_wp2
          go_ret2
          exact ⟨by rw [HV.out]; rfl, K.out⟩
  · have HV := Lib.hid (congrArg openV (open_size (st := st) (s := s.data.toList) (by omega)))
    clear hd
    go_enter Tryd.func42, Tryd.ntmps42
    go_wp2
    go_ret2
    exact ⟨by rw [HV.out]; rfl, Qt.refl _⟩

set_option maxHeartbeats 1600000 in
theorem refEnds_any (s : ByteArray) (w : World) :
    Calls Tryd.prog 41 #[.string s] w fun e w' => e = .returned (if s.size = 256 then .tuple #[.int .u64 (E.front s.data.toList : Nat), .int .u64 (E.back s.data.toList : Nat), .int .i64 0] else .tuple #[.int .u64 0, .int .u64 0, .int .i64 7]) ∧ Qt w w' := by
  have hd := dlen7 s
  by_cases hz : s.size = 256
  · have hl1 := fun W => number_any (s.extract 0 8) W (by rw [ByteArray.size_extract]; omega)
    have hl2 := fun W => number_any (s.extract 248 256) W (by rw [ByteArray.size_extract]; omega)
    rw [dslice] at hl1 hl2
    have e1 : E.num ((s.data.toList.drop 0).take (8 - 0)) = E.front s.data.toList := rfl
    have e2 : E.num ((s.data.toList.drop 248).take (256 - 248)) = E.back s.data.toList := by
      unfold E.back; rw [List.take_of_length_le (by rw [List.length_drop]; omega)]
    rw [e1] at hl1
    rw [e2] at hl2
    clear e1 e2 hd
    have A1 := Lib.hid hl1
    have A2 := Lib.hid hl2
    clear hl1 hl2
    rw [if_pos hz]
    generalize E.front s.data.toList = f at *
    generalize E.back s.data.toList = b at *
    go_enter Tryd.func41, Tryd.ntmps41
    go_wp2
    go_quiet ((first | (go_at_call 51; with_reducible exact Calls.quiet_of_same (A1.out _)) | (go_at_call 51; with_reducible exact Calls.quiet_of_same (A2.out _))))
    go_wp2
    go_ret3
    exact ⟨rfl, Keeps.drewN (Qt.refl w) _⟩
  · rw [if_neg hz]
    clear hd
    go_enter Tryd.func41, Tryd.ntmps41
    go_wp2
    go_ret3
    exact ⟨rfl, Qt.refl w⟩

end Go.Proofs.YtnnkibhlildojaaDoor
