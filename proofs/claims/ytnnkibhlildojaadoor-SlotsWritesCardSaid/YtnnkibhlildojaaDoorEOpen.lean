/-
  The contracts of sector.Open, Ends, Log and Tear.
-/
import Derived.Test.YtnnkibhlildojaaDoorESeal
import Derived.Lib.ReplaceLaws
namespace Go.Proofs.YtnnkibhlildojaaDoor
open Go.RowKit Go.WideShapes
set_option maxRecDepth 100000

theorem dslice (s : ByteArray) (a b : Nat) : (s.extract a b).data.toList = (s.data.toList.drop a).take (b - a) := Lib.extract_data s a b
theorem dlen7 (s : ByteArray) : s.data.toList.length = s.size := by simp
theorem of_list {s : ByteArray} {l : List UInt8} (h : s.data.toList = l) : s = ⟨l.toArray⟩ := by subst h; rfl
theorem bytes_eq7 {D E : ByteArray} : (D.toList == E.toList) = decide (D.data.toList = E.data.toList) := by
  rw [Lib.toList_data, Lib.toList_data, Bool.eq_iff_iff, beq_iff_eq, decide_eq_true_iff]
theorem bytes_ne7 {D E : ByteArray} : (D.toList != E.toList) = decide (D.data.toList ≠ E.data.toList) := by
  unfold bne; rw [bytes_eq7]; simp

/-- 's[10:10+n]'. -/
theorem slice10 (s : ByteArray) (hz : s.size = 256) (n : Nat) (hn : n ≤ 234) (wx : World) : (Instr.slice 9 (.string s) (some (.int .i64 10)) (some (.int .i64 (10 + (n : Int)))) none).run Tryd.prog wx = .ok (.string (s.extract 10 (10 + n))) wx := by
  have := run_slice_string (P := Tryd.prog) wx 9 s .i64 .i64 10 (10 + (n : Int)) Tryd.underlying9 (by omega) (by omega) (by omega)
  rw [this, show (10 + (n : Int)).toNat = 10 + n by omega, show (10 : Int).toNat = 10 by rfl]

def openV : Option (List UInt8) → Value
  | none => .tuple #[.string ⟨#[]⟩, .bool false]
  | some p => .tuple #[.string ⟨p.toArray⟩, .bool true]

theorem open_size {st : Nat} {s : List UInt8} (h : s.length ≠ 256) : E.openS st s = none := if_neg (fun k => h k.1)
theorem open_wide {st : Nat} {s : List UInt8} (h : 234 < E.size s) : E.openS st s = none := if_neg (fun k => by have := k.2.2.1; omega)
theorem open_zero {s : List UInt8} : E.openS 0 s = none := if_neg (fun k => k.2.1 rfl)
theorem open_no {st : Nat} {s : List UInt8} (h : s ≠ E.sct st (E.pay s)) : E.openS st s = none := if_neg (fun k => h k.2.2.2)
theorem open_yes {st : Nat} {s : List UInt8} (h1 : s.length = 256) (h2 : st ≠ 0) (h3 : E.size s ≤ 234) (h : s = E.sct st (E.pay s)) : E.openS st s = some (E.pay s) := if_pos ⟨h1, h2, h3, h⟩

theorem size_lt (l : List UInt8) : E.size l < 65536 := by
  have h := E.num_lt ((l.drop 8).take 2)
  have h2 : ((l.drop 8).take 2).length ≤ 2 := by rw [List.length_take]; omega
  exact Nat.lt_of_lt_of_le h (Nat.le_trans (Nat.pow_le_pow_right (by decide) h2) (by decide))

set_option maxHeartbeats 1600000 in
theorem open_any (er el ef : Addr) (st : Nat) (s : ByteArray) (w : World) (hst : st < 18446744073709551616) (hE : E3 er el ef w) (hT : Tab w) :
    Calls Tryd.prog 40 #[.int .u64 st, .string s] w fun e w' => e = .returned (openV (E.openS st s.data.toList)) ∧ Qt w w' := by
  have hd := dlen7 s
  by_cases hz : s.size = 256
  · have hlow := low_any (s.extract 8 10) w (by rw [ByteArray.size_extract]; omega)
    rw [dslice] at hlow
    have hn : E.num ((s.data.toList.drop 8).take (10 - 8)) = E.size s.data.toList := rfl
    rw [hn] at hlow
    clear hn
    have hsl := size_lt s.data.toList
    by_cases h234 : 234 < E.size s.data.toList
    · have HV := Lib.hid (congrArg openV (open_wide (st := st) h234))
      clear hE hT hd
      generalize E.size s.data.toList = n at *
      go_enter Tryd.func40, Tryd.ntmps40
      go_wp2_with fail
      refine hlow.mono ?_
      rintro e w1 ⟨rfl, rfl⟩
      go_wp2
      go_ret2
      exact ⟨by rw [HV.out]; rfl, Qt.refl _⟩
    · have hsli := slice10 s hz (E.size s.data.toList) (by omega)
      have hpl : (s.extract 10 (10 + E.size s.data.toList)).data.toList = E.pay s.data.toList := by
        rw [dslice, Nat.add_sub_cancel_left]; rfl
      have HP := Lib.hid (of_list hpl)
      have hseal := seal_any er el ef st (s.extract 10 (10 + E.size s.data.toList)) w hst hE hT
      rw [hpl] at hseal
      have hlp := E.pay_length (raw := s.data.toList) (by omega) (by omega)
      by_cases h0 : st = 0
      · subst h0
        have HV := Lib.hid (congrArg openV (open_zero (s := s.data.toList)))
        rw [show E.sealR 0 (E.pay s.data.toList) = ([], 6) from if_pos rfl, show e3V er el ef 6 = .iface 104 (.pointer (some er)) from rfl] at hseal
        clear hE hT hd HP hpl hlp
        generalize E.size s.data.toList = n at *
        go_enter Tryd.func40, Tryd.ntmps40
        go_wp2_with fail
        refine hlow.mono ?_
        rintro e w1 ⟨rfl, rfl⟩
        clear hlow
        go_wp2_with fail
        refine hseal.mono ?_
        rintro e w1 ⟨rfl, k⟩
        have K := Lib.hid k; clear k hseal
        go_wp2
        go_ret2
        exact ⟨by rw [HV.out]; rfl, K.out⟩
      · rw [show E.sealR st (E.pay s.data.toList) = (E.sct st (E.pay s.data.toList), 0) by unfold E.sealR; rw [if_neg h0, if_neg (by omega)], show e3V er el ef 0 = .nilIface from rfl] at hseal
        by_cases hq : s.data.toList = E.sct st (E.pay s.data.toList)
        · have HV := Lib.hid (congrArg openV (open_yes (st := st) (by omega) h0 (by omega) hq))
          have hbe : (s.toList == E.sct st (E.pay s.data.toList)) = true := by
            rw [Lib.toList_data]; exact beq_iff_eq.2 hq
          clear hE hT hd hpl hlp hq
          generalize E.sct st (E.pay s.data.toList) = sc at *
          generalize E.pay s.data.toList = pl at *
          generalize E.size s.data.toList = n at *
          go_enter Tryd.func40, Tryd.ntmps40
          go_wp2_with fail
          refine hlow.mono ?_
          rintro e w1 ⟨rfl, rfl⟩
          clear hlow
          go_wp2_with fail
          refine hseal.mono ?_
          rintro e w1 ⟨rfl, k⟩
          have K := Lib.hid k; clear k hseal
          go_wp2
          go_ret2
          exact ⟨by rw [HV.out, HP.out]; rfl, K.out⟩
        · have HV := Lib.hid (congrArg openV (open_no hq))
          have hbe : (s.toList == E.sct st (E.pay s.data.toList)) = false := by
            rw [Lib.toList_data]; exact beq_eq_false_iff_ne.2 hq
          clear hE hT hd HP hpl hlp hq
          generalize E.sct st (E.pay s.data.toList) = sc at *
          generalize E.size s.data.toList = n at *
          go_enter Tryd.func40, Tryd.ntmps40
          go_wp2_with fail
          refine hlow.mono ?_
          rintro e w1 ⟨rfl, rfl⟩
          clear hlow
          go_wp2_with fail
          refine hseal.mono ?_
          rintro e w1 ⟨rfl, k⟩
          have K := Lib.hid k; clear k hseal
          go_wp2
          go_ret2
          exact ⟨by rw [HV.out]; rfl, K.out⟩
  · have HV := Lib.hid (congrArg openV (open_size (st := st) (s := s.data.toList) (by omega)))
    clear hE hT hd
    go_enter Tryd.func40, Tryd.ntmps40
    go_wp2
    go_ret2
    exact ⟨by rw [HV.out]; rfl, Qt.refl _⟩

theorem low_q (s : ByteArray) (w : World) (hs : s.size ≤ 8) : Calls Tryd.prog 50 #[.string s] w fun e w' => e = .returned (.int .u64 (E.num s.data.toList : Nat)) ∧ w' = w := (low_any s w hs).mono fun _ _ h => ⟨h.1, h.2.symm⟩
set_option maxHeartbeats 1600000 in
theorem ends_any (er el ef : Addr) (s : ByteArray) (w : World) (hE : E3 er el ef w) :
    Calls Tryd.prog 39 #[.string s] w fun e w' => e = .returned (if s.size = 256 then .tuple #[.int .u64 (E.front s.data.toList : Nat), .int .u64 (E.back s.data.toList : Nat), .nilIface] else .tuple #[.int .u64 0, .int .u64 0, e3V er el ef 7]) ∧ Qt w w' := by
  have h3 := hE.f
  have hd := dlen7 s
  by_cases hz : s.size = 256
  · have hl1 := fun W => low_q (s.extract 0 8) W (by rw [ByteArray.size_extract]; omega)
    have hl2 := fun W => low_q (s.extract 248 256) W (by rw [ByteArray.size_extract]; omega)
    rw [dslice] at hl1 hl2
    have e1 : E.num ((s.data.toList.drop 0).take (8 - 0)) = E.front s.data.toList := rfl
    have e2 : E.num ((s.data.toList.drop 248).take (256 - 248)) = E.back s.data.toList := by
      unfold E.back; rw [List.take_of_length_le (by rw [List.length_drop]; omega)]
    rw [e1] at hl1
    rw [e2] at hl2
    clear e1 e2 hE h3 hd
    have A1 := Lib.hid hl1
    have A2 := Lib.hid hl2
    clear hl1 hl2
    rw [if_pos hz]
    generalize E.front s.data.toList = f at *
    generalize E.back s.data.toList = b at *
    go_enter Tryd.func39, Tryd.ntmps39
    go_wp2
    go_quiet ((first | (go_at_call 50; with_reducible exact Calls.quiet_of_same (A1.out _)) | (go_at_call 50; with_reducible exact Calls.quiet_of_same (A2.out _))))
    go_wp2
    go_ret3
    exact ⟨rfl, Keeps.drewN (Qt.refl w) _⟩
  · rw [if_neg hz]
    clear hE hd
    go_enter Tryd.func39, Tryd.ntmps39
    go_wp2
    go_quiet (fail)
    go_wp2
    go_ret3
    exact ⟨rfl, Keeps.drewN (Qt.refl w) _⟩

end Go.Proofs.YtnnkibhlildojaaDoor
