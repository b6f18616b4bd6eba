/-
  The contracts of sector.Open, Ends, Log and Tear.
-/
import Derived.Test.YtojcpegdbnnmdaaDoorESeal
import Derived.Lib.ReplaceLaws
namespace Go.Proofs.YtojcpegdbnnmdaaDoor
open Go.RowKit Go.WideShapes
set_option maxRecDepth 100000

theorem dslice (s : ByteArray) (a b : Nat) : (s.extract a b).data.toList = (s.data.toList.drop a).take (b - a) := Lib.extract_data s a b
theorem dlen7 (s : ByteArray) : s.data.toList.length = s.size := by simp
theorem of_list {s : ByteArray} {l : List UInt8} (h : s.data.toList = l) : s = ⟨l.toArray⟩ := by subst h; rfl
theorem bytes_eq7 {D E : ByteArray} : (D.toList == E.toList) = decide (D.data.toList = E.data.toList) := by
  rw [Lib.toList_data, Lib.toList_data, Bool.eq_iff_iff, beq_iff_eq, decide_eq_true_iff]
theorem bytes_ne7 {D E : ByteArray} : (D.toList != E.toList) = decide (D.data.toList ≠ E.data.toList) := by
  unfold bne; rw [bytes_eq7]; simp

/-- 's[10:10+n]'. -/
theorem slice10 (s : ByteArray) (hz : s.size = 256) (n : Nat) (hn : n ≤ 234) (wx : World) : (Instr.slice 9 (.string s) (some (.int .i64 10)) (some (.int .i64 (10 + (n : Int)))) none).run Tryd.prog wx = .ok (.string (s.extract 10 (10 + n))) wx := by
  have := run_slice_string (P := Tryd.prog) wx 9 s .i64 .i64 10 (10 + (n : Int)) Tryd.underlying9 (by omega) (by omega) (by omega)
  rw [this, show (10 + (n : Int)).toNat = 10 + n by omega, show (10 : Int).toNat = 10 by rfl]

def openV : Option (List UInt8) → Value
  | none => .tuple #[.string ⟨#[]⟩, .bool false]
  | some p => .tuple #[.string ⟨p.toArray⟩, .bool true]

theorem open_size {st : Nat} {s : List UInt8} (h : s.length ≠ 256) : E.openS st s = none := if_neg (fun k => h k.1)
theorem open_wide {st : Nat} {s : List UInt8} (h : 234 < E.size s) : E.openS st s = none := if_neg (fun k => by have := k.2.2.1; omega)
theorem open_zero {s : List UInt8} : E.openS 0 s = none := if_neg (fun k => k.2.1 rfl)
theorem open_no {st : Nat} {s : List UInt8} (h : s ≠ E.sct st (E.pay s)) : E.openS st s = none := if_neg (fun k => h k.2.2.2)
theorem open_yes {st : Nat} {s : List UInt8} (h1 : s.length = 256) (h2 : st ≠ 0) (h3 : E.size s ≤ 234) (h : s = E.sct st (E.pay s)) : E.openS st s = some (E.pay s) := if_pos ⟨h1, h2, h3, h⟩

theorem size_lt (l : List UInt8) : E.size l < 65536 := by
  have h := E.num_lt ((l.drop 8).take 2)
  have h2 : ((l.drop 8).take 2).length ≤ 2 := by rw [List.length_take]; omega
  exact Nat.lt_of_lt_of_le h (Nat.le_trans (Nat.pow_le_pow_right (by decide) h2) (by decide))

set_option maxHeartbeats 1600000 in
theorem open_any (er el ef : Addr) (st : Nat) (s : ByteArray) (w : World) (hst : st < 18446744073709551616) (hE : E3 er el ef w) (hT : Tab w) :
    Calls Tryd.prog 12 #[.int .u64 st, .string s] w fun e w' => e = .returned (openV (E.openS st s.data.toList)) ∧ Qt w w' := by
  have hd := dlen7 s
  by_cases hz : s.size = 256
  · have hlow := low_any (s.extract 8 10) w (by rw [ByteArray.size_extract]; omega)
    rw [dslice] at hlow
    have hn : E.num ((s.data.toList.drop 8).take (10 - 8)) = E.size s.data.toList := rfl
    rw [hn] at hlow
    clear hn
    have hsl := size_lt s.data.toList
    by_cases h234 : 234 < E.size s.data.toList
    · have HV := Lib.hid (congrArg openV (open_wide (st := st) h234))
      clear hE hT hd
      generalize E.size s.data.toList = n at *
      go_enter Tryd.func12, Tryd.ntmps12
      go_wp2_with fail
      refine hlow.mono ?_
      rintro e w1 ⟨rfl, rfl⟩
      go_wp2
      go_ret2
      exact ⟨by rw [HV.out]; rfl, Qt.refl _⟩
    · have hsli := slice10 s hz (E.size s.data.toList) (by omega)
      have hpl : (s.extract 10 (10 + E.size s.data.toList)).data.toList = E.pay s.data.toList := by
        rw [dslice, Nat.add_sub_cancel_left]; rfl
      have HP := Lib.hid (of_list hpl)
      have hseal := seal_any er el ef st (s.extract 10 (10 + E.size s.data.toList)) w hst hE hT
      rw [hpl] at hseal
      have hlp := E.pay_length (raw := s.data.toList) (by omega) (by omega)
      by_cases h0 : st = 0
      · subst h0
        have HV := Lib.hid (congrArg openV (open_zero (s := s.data.toList)))
        rw [show E.sealR 0 (E.pay s.data.toList) = ([], 6) from if_pos rfl, show e3V er el ef 6 = .iface 70 (.pointer (some er)) from rfl] at hseal
        clear hE hT hd HP hpl hlp
        generalize E.size s.data.toList = n at *
        go_enter Tryd.func12, Tryd.ntmps12
        go_wp2_with fail
        refine hlow.mono ?_
        rintro e w1 ⟨rfl, rfl⟩
        clear hlow
        go_wp2_with fail
        refine hseal.mono ?_
        rintro e w1 ⟨rfl, k⟩
        have K := Lib.hid k; clear k hseal
        go_wp2
        go_ret2
        exact ⟨by rw [HV.out]; rfl, K.out⟩
      · rw [show E.sealR st (E.pay s.data.toList) = (E.sct st (E.pay s.data.toList), 0) by unfold E.sealR; rw [if_neg h0, if_neg (by omega)], show e3V er el ef 0 = .nilIface from rfl] at hseal
        by_cases hq : s.data.toList = E.sct st (E.pay s.data.toList)
        · have HV := Lib.hid (congrArg openV (open_yes (st := st) (by omega) h0 (by omega) hq))
          have hbe : (s.toList == E.sct st (E.pay s.data.toList)) = true := by
            rw [Lib.toList_data]; exact beq_iff_eq.2 hq
          clear hE hT hd hpl hlp hq
          generalize E.sct st (E.pay s.data.toList) = sc at *
          generalize E.pay s.data.toList = pl at *
          generalize E.size s.data.toList = n at *
          go_enter Tryd.func12, Tryd.ntmps12
          go_wp2_with fail
          refine hlow.mono ?_
          rintro e w1 ⟨rfl, rfl⟩
          clear hlow
          go_wp2_with fail
          refine hseal.mono ?_
          rintro e w1 ⟨rfl, k⟩
          have K := Lib.hid k; clear k hseal
          go_wp2
          go_ret2
          exact ⟨by rw [HV.out, HP.out]; rfl, K.out⟩
        · have HV := Lib.hid (congrArg openV (open_no hq))
          have hbe : (s.toList == E.sct st (E.pay s.data.toList)) = false := by
            rw [Lib.toList_data]; exact beq_eq_false_iff_ne.2 hq
          clear hE hT hd HP hpl hlp hq
          generalize E.sct st (E.pay s.data.toList) = sc at *
          generalize E.size s.data.toList = n at *
          go_enter Tryd.func12, Tryd.ntmps12
          go_wp2_with fail
          refine hlow.mono ?_
          rintro e w1 ⟨rfl, rfl⟩
          clear hlow
          go_wp2_with fail
          refine hseal.mono ?_
          rintro e w1 ⟨rfl, k⟩
          have K := Lib.hid k; clear k hseal
          go_wp2
          go_ret2
          exact ⟨by rw [HV.out]; rfl, K.out⟩
  · have HV := Lib.hid (congrArg openV (open_size (st := st) (s := s.data.toList) (by omega)))
    clear hE hT hd
    go_enter Tryd.func12, Tryd.ntmps12
    go_wp2
    go_ret2
    exact ⟨by rw [HV.out]; rfl, Qt.refl _⟩

theorem low_q (s : ByteArray) (w : World) (hs : s.size ≤ 8) : Calls Tryd.prog 27 #[.string s] w fun e w' => e = .returned (.int .u64 (E.num s.data.toList : Nat)) ∧ w' = w := (low_any s w hs).mono fun _ _ h => ⟨h.1, h.2.symm⟩
set_option maxHeartbeats 1600000 in
theorem ends_any (er el ef : Addr) (s : ByteArray) (w : World) (hE : E3 er el ef w) :
    Calls Tryd.prog 14 #[.string s] w fun e w' => e = .returned (if s.size = 256 then .tuple #[.int .u64 (E.front s.data.toList : Nat), .int .u64 (E.back s.data.toList : Nat), .nilIface] else .tuple #[.int .u64 0, .int .u64 0, e3V er el ef 7]) ∧ Qt w w' := by
  have h3 := hE.f
  have hd := dlen7 s
  by_cases hz : s.size = 256
  · have hl1 := fun W => low_q (s.extract 0 8) W (by rw [ByteArray.size_extract]; omega)
    have hl2 := fun W => low_q (s.extract 248 256) W (by rw [ByteArray.size_extract]; omega)
    rw [dslice] at hl1 hl2
    have e1 : E.num ((s.data.toList.drop 0).take (8 - 0)) = E.front s.data.toList := rfl
    have e2 : E.num ((s.data.toList.drop 248).take (256 - 248)) = E.back s.data.toList := by
      unfold E.back; rw [List.take_of_length_le (by rw [List.length_drop]; omega)]
    rw [e1] at hl1
    rw [e2] at hl2
    clear e1 e2 hE h3 hd
    have A1 := Lib.hid hl1
    have A2 := Lib.hid hl2
    clear hl1 hl2
    rw [if_pos hz]
    generalize E.front s.data.toList = f at *
    generalize E.back s.data.toList = b at *
    go_enter Tryd.func14, Tryd.ntmps14
    go_wp2
    go_quiet ((first | (go_at_call 27; with_reducible exact Calls.quiet_of_same (A1.out _)) | (go_at_call 27; with_reducible exact Calls.quiet_of_same (A2.out _))))
    go_wp2
    go_ret3
    exact ⟨rfl, Keeps.drewN (Qt.refl w) _⟩
  · rw [if_neg hz]
    clear hE hd
    go_enter Tryd.func14, Tryd.ntmps14
    go_wp2
    go_quiet (fail)
    go_wp2
    go_ret3
    exact ⟨rfl, Keeps.drewN (Qt.refl w) _⟩

namespace E
def logOk (v i : Int) : Prop := 1 ≤ v ∧ v ≤ 1099511627776 ∧ 0 ≤ i ∧ i < 65536
instance (v i : Int) : Decidable (logOk v i) := inferInstanceAs (Decidable (_ ∧ _))
def logR (v i : Int) : Int × Nat := if logOk v i then (v * 1048576 + i + 1, 0) else (0, 6)
def tearR (a b : List UInt8) (n : Int) : List UInt8 × Nat := if a.length ≠ 256 ∨ b.length ≠ 256 then ([], 7) else if n < 0 ∨ 256 < n then ([], 6) else (tear a b n.toNat, 0)
end E

set_option maxHeartbeats 1600000 in
theorem log_any (er el ef : Addr) (v i : Int) (w : World) (hv0 : -9223372036854775808 ≤ v) (hv1 : v ≤ 9223372036854775807) (hi0 : -9223372036854775808 ≤ i) (hi1 : i ≤ 9223372036854775807) (hE : E3 er el ef w) :
    Calls Tryd.prog 16 #[.int .i64 v, .int .i64 i] w fun e w' => e = .returned (.tuple #[.int .u64 (E.logR v i).1, e3V er el ef (E.logR v i).2]) ∧ Qt w w' := by
  have h1 := hE.r
  clear hE
  by_cases hk : E.logOk v i
  · have HV := Lib.hid (show E.logR v i = (v * 1048576 + i + 1, 0) from if_pos hk)
    obtain ⟨a1, a2, a3, a4⟩ := hk
    go_enter Tryd.func16, Tryd.ntmps16
    go_wp2
    go_ret2
    exact ⟨by rw [HV.out]; rfl, Qt.refl _⟩
  · have HV := Lib.hid (show E.logR v i = (0, 6) from if_neg hk)
    have hk2 : v < 1 ∨ 1099511627776 < v ∨ i < 0 ∨ 65536 ≤ i := by unfold E.logOk at hk; omega
    clear hk
    by_cases b1 : v < 1
    · clear hk2
      go_enter Tryd.func16, Tryd.ntmps16
      go_wp2
      go_quiet (fail)
      go_wp2
      go_ret2
      exact ⟨by rw [HV.out]; rfl, Keeps.drewN (Qt.refl w) _⟩
    · by_cases b2 : 1099511627776 < v
      · clear hk2
        go_enter Tryd.func16, Tryd.ntmps16
        go_wp2
        go_quiet (fail)
        go_wp2
        go_ret2
        exact ⟨by rw [HV.out]; rfl, Keeps.drewN (Qt.refl w) _⟩
      · by_cases b3 : i < 0
        · clear hk2
          go_enter Tryd.func16, Tryd.ntmps16
          go_wp2
          go_quiet (fail)
          go_wp2
          go_ret2
          exact ⟨by rw [HV.out]; rfl, Keeps.drewN (Qt.refl w) _⟩
        · have b4 : 65536 ≤ i := by omega
          clear hk2
          go_enter Tryd.func16, Tryd.ntmps16
          go_wp2
          go_quiet (fail)
          go_wp2
          go_ret2
          exact ⟨by rw [HV.out]; rfl, Keeps.drewN (Qt.refl w) _⟩

/-- A sector torn, as a text. -/
theorem torn7 (a b : ByteArray) (ha : a.size = 256) (hb : b.size = 256) (n : Nat) (hn : n ≤ 256) : ∃ X1 O2 : ByteArray,
    (∀ wx : World, (Instr.slice 9 (.string b) none (some (.int .i64 (n : Int))) none).run Tryd.prog wx = .ok (.string X1) wx) ∧
    (∀ wx : World, (Instr.slice 9 (.string a) (some (.int .i64 (n : Int))) none none).run Tryd.prog wx = .ok (.string O2) wx) ∧
    X1 ++ O2 = ⟨(E.tear a.data.toList b.data.toList n).toArray⟩ ∧ ¬ (9223372036854775807 < X1.size + O2.size) := by
  have la := dlen7 a
  refine ⟨b.extract 0 n, a.extract n 256, ?_, ?_, ?_, ?_⟩
  · intro wx
    have := run_slice_string_h (P := Tryd.prog) wx 9 b Tryd.underlying9 .i64 (n : Int) (by omega) (by omega)
    simpa using this
  · intro wx
    have := run_slice_string_l (P := Tryd.prog) wx 9 a Tryd.underlying9 .i64 (n : Int) (by omega) (by omega)
    rw [ha] at this
    simpa using this
  · refine of_list ?_
    rw [ByteArray.data_append, Array.toList_append, dslice, dslice]
    unfold E.tear
    simp only [List.drop_zero, Nat.sub_zero]
    rw [List.take_of_length_le (l := a.data.toList.drop n) (by rw [List.length_drop]; omega)]
  · rw [ByteArray.size_extract, ByteArray.size_extract]
    omega

set_option maxHeartbeats 1600000 in
theorem tear_any (er el ef : Addr) (a b : ByteArray) (n : Int) (w : World) (hn0 : -9223372036854775808 ≤ n) (hn1 : n ≤ 9223372036854775807) (hE : E3 er el ef w) :
    Calls Tryd.prog 18 #[.string a, .string b, .int .i64 n] w fun e w' => e = .returned (.tuple #[.string ⟨(E.tearR a.data.toList b.data.toList n).1.toArray⟩, e3V er el ef (E.tearR a.data.toList b.data.toList n).2]) ∧ Qt w w' := by
  have h1 := hE.r
  have h3 := hE.f
  have la := dlen7 a
  have lb := dlen7 b
  clear hE
  by_cases za : a.size = 256
  · by_cases zb : b.size = 256
    · by_cases hn : n < 0
      · have HV := Lib.hid (show E.tearR a.data.toList b.data.toList n = ([], 6) by unfold E.tearR; rw [if_neg (by omega), if_pos (.inl hn)])
        clear h3 la lb
        go_enter Tryd.func18, Tryd.ntmps18
        go_wp2
        go_quiet (fail)
        go_wp2
        go_ret2
        exact ⟨by rw [HV.out]; rfl, Keeps.drewN (Qt.refl w) _⟩
      · by_cases hm : 256 < n
        · have HV := Lib.hid (show E.tearR a.data.toList b.data.toList n = ([], 6) by unfold E.tearR; rw [if_neg (by omega), if_pos (.inr hm)])
          clear h3 la lb
          go_enter Tryd.func18, Tryd.ntmps18
          go_wp2
          go_quiet (fail)
          go_wp2
          go_ret2
          exact ⟨by rw [HV.out]; rfl, Keeps.drewN (Qt.refl w) _⟩
        · obtain ⟨k, rfl⟩ : ∃ k : Nat, n = (k : Int) := ⟨n.toNat, by omega⟩
          have HV := Lib.hid (show E.tearR a.data.toList b.data.toList k = (E.tear a.data.toList b.data.toList k, 0) by unfold E.tearR; rw [if_neg (by omega), if_neg (by omega)]; rfl)
          obtain ⟨X1, O2, hx, ho, he, hsz⟩ := torn7 a b za zb k (by omega)
          have HE := Lib.hid he
          clear h1 h3 la lb he
          go_enter Tryd.func18, Tryd.ntmps18
          go_wp2
          go_quiet (fail)
          go_wp2
          go_ret2
          exact ⟨by rw [HV.out, ← HE.out]; rfl, Keeps.drewN (Qt.refl w) _⟩
    · have HV := Lib.hid (show E.tearR a.data.toList b.data.toList n = ([], 7) from if_pos (.inr (by omega)))
      clear h1 la lb
      go_enter Tryd.func18, Tryd.ntmps18
      go_wp2
      go_quiet (fail)
      go_wp2
      go_ret2
      exact ⟨by rw [HV.out]; rfl, Keeps.drewN (Qt.refl w) _⟩
  · have HV := Lib.hid (show E.tearR a.data.toList b.data.toList n = ([], 7) from if_pos (.inl (by omega)))
    clear h1 la lb
    go_enter Tryd.func18, Tryd.ntmps18
    go_wp2
    go_quiet (fail)
    go_wp2
    go_ret2
    exact ⟨by rw [HV.out]; rfl, Keeps.drewN (Qt.refl w) _⟩
end Go.Proofs.YtojcpegdbnnmdaaDoor
