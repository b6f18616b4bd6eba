/-
  The contracts of remitref07.Open, Ends, Log and Tear.
  The errors' variables, three of them.
  The contract of sector.Log.
-/
import Derived.Test.YtggogaaooacooaaDoorP24
namespace Go.Proofs.YtggogaaooacooaaDoor
open Go.RowKit Go.WideShapes
set_option maxRecDepth 100000

theorem size_two (s : ByteArray) (h8 : 8 < s.size) (h9 : 9 < s.size) : E.size s.data.toList = s[8].toNat + 256 * s[9].toNat := by
  have l := dlen7 s
  have e : (s.data.toList.drop 8).take 2 = [s[8], s[9]] := by
    rw [List.drop_eq_getElem_cons (by omega), List.drop_eq_getElem_cons (by omega)]
    rfl
  unfold E.size
  rw [e, E.num, E.num, E.num]
  rfl

set_option maxHeartbeats 1600000 in
theorem refOpen_any (st : Nat) (s : ByteArray) (w : World) (hst : st < 18446744073709551616) :
    Calls Tryd.prog 99 #[.int .u64 st, .string s] w fun e w' => e = .returned (openV (E.openS st s.data.toList)) ∧ Qt w w' := by
  have hd := dlen7 s
  by_cases hz : s.size = 256
  · have h8 : 8 < s.size := by omega
    have h9 : 9 < s.size := by omega
    have hn := size_two s h8 h9
    have hsl := size_lt s.data.toList
    have b8 := s[8].toNat_lt
    have b9 := s[9].toNat_lt
    have hni : (s[8].toNat : Int) + 256 * (s[9].toNat : Int) = (E.size s.data.toList : Int) := by omega
    by_cases h234 : 234 < E.size s.data.toList
    · have HV := Lib.hid (congrArg openV (open_wide (st := st) h234))
      have h234' : 234 < (s[8].toNat : Int) + 256 * (s[9].toNat : Int) := by omega
      clear hd hn hni h234 hsl
      go_enter Tryd.func99, Tryd.ntmps99
      go_wp2
      go_quiet (fail)
      go_wp2
      go_ret2
      exact ⟨by rw [HV.out]; rfl, Keeps.drewN (Qt.refl w) _⟩
    · have hsli := fun W => slice10 s hz (E.size s.data.toList) (by omega) W
      have hpl : (s.extract 10 (10 + E.size s.data.toList)).data.toList = E.pay s.data.toList := by
        rw [dslice, Nat.add_sub_cancel_left]; rfl
      have HP := Lib.hid (of_list hpl)
      have hseal := fun W => refSeal_any st (s.extract 10 (10 + E.size s.data.toList)) W hst
      rw [hpl] at hseal
      have hlp := E.pay_length (raw := s.data.toList) (by omega) (by omega)
      rw [show (s[8].toNat : Int) + 256 * (s[9].toNat : Int) = (s[8].toNat : Int) + (OfNat.ofNat 256 : Int) * (s[9].toNat : Int) from rfl] at hni
      have HNI := Lib.hid hni
      clear hn hni
      by_cases h0 : st = 0
      · subst h0
        have HV := Lib.hid (congrArg openV (open_zero (s := s.data.toList)))
        rw [show E.sealR 0 (E.pay s.data.toList) = ([], 6) from if_pos rfl] at hseal
        have HS := Lib.hid hseal
        clear hd HP hpl hlp hseal
        generalize E.size s.data.toList = n at *
        go_enter Tryd.func99, Tryd.ntmps99
        go_wp2
        go_quiet (fail)
        rw [HNI.out]
        go_wp2_with fail
        refine (HS.out _).mono ?_
        rintro e w1 ⟨rfl, k⟩
        have K := Lib.hid (Qt.trans (Keeps.drewN (Qt.refl w) _) k); clear k HS
        go_wp2
        go_ret2
        exact ⟨by rw [HV.out]; rfl, K.out⟩
      · rw [show E.sealR st (E.pay s.data.toList) = (E.sct st (E.pay s.data.toList), 0) by unfold E.sealR; rw [if_neg h0, if_neg (by omega)]] at hseal
        have HS := Lib.hid hseal
        by_cases hq : s.data.toList = E.sct st (E.pay s.data.toList)
        · have HV := Lib.hid (congrArg openV (open_yes (st := st) (by omega) h0 (by omega) hq))
          have hbe : (E.sct st (E.pay s.data.toList) == s.toList) = true := by
            rw [Lib.toList_data]; exact beq_iff_eq.2 hq.symm
          have hbe2 : (s.toList == E.sct st (E.pay s.data.toList)) = true := by
            rw [Lib.toList_data]; exact beq_iff_eq.2 hq
          clear hd hpl hlp hq hseal
          generalize E.sct st (E.pay s.data.toList) = sc at *
          generalize E.pay s.data.toList = pl at *
          generalize E.size s.data.toList = n at *
          go_enter Tryd.func99, Tryd.ntmps99
          go_wp2
          go_quiet (fail)
          rw [HNI.out]
          go_wp2_with fail
          refine (HS.out _).mono ?_
          rintro e w1 ⟨rfl, k⟩
          have K := Lib.hid (Qt.trans (Keeps.drewN (Qt.refl w) _) k); clear k HS
          go_wp2
          go_ret2
          exact ⟨by rw [HV.out, HP.out]; rfl, K.out⟩
        · have HV := Lib.hid (congrArg openV (open_no hq))
          have hbe : (E.sct st (E.pay s.data.toList) == s.toList) = false := by
            rw [Lib.toList_data]; exact beq_eq_false_iff_ne.2 (fun e => hq e.symm)
          clear hd HP hpl hlp hq hseal
          generalize E.sct st (E.pay s.data.toList) = sc at *
          generalize E.size s.data.toList = n at *
          go_enter Tryd.func99, Tryd.ntmps99
          go_wp2
          go_quiet (fail)
          rw [HNI.out]
          go_wp2_with fail
          refine (HS.out _).mono ?_
          rintro e w1 ⟨rfl, k⟩
          have K := Lib.hid (Qt.trans (Keeps.drewN (Qt.refl w) _) k); clear k HS
          go_wp2
          go_ret2
          exact ⟨by rw [HV.out]; rfl, K.out⟩
  · have HV := Lib.hid (congrArg openV (open_size (st := st) (s := s.data.toList) (by omega)))
    clear hd
    go_enter Tryd.func99, Tryd.ntmps99
    go_wp2
    go_ret2
    exact ⟨by rw [HV.out]; rfl, Qt.refl _⟩

end Go.Proofs.YtggogaaooacooaaDoor
namespace Go.Proofs.YtggogaaooacooaaDoor
open Go.RowKit
set_option maxRecDepth 100000

theorem Errs.e3 {ad : Nat → Addr} {w : World} (h : Errs ad w) : E3 (ad 6) (ad 3) (ad 7) w := ⟨h.cells 5 _ rfl, h.cells 2 _ rfl, h.cells 6 _ rfl⟩
theorem e3V_errs (ad : Nat → Addr) {n : Nat} (h : n = 0 ∨ n = 3 ∨ n = 6 ∨ n = 7) : e3V (ad 6) (ad 3) (ad 7) n = errV ad n := by
  rcases h with rfl | rfl | rfl | rfl <;> rfl
end Go.Proofs.YtggogaaooacooaaDoor
namespace Go.Proofs.YtggogaaooacooaaDoor
open Go.RowKit Go.WideShapes
set_option maxRecDepth 100000

namespace E
def logOk (v i : Int) : Prop := 1 ≤ v ∧ v ≤ 1099511627776 ∧ 0 ≤ i ∧ i < 65536
instance (v i : Int) : Decidable (logOk v i) := inferInstanceAs (Decidable (_ ∧ _))
def logR (v i : Int) : Int × Nat := if logOk v i then (v * 1048576 + i + 1, 0) else (0, 6)
end E

set_option maxHeartbeats 1600000 in
theorem log_any (er el ef : Addr) (v i : Int) (w : World) (hv0 : -9223372036854775808 ≤ v) (hv1 : v ≤ 9223372036854775807) (hi0 : -9223372036854775808 ≤ i) (hi1 : i ≤ 9223372036854775807) (hE : E3 er el ef w) :
    Calls Tryd.prog 75 #[.int .i64 v, .int .i64 i] w fun e w' => e = .returned (.tuple #[.int .u64 (E.logR v i).1, e3V er el ef (E.logR v i).2]) ∧ Qt w w' := by
  have h1 := hE.r
  clear hE
  by_cases hk : E.logOk v i
  · have HV := Lib.hid (show E.logR v i = (v * 1048576 + i + 1, 0) from if_pos hk)
    obtain ⟨a1, a2, a3, a4⟩ := hk
    go_enter Tryd.func75, Tryd.ntmps75
    go_wp2
    go_ret2
    exact ⟨by rw [HV.out]; rfl, Qt.refl _⟩
  · have HV := Lib.hid (show E.logR v i = (0, 6) from if_neg hk)
    have hk2 : v < 1 ∨ 1099511627776 < v ∨ i < 0 ∨ 65536 ≤ i := by unfold E.logOk at hk; omega
    clear hk
    by_cases b1 : v < 1
    · clear hk2
      go_enter Tryd.func75, Tryd.ntmps75
      go_wp2
      go_quiet (fail)
      go_wp2
      go_ret2
      exact ⟨by rw [HV.out]; rfl, Keeps.drewN (Qt.refl w) _⟩
    · by_cases b2 : 1099511627776 < v
      · clear hk2
        go_enter Tryd.func75, Tryd.ntmps75
        go_wp2
        go_quiet (fail)
        go_wp2
        go_ret2
        exact ⟨by rw [HV.out]; rfl, Keeps.drewN (Qt.refl w) _⟩
      · by_cases b3 : i < 0
        · clear hk2
          go_enter Tryd.func75, Tryd.ntmps75
          go_wp2
          go_quiet (fail)
          go_wp2
          go_ret2
          exact ⟨by rw [HV.out]; rfl, Keeps.drewN (Qt.refl w) _⟩
        · have b4 : 65536 ≤ i := by omega
          clear hk2
          go_enter Tryd.func75, Tryd.ntmps75
          go_wp2
          go_quiet (fail)
          go_wp2
          go_ret2
          exact ⟨by rw [HV.out]; rfl, Keeps.drewN (Qt.refl w) _⟩
end Go.Proofs.YtggogaaooacooaaDoor
