/-
  The contract of remitref07.Seal.
  The contracts of remitref07.Open, Ends, Log and Tear.
  The errors' variables, three of them.
-/
import Derived.Test.YtggogaaooacooaaDoorP21
import Derived.Test.YtggogaaooacooaaDoorP22
import Derived.Deep.RegionHeld3
import Derived.Laws.MakeOwn
namespace Go.Proofs.YtggogaaooacooaaDoor
open Go.RowKit Go.WideShapes
set_option maxRecDepth 100000

theorem make_zeros (w : World) (c : Nat) (hc : c ≤ 256) : (Instr.makeSlice 75 (.int .i64 (c : Int)) (.int .i64 (c : Int))).run Tryd.prog w = .ok (.slice (some ⟨w.heap.size, 0, none⟩) c c) (w.alloc (.cells (madeCells #[Value.int .u8 0] c) 5)) := by
  obtain ⟨i0, hi, hz0, hz1, hz2⟩ := info_parts infoU8
  have h := run_make (P := Tryd.prog) w 75 5 i0 (.int .u8 0) Tryd.underlying75 hi hz0 .i64 .i64 c c (by omega) (by omega) (by rw [hz2]; omega) (by omega)
  rw [hz1, Nat.mul_one] at h
  exact h
theorem RawAt.zeros (w : World) (c : Nat) : RawAt (w.alloc (.cells (madeCells #[Value.int .u8 0] c) 5)) w.heap.size (List.replicate c 0) := ⟨fun j d hj => by
  have hn := heap_alloc_new w (.cells (madeCells #[Value.int .u8 0] c) 5)
  obtain ⟨h1, h2⟩ := List.getElem?_eq_some_iff.1 hj
  have h3 : j < c := by simpa using h1
  rw [List.getElem_replicate] at h2
  subst h2
  refine ⟨?_, Go.frozen_of_row _ _ _ _ _ hn⟩
  rw [cell_of_row _ _ _ _ _ _ hn]
  have e := toList_madeCells_one (Value.int .u8 0) c
  rw [← Array.getElem?_toList, e]
  simp [h3]⟩
theorem zeros_conv {w W2 : World} {c : Nat} (k : Qt (w.alloc (.cells (madeCells #[Value.int .u8 0] c) 5)) W2) : (convert 75 9 (.slice (some ⟨w.heap.size, 0, none⟩) c c)).run Tryd.prog W2 = .ok (.string ⟨(List.replicate c 0).toArray⟩) W2 := by
  have h := ((RawAt.zeros w c).kept k (fun e => e)).conv (n := c) (by rw [List.length_replicate]; omega) c
  rw [List.take_of_length_le (by rw [List.length_replicate]; omega)] at h
  exact h

theorem sct_text (st : Nat) (s : ByteArray) (T1 T2 Z T4 : ByteArray) (h1 : T1 = ⟨(E.low 8 st).toArray⟩) (h2 : T2 = ⟨(E.low 2 s.size).toArray⟩) (hz : Z = ⟨(List.replicate (234 - s.size) 0).toArray⟩) (h4 : T4 = ⟨(E.low 4 (C.sum (E.front3 st s.data.toList))).toArray⟩) :
    (T1 ++ T2 ++ s ++ Z).data.toList = E.front3 st s.data.toList ∧ (T1 ++ T2 ++ s ++ Z ++ T4 ++ T1) = ⟨(E.sct st s.data.toList).toArray⟩ := by
  subst h1 h2 hz h4
  have hl : s.data.toList.length = s.size := dlen7 s
  have e : (((⟨(E.low 8 st).toArray⟩ : ByteArray) ++ ⟨(E.low 2 s.size).toArray⟩ ++ s ++ ⟨(List.replicate (234 - s.size) 0).toArray⟩ : ByteArray)).data.toList = E.front3 st s.data.toList := by
    simp only [ByteArray.data_append, Array.toList_append]
    rw [← E.r6, hl]
    unfold E.pad
    rw [hl]
    simp
  refine ⟨e, of_list ?_⟩
  rw [ByteArray.data_append, Array.toList_append, ByteArray.data_append, Array.toList_append, e]
  unfold E.sct
  simp

set_option maxHeartbeats 3200000 in
theorem refSeal_any (st : Nat) (s : ByteArray) (w : World) (hst : st < 18446744073709551616) :
    Calls Tryd.prog 68 #[.int .u64 st, .string s] w fun e w' => e = .returned (.tuple #[.string ⟨(E.sealR st s.data.toList).1.toArray⟩, .int .i64 (E.sealR st s.data.toList).2]) ∧ Qt w w' := by
  have hlen := dlen7 s
  by_cases hz : st = 0
  · subst hz
    have HV := Lib.hid (show E.sealR 0 s.data.toList = ([], 6) from if_pos rfl)
    go_enter Tryd.func68, Tryd.ntmps68
    go_wp2
    go_ret2
    exact ⟨by rw [HV.out]; rfl, Qt.refl w⟩
  · by_cases hb : 234 < s.size
    · have HV := Lib.hid (show E.sealR st s.data.toList = ([], 3) by unfold E.sealR; rw [if_neg hz, if_pos (by omega)])
      go_enter Tryd.func68, Tryd.ntmps68
      go_wp2
      go_ret2
      exact ⟨by rw [HV.out]; rfl, Qt.refl w⟩
    · have HV := Lib.hid (show E.sealR st s.data.toList = (E.sct st s.data.toList, 0) by unfold E.sealR; rw [if_neg hz, if_neg (by omega)])
      have hsum := C.extend_lt (x := 0) (by decide) (E.front3 st s.data.toList)
      have hx : C.sum (E.front3 st s.data.toList) < 4294967296 := hsum
      obtain ⟨T1, h1⟩ : ∃ T : ByteArray, T = ⟨(E.low 8 st).toArray⟩ := ⟨_, rfl⟩
      obtain ⟨T2, h2⟩ : ∃ T : ByteArray, T = ⟨(E.low 2 s.size).toArray⟩ := ⟨_, rfl⟩
      obtain ⟨c, hc⟩ : ∃ c, c = 234 - s.size := ⟨_, rfl⟩
      obtain ⟨Z, h3⟩ : ∃ T : ByteArray, T = ⟨(List.replicate c 0).toArray⟩ := ⟨_, rfl⟩
      obtain ⟨T4, h4⟩ : ∃ T : ByteArray, T = ⟨(E.low 4 (C.sum (E.front3 st s.data.toList))).toArray⟩ := ⟨_, rfl⟩
      obtain ⟨he, hf⟩ := sct_text st s T1 T2 Z T4 h1 h2 (hc ▸ h3) h4
      have z1 : T1.size = 8 := by rw [h1]; exact (List.size_toArray ..).trans (E.low_length _ _)
      have z2 : T2.size = 2 := by rw [h2]; exact (List.size_toArray ..).trans (E.low_length _ _)
      have z3 : Z.size = c := by rw [h3]; exact (List.size_toArray ..).trans (List.length_replicate ..)
      have z4 : T4.size = 4 := by rw [h4]; exact (List.size_toArray ..).trans (E.low_length _ _)
      have L1 := Lib.hid (show ∀ W, Calls Tryd.prog 84 #[.int .u64 st, .int .i64 8] W (fun e w' => e = .returned (.string ⟨(E.low 8 st).toArray⟩) ∧ Qt W w') from fun W => refLow_any st 8 W hst (by omega))
      have L2 := Lib.hid (show ∀ W, Calls Tryd.prog 84 #[.int .u64 s.size, .int .i64 2] W (fun e w' => e = .returned (.string ⟨(E.low 2 s.size).toArray⟩) ∧ Qt W w') from fun W => refLow_any s.size 2 W (by omega) (by omega))
      have L4 := Lib.hid (fun W => refLow_any (C.sum (E.front3 st s.data.toList)) 4 W (by omega) (by omega))
      rw [← h1] at L1
      rw [← h2] at L2
      rw [← h4] at L4
      have RS := Lib.hid (fun W => refSum_any (T1 ++ T2 ++ s ++ Z) W (by simp only [ByteArray.size_append]; unfold maxLen; omega))
      rw [he] at RS
      have HF := Lib.hid hf
      have HZ := Lib.hid (fun (w W2 : World) (k : Qt (w.alloc (.cells (madeCells #[Value.int .u8 0] c) 5)) W2) => zeros_conv k)
      rw [← h3] at HZ
      have HMK := fun W => make_zeros W c (by omega)
      have ec : 234 - (s.size : Int) = (c : Int) := by omega
      have m1 : ¬ 9223372036854775807 < T1.size + T2.size := by omega
      have m2 : ¬ 9223372036854775807 < T1.size + T2.size + s.size := by omega
      have m3 : ¬ 9223372036854775807 < T1.size + T2.size + s.size + Z.size := by omega
      have m4 : ¬ 9223372036854775807 < T1.size + T2.size + s.size + Z.size + T4.size := by omega
      have m5 : ¬ 9223372036854775807 < T1.size + T2.size + s.size + Z.size + T4.size + T1.size := by omega
      have hw1 : IntKind.u64.wrap (s.size : Int) = (s.size : Int) := IntWalk.u64_in _ (by omega)
      have hw2 : IntKind.i64.wrap (c : Int) = (c : Int) := IntWalk.i64_in _ (by omega)
      have m2' : ¬ 9223372036854775807 < (T1 ++ T2).size + s.size := by rw [ByteArray.size_append]; exact m2
      have m3' : ¬ 9223372036854775807 < (T1 ++ T2 ++ s).size + Z.size := by rw [ByteArray.size_append, ByteArray.size_append]; exact m3
      have m4' : ¬ 9223372036854775807 < (T1 ++ T2 ++ s ++ Z).size + T4.size := by rw [ByteArray.size_append, ByteArray.size_append, ByteArray.size_append]; exact m4
      have m5' : ¬ 9223372036854775807 < (T1 ++ T2 ++ s ++ Z ++ T4).size + T1.size := by rw [ByteArray.size_append, ByteArray.size_append, ByteArray.size_append, ByteArray.size_append]; exact m5
      clear hlen hsum h1 h2 h3 h4 he hf hc z1 z2 z3 z4
      generalize C.sum (E.front3 st s.data.toList) = x at *
      have c1 := HZ.out w.drew _ (Qt.refl _)
      have c2 := HZ.out w _ (Keeps.drew (Qt.refl _))
      go_enter Tryd.func68, Tryd.ntmps68
      go_wp2
      go_region_held (fun W' => Qt w W') (first | assumption | exact (Qt.refl w).drew | exact Keeps.drew ((Qt.refl w).alloc _) | (refine Keeps.alloc ?_ _; assumption) | (refine Qt.trans ?_ (by assumption); first | assumption | exact Keeps.drew ((Qt.refl w).alloc _)))
        (first
          | (go_at_call 84; with_reducible refine (L1.out _).mono ?_; rintro e wa ⟨rfl, ka⟩; have ca := HZ.out wa _ (Qt.refl _); first | (with_reducible have cb := HZ.out w.drew wa ka) | (with_reducible have cb := HZ.out w wa (Qt.trans (Keeps.drew (Qt.refl _)) ka)) | skip)
          | (go_at_call 84; with_reducible refine (L2.out _).mono ?_; rintro e wb ⟨rfl, kb⟩; have cc := HZ.out wb _ (Qt.refl _); first | (with_reducible have cd := HZ.out w.drew wb (Qt.trans ka kb)) | (with_reducible have cd := HZ.out w wb (Qt.trans (Keeps.drew (Qt.refl _)) (Qt.trans ka kb))) | (with_reducible have cd := HZ.out wa wb kb) | skip))
      all_goals
        rename_i hHeldQ
        have HQ := Lib.hid hHeldQ
        clear hHeldQ
        go_wp2_with fail
        refine (RS.out _).mono ?_
        rintro e wd ⟨rfl, rfl⟩
        go_wp2_with fail
        refine (L4.out _).mono ?_
        rintro e we ⟨rfl, ke⟩
        have HQ2 := Lib.hid (Qt.trans HQ.out ke)
        clear ke HQ
        go_wp2_with fail
        refine (L1.out _).mono ?_
        rintro e wf ⟨rfl, kf⟩
        have HQ3 := Lib.hid (Qt.trans HQ2.out kf)
        clear kf HQ2
        go_wp2
        go_ret2
        exact ⟨by rw [HV.out, ← HF.out]; rfl, HQ3.out⟩
end Go.Proofs.YtggogaaooacooaaDoor
namespace Go.Proofs.YtggogaaooacooaaDoor
open Go.RowKit Go.WideShapes
set_option maxRecDepth 100000

theorem size_two (s : ByteArray) (h8 : 8 < s.size) (h9 : 9 < s.size) : E.size s.data.toList = s[8].toNat + 256 * s[9].toNat := by
  have l := dlen7 s
  have e : (s.data.toList.drop 8).take 2 = [s[8], s[9]] := by
    rw [List.drop_eq_getElem_cons (by omega), List.drop_eq_getElem_cons (by omega)]
    rfl
  unfold E.size
  rw [e, E.num, E.num, E.num]
  rfl

set_option maxHeartbeats 1600000 in
theorem refOpen_any (st : Nat) (s : ByteArray) (w : World) (hst : st < 18446744073709551616) :
    Calls Tryd.prog 99 #[.int .u64 st, .string s] w fun e w' => e = .returned (openV (E.openS st s.data.toList)) ∧ Qt w w' := by
  have hd := dlen7 s
  by_cases hz : s.size = 256
  · have h8 : 8 < s.size := by omega
    have h9 : 9 < s.size := by omega
    have hn := size_two s h8 h9
    have hsl := size_lt s.data.toList
    have b8 := s[8].toNat_lt
    have b9 := s[9].toNat_lt
    have hni : (s[8].toNat : Int) + 256 * (s[9].toNat : Int) = (E.size s.data.toList : Int) := by omega
    by_cases h234 : 234 < E.size s.data.toList
    · have HV := Lib.hid (congrArg openV (open_wide (st := st) h234))
      have h234' : 234 < (s[8].toNat : Int) + 256 * (s[9].toNat : Int) := by omega
      clear hd hn hni h234 hsl
      go_enter Tryd.func99, Tryd.ntmps99
      go_wp2
      go_quiet (fail)
      go_wp2
      go_ret2
      exact ⟨by rw [HV.out]; rfl, Keeps.drewN (Qt.refl w) _⟩
    · have hsli := fun W => slice10 s hz (E.size s.data.toList) (by omega) W
      have hpl : (s.extract 10 (10 + E.size s.data.toList)).data.toList = E.pay s.data.toList := by
        rw [dslice, Nat.add_sub_cancel_left]; rfl
      have HP := Lib.hid (of_list hpl)
      have hseal := fun W => refSeal_any st (s.extract 10 (10 + E.size s.data.toList)) W hst
      rw [hpl] at hseal
      have hlp := E.pay_length (raw := s.data.toList) (by omega) (by omega)
      rw [show (s[8].toNat : Int) + 256 * (s[9].toNat : Int) = (s[8].toNat : Int) + (OfNat.ofNat 256 : Int) * (s[9].toNat : Int) from rfl] at hni
      have HNI := Lib.hid hni
      clear hn hni
      by_cases h0 : st = 0
      · subst h0
        have HV := Lib.hid (congrArg openV (open_zero (s := s.data.toList)))
        rw [show E.sealR 0 (E.pay s.data.toList) = ([], 6) from if_pos rfl] at hseal
        have HS := Lib.hid hseal
        clear hd HP hpl hlp hseal
        generalize E.size s.data.toList = n at *
        go_enter Tryd.func99, Tryd.ntmps99
        go_wp2
        go_quiet (fail)
        rw [HNI.out]
        go_wp2_with fail
        refine (HS.out _).mono ?_
        rintro e w1 ⟨rfl, k⟩
        have K := Lib.hid (Qt.trans (Keeps.drewN (Qt.refl w) _) k); clear k HS
        go_wp2
        go_ret2
        exact ⟨by rw [HV.out]; rfl, K.out⟩
      · rw [show E.sealR st (E.pay s.data.toList) = (E.sct st (E.pay s.data.toList), 0) by unfold E.sealR; rw [if_neg h0, if_neg (by omega)]] at hseal
        have HS := Lib.hid hseal
        by_cases hq : s.data.toList = E.sct st (E.pay s.data.toList)
        · have HV := Lib.hid (congrArg openV (open_yes (st := st) (by omega) h0 (by omega) hq))
          have hbe : (E.sct st (E.pay s.data.toList) == s.toList) = true := by
            rw [Lib.toList_data]; exact beq_iff_eq.2 hq.symm
          have hbe2 : (s.toList == E.sct st (E.pay s.data.toList)) = true := by
            rw [Lib.toList_data]; exact beq_iff_eq.2 hq
          clear hd hpl hlp hq hseal
          generalize E.sct st (E.pay s.data.toList) = sc at *
          generalize E.pay s.data.toList = pl at *
          generalize E.size s.data.toList = n at *
          go_enter Tryd.func99, Tryd.ntmps99
          go_wp2
          go_quiet (fail)
          rw [HNI.out]
          go_wp2_with fail
          refine (HS.out _).mono ?_
          rintro e w1 ⟨rfl, k⟩
          have K := Lib.hid (Qt.trans (Keeps.drewN (Qt.refl w) _) k); clear k HS
          go_wp2
          go_ret2
          exact ⟨by rw [HV.out, HP.out]; rfl, K.out⟩
        · have HV := Lib.hid (congrArg openV (open_no hq))
          have hbe : (E.sct st (E.pay s.data.toList) == s.toList) = false := by
            rw [Lib.toList_data]; exact beq_eq_false_iff_ne.2 (fun e => hq e.symm)
          clear hd HP hpl hlp hq hseal
          generalize E.sct st (E.pay s.data.toList) = sc at *
          generalize E.size s.data.toList = n at *
          go_enter Tryd.func99, Tryd.ntmps99
          go_wp2
          go_quiet (fail)
          rw [HNI.out]
          go_wp2_with fail
          refine (HS.out _).mono ?_
          rintro e w1 ⟨rfl, k⟩
          have K := Lib.hid (Qt.trans (Keeps.drewN (Qt.refl w) _) k); clear k HS
          go_wp2
          go_ret2
          exact ⟨by rw [HV.out]; rfl, K.out⟩
  · have HV := Lib.hid (congrArg openV (open_size (st := st) (s := s.data.toList) (by omega)))
    clear hd
    go_enter Tryd.func99, Tryd.ntmps99
    go_wp2
    go_ret2
    exact ⟨by rw [HV.out]; rfl, Qt.refl _⟩

end Go.Proofs.YtggogaaooacooaaDoor
namespace Go.Proofs.YtggogaaooacooaaDoor
open Go.RowKit
set_option maxRecDepth 100000

theorem Errs.e3 {ad : Nat → Addr} {w : World} (h : Errs ad w) : E3 (ad 6) (ad 3) (ad 7) w := ⟨h.cells 5 _ rfl, h.cells 2 _ rfl, h.cells 6 _ rfl⟩
theorem e3V_errs (ad : Nat → Addr) {n : Nat} (h : n = 0 ∨ n = 3 ∨ n = 6 ∨ n = 7) : e3V (ad 6) (ad 3) (ad 7) n = errV ad n := by
  rcases h with rfl | rfl | rfl | rfl <;> rfl
end Go.Proofs.YtggogaaooacooaaDoor
