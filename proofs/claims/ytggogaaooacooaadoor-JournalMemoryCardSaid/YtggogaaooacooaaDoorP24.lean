/-
  The contract of sector.Seal.
  The contracts of sector.Open, Ends, Log and Tear.
  The contract of remitref07.Seal.
-/
import Derived.Test.YtggogaaooacooaaDoorP23
import Derived.Lib.SlBuf
import Derived.StillTailTactics
import Derived.Lib.ReplaceLaws
import Derived.Deep.RegionHeld3
import Derived.Laws.MakeOwn
namespace Go.Proofs.YtggogaaooacooaaDoor
open Go.RowKit Go.WideShapes
set_option maxRecDepth 100000

/-- Three errors' variables. -/
structure E3 (er el ef : Addr) (w : World) : Prop where
  r : w.cell? ⟨0, 0, none⟩ = some (.iface 168 (.pointer (some er)))
  l : w.cell? ⟨6, 0, none⟩ = some (.iface 168 (.pointer (some el)))
  f : w.cell? ⟨1, 0, none⟩ = some (.iface 168 (.pointer (some ef)))
theorem E3.qt {er el ef : Addr} {w w' : World} (h : E3 er el ef w) (k : Qt w w') : E3 er el ef w' := ⟨k.cellv h.r, k.cellv h.l, k.cellv h.f⟩
def e3V (er el ef : Addr) (n : Nat) : Value := if n = 0 then .nilIface else .iface 168 (.pointer (some (if n = 6 then er else if n = 3 then el else ef)))

namespace E
def sealR (st : Nat) (p : List UInt8) : List UInt8 × Nat := if st = 0 then ([], 6) else if 234 < p.length then ([], 3) else (sct st p, 0)
theorem r1 (st : Nat) : put (List.replicate 256 0) 0 (low 8 st) = low 8 st ++ List.replicate 248 0 := by
  have h := put_zeros [] (low 8 st) (m := 256)
  rw [low_length] at h
  exact h
theorem r2 (st n : Nat) : put (low 8 st ++ List.replicate 248 0) 8 (low 2 n) = (low 8 st ++ low 2 n) ++ List.replicate 246 0 := by
  have h := put_zeros (low 8 st) (low 2 n) (m := 248)
  rw [low_length, low_length] at h
  exact h
theorem r3 (st n : Nat) (p : List UInt8) (hp : p.length ≤ 234) : put ((low 8 st ++ low 2 n) ++ List.replicate 246 0) 10 p = ((low 8 st ++ low 2 n) ++ pad p) ++ List.replicate 12 0 := by
  have h := put_zeros (low 8 st ++ low 2 n) p (m := 246)
  rw [List.length_append, low_length, low_length] at h
  rw [h]
  unfold pad
  rw [show 246 - p.length = (234 - p.length) + 12 by omega, ← List.replicate_append_replicate]
  simp
theorem r4 (st n x : Nat) (p : List UInt8) (hp : p.length ≤ 234) : put (((low 8 st ++ low 2 n) ++ pad p) ++ List.replicate 12 0) 244 (low 4 x) = (((low 8 st ++ low 2 n) ++ pad p) ++ low 4 x) ++ List.replicate 8 0 := by
  have h := put_zeros ((low 8 st ++ low 2 n) ++ pad p) (low 4 x) (m := 12)
  rw [List.length_append, List.length_append, low_length, low_length, low_length, pad_length hp] at h
  exact h
theorem r5 (st n x : Nat) (p : List UInt8) (hp : p.length ≤ 234) : put ((((low 8 st ++ low 2 n) ++ pad p) ++ low 4 x) ++ List.replicate 8 0) 248 (low 8 st) = (((low 8 st ++ low 2 n) ++ pad p) ++ low 4 x) ++ low 8 st := by
  have h := put_zeros (((low 8 st ++ low 2 n) ++ pad p) ++ low 4 x) (low 8 st) (m := 8)
  simp only [List.length_append, low_length, pad_length hp] at h
  rw [h]; simp
theorem r6 (st : Nat) (p : List UInt8) : (low 8 st ++ low 2 p.length) ++ pad p = front3 st p := by unfold front3; simp
theorem r7 (st : Nat) (p : List UInt8) : (((low 8 st ++ low 2 p.length) ++ pad p) ++ low 4 (C.sum (front3 st p))) ++ low 8 st = sct st p := by unfold sct front3; simp
end E

theorem zero256 : Tryd.zeroCells101 = Array.replicate 256 (.int .u8 0) := by kernel_rfl
theorem RawAt.made (w : World) : RawAt (w.alloc (.cells Tryd.zeroCells101 101)) w.heap.size (List.replicate 256 0) := ⟨fun j c hj => by
  have hn := heap_alloc_new w (.cells Tryd.zeroCells101 101)
  obtain ⟨h1, h2⟩ := List.getElem?_eq_some_iff.1 hj
  have h3 : j < 256 := by simpa using h1
  rw [List.getElem_replicate] at h2
  subst h2
  refine ⟨?_, Go.frozen_of_row _ _ _ _ _ hn⟩
  rw [cell_of_row _ _ _ _ _ _ hn, zero256]
  simp [h3]⟩

set_option maxHeartbeats 3200000 in
theorem seal_any (er el ef : Addr) (st : Nat) (s : ByteArray) (w : World) (hst : st < 18446744073709551616) (hE : E3 er el ef w) (hT : Tab w) :
    Calls Tryd.prog 76 #[.int .u64 st, .string s] w fun e w' => e = .returned (.tuple #[.string ⟨(E.sealR st s.data.toList).1.toArray⟩, e3V er el ef (E.sealR st s.data.toList).2]) ∧ Qt w w' := by
  have hlen : s.data.toList.length = s.size := by simp
  have h1 := hE.r
  have h2 := hE.l
  by_cases hz : st = 0
  · subst hz
    have HV := Lib.hid (show E.sealR 0 s.data.toList = ([], 6) from if_pos rfl)
    clear hT hE hlen h2
    go_enter Tryd.func76, Tryd.ntmps76
    go_wp2
    go_quiet (fail)
    go_wp2
    go_ret2
    exact ⟨by rw [HV.out]; rfl, Keeps.drewN (Qt.refl w) _⟩
  · by_cases hb : 234 < s.size
    · have HV := Lib.hid (show E.sealR st s.data.toList = ([], 3) by unfold E.sealR; rw [if_neg hz, if_pos (by omega)])
      clear hT hE hlen h1
      go_enter Tryd.func76, Tryd.ntmps76
      go_wp2
      go_quiet (fail)
      go_wp2
      go_ret2
      exact ⟨by rw [HV.out]; rfl, Keeps.drewN (Qt.refl w) _⟩
    · have HV := Lib.hid (show E.sealR st s.data.toList = (E.sct st s.data.toList, 0) by unfold E.sealR; rw [if_neg hz, if_neg (by omega)])
      have hp : s.data.toList.length ≤ 234 := by omega
      have HT := Lib.hid hT
      have HM := Lib.hid (RawAt.made w)
      have HQ := Lib.hid (show Since w.heap.size w (w.alloc (.cells Tryd.zeroCells101 101)) from Qt.since ((Qt.refl w).alloc _))
      have hsum := C.extend_lt (x := 0) (by decide) (E.front3 st s.data.toList)
      have HS := Lib.hid (show C.sum (E.front3 st s.data.toList) < 4294967296 from hsum)
      clear hT hE h1 h2 hsum
      go_enter Tryd.func76, Tryd.ntmps76
      go_wp2_with fail
      refine (putLow_any _ w.heap.size 0 8 256 st _ HM.out (by rw [List.length_replicate]; omega) (by omega) hst (by omega)).mono ?_
      rintro e w1 ⟨rfl, m, k⟩
      rw [E.r1] at m
      have M1 := Lib.hid m
      have Q1 := Lib.hid (HQ.out.step k (fun i e => Nat.le_of_eq e.symm))
      clear m k HM HQ
      go_wp2_with fail
      refine (putLow_any w1 w.heap.size 8 2 248 s.size _ M1.out (by simp [E.low_length]) (by omega) (by omega) (by omega)).mono ?_
      rintro e w2 ⟨rfl, m, k⟩
      rw [E.r2] at m
      have M2 := Lib.hid m
      have Q2 := Lib.hid (Q1.out.step k (fun i e => Nat.le_of_eq e.symm))
      clear m k M1 Q1
      obtain ⟨w3, hcp, m, k⟩ := M2.out.copy (o := 10) s (n := 246) (by omega) (by simp [E.low_length]) 246
      rw [E.r3 _ _ _ hp] at m
      have M3 := Lib.hid m
      have Q3 := Lib.hid (Q2.out.step k (fun i e => Nat.le_of_eq e.symm))
      clear m k M2 Q2
      go_wp2_with (refine Lib.wpList_copy_run _ rfl _ _ 75 9 rfl _ _ rfl rfl hcp ?_)
      clear hcp
      refine wp_region_still_tail 5 (by kernel_rfl) (by kernel_rfl) ?_
      simp only [List.take_succ_cons, List.take_zero, List.drop_succ_cons, List.drop_zero]
      have M4 := Lib.hid M3.out.drew
      have Q4 := Lib.hid (show Since w.heap.size w w3.drew from Keeps.drew Q3.out)
      clear M3 Q3
      change wpStill _ _ w3.drew _ _ _
      have hcv := M4.out.conv (n := 244) (by simp [E.low_length, E.pad_length hp]) 256
      rw [List.take_left' (by simp [E.low_length, E.pad_length hp]), ← hlen, E.r6] at hcv
      have hsm := sum_any ⟨(E.front3 st s.data.toList).toArray⟩ w3.drew (by show (E.front3 st s.data.toList).toArray.size ≤ maxLen; rw [List.size_toArray, E.front3_length _ hp]; unfold maxLen; omega) (HT.out.qt (Since.qt Q4.out))
      rw [show (⟨(E.front3 st s.data.toList).toArray⟩ : ByteArray).data.toList = E.front3 st s.data.toList from rfl] at hsm
      have HX := Lib.hid HS.out
      have hX := HS.out
      have R7 := Lib.hid (E.r7 st s.data.toList)
      rw [hlen] at R7
      generalize C.sum (E.front3 st s.data.toList) = x at *
      generalize E.front3 st s.data.toList = fr at *
      still_step
      still_step
      still_step
      still_call (hsm.mono (fun e w'' h => ⟨h.1, h.2.symm⟩))
      still_step
      refine wpStill_nil ?_
      change wpList _ _ _ _ _ w3.drew
      clear hsm hcv
      generalize w3.drew = w4 at *
      go_wp2_with fail
      refine (putLow_any w4 w.heap.size 244 4 12 x _ M4.out (by simp [E.low_length, E.pad_length hp]) (by omega) (by omega) (by omega)).mono ?_
      rintro e w5 ⟨rfl, m, k⟩
      rw [E.r4 _ _ _ _ hp] at m
      have M5 := Lib.hid m
      have Q5 := Lib.hid (Q4.out.step k (fun i e => Nat.le_of_eq e.symm))
      clear m k M4 Q4
      go_wp2_with fail
      refine (putLow_any w5 w.heap.size 248 8 8 st _ M5.out (by simp [E.low_length, E.pad_length hp]) (by omega) hst (by omega)).mono ?_
      rintro e w6 ⟨rfl, m, k⟩
      rw [E.r5 _ _ _ _ hp, R7.out] at m
      have Q6 := Lib.hid (Q5.out.step k (fun i e => Nat.le_of_eq e.symm))
      clear k M5 Q5
      have hcv := m.conv (n := 256) (by rw [E.sct_length _ hp]; omega) 256
      rw [List.take_of_length_le (by rw [E.sct_length _ hp]; omega)] at hcv
      clear m
      generalize E.sct st s.data.toList = sc at *
      go_wp2
      go_ret2
      exact ⟨by rw [HV.out]; rfl, Since.qt Q6.out⟩
end Go.Proofs.YtggogaaooacooaaDoor
namespace Go.Proofs.YtggogaaooacooaaDoor
open Go.RowKit Go.WideShapes
set_option maxRecDepth 100000

theorem dslice (s : ByteArray) (a b : Nat) : (s.extract a b).data.toList = (s.data.toList.drop a).take (b - a) := Lib.extract_data s a b
theorem dlen7 (s : ByteArray) : s.data.toList.length = s.size := by simp
theorem of_list {s : ByteArray} {l : List UInt8} (h : s.data.toList = l) : s = ⟨l.toArray⟩ := by subst h; rfl
theorem bytes_eq7 {D E : ByteArray} : (D.toList == E.toList) = decide (D.data.toList = E.data.toList) := by
  rw [Lib.toList_data, Lib.toList_data, Bool.eq_iff_iff, beq_iff_eq, decide_eq_true_iff]
theorem bytes_ne7 {D E : ByteArray} : (D.toList != E.toList) = decide (D.data.toList ≠ E.data.toList) := by
  unfold bne; rw [bytes_eq7]; simp

/-- 's[10:10+n]'. -/
theorem slice10 (s : ByteArray) (hz : s.size = 256) (n : Nat) (hn : n ≤ 234) (wx : World) : (Instr.slice 9 (.string s) (some (.int .i64 10)) (some (.int .i64 (10 + (n : Int)))) none).run Tryd.prog wx = .ok (.string (s.extract 10 (10 + n))) wx := by
  have := run_slice_string (P := Tryd.prog) wx 9 s .i64 .i64 10 (10 + (n : Int)) Tryd.underlying9 (by omega) (by omega) (by omega)
  rw [this, show (10 + (n : Int)).toNat = 10 + n by omega, show (10 : Int).toNat = 10 by rfl]

def openV : Option (List UInt8) → Value
  | none => .tuple #[.string ⟨#[]⟩, .bool false]
  | some p => .tuple #[.string ⟨p.toArray⟩, .bool true]

theorem open_size {st : Nat} {s : List UInt8} (h : s.length ≠ 256) : E.openS st s = none := if_neg (fun k => h k.1)
theorem open_wide {st : Nat} {s : List UInt8} (h : 234 < E.size s) : E.openS st s = none := if_neg (fun k => by have := k.2.2.1; omega)
theorem open_zero {s : List UInt8} : E.openS 0 s = none := if_neg (fun k => k.2.1 rfl)
theorem open_no {st : Nat} {s : List UInt8} (h : s ≠ E.sct st (E.pay s)) : E.openS st s = none := if_neg (fun k => h k.2.2.2)
theorem open_yes {st : Nat} {s : List UInt8} (h1 : s.length = 256) (h2 : st ≠ 0) (h3 : E.size s ≤ 234) (h : s = E.sct st (E.pay s)) : E.openS st s = some (E.pay s) := if_pos ⟨h1, h2, h3, h⟩

theorem size_lt (l : List UInt8) : E.size l < 65536 := by
  have h := E.num_lt ((l.drop 8).take 2)
  have h2 : ((l.drop 8).take 2).length ≤ 2 := by rw [List.length_take]; omega
  exact Nat.lt_of_lt_of_le h (Nat.le_trans (Nat.pow_le_pow_right (by decide) h2) (by decide))

set_option maxHeartbeats 1600000 in
theorem open_any (er el ef : Addr) (st : Nat) (s : ByteArray) (w : World) (hst : st < 18446744073709551616) (hE : E3 er el ef w) (hT : Tab w) :
    Calls Tryd.prog 93 #[.int .u64 st, .string s] w fun e w' => e = .returned (openV (E.openS st s.data.toList)) ∧ Qt w w' := by
  have hd := dlen7 s
  by_cases hz : s.size = 256
  · have hlow := low_any (s.extract 8 10) w (by rw [ByteArray.size_extract]; omega)
    rw [dslice] at hlow
    have hn : E.num ((s.data.toList.drop 8).take (10 - 8)) = E.size s.data.toList := rfl
    rw [hn] at hlow
    clear hn
    have hsl := size_lt s.data.toList
    by_cases h234 : 234 < E.size s.data.toList
    · have HV := Lib.hid (congrArg openV (open_wide (st := st) h234))
      clear hE hT hd
      generalize E.size s.data.toList = n at *
      go_enter Tryd.func93, Tryd.ntmps93
      go_wp2_with fail
      refine hlow.mono ?_
      rintro e w1 ⟨rfl, rfl⟩
      go_wp2
      go_ret2
      exact ⟨by rw [HV.out]; rfl, Qt.refl _⟩
    · have hsli := slice10 s hz (E.size s.data.toList) (by omega)
      have hpl : (s.extract 10 (10 + E.size s.data.toList)).data.toList = E.pay s.data.toList := by
        rw [dslice, Nat.add_sub_cancel_left]; rfl
      have HP := Lib.hid (of_list hpl)
      have hseal := seal_any er el ef st (s.extract 10 (10 + E.size s.data.toList)) w hst hE hT
      rw [hpl] at hseal
      have hlp := E.pay_length (raw := s.data.toList) (by omega) (by omega)
      by_cases h0 : st = 0
      · subst h0
        have HV := Lib.hid (congrArg openV (open_zero (s := s.data.toList)))
        rw [show E.sealR 0 (E.pay s.data.toList) = ([], 6) from if_pos rfl, show e3V er el ef 6 = .iface 168 (.pointer (some er)) from rfl] at hseal
        clear hE hT hd HP hpl hlp
        generalize E.size s.data.toList = n at *
        go_enter Tryd.func93, Tryd.ntmps93
        go_wp2_with fail
        refine hlow.mono ?_
        rintro e w1 ⟨rfl, rfl⟩
        clear hlow
        go_wp2_with fail
        refine hseal.mono ?_
        rintro e w1 ⟨rfl, k⟩
        have K := Lib.hid k; clear k hseal
        go_wp2
        go_ret2
        exact ⟨by rw [HV.out]; rfl, K.out⟩
      · rw [show E.sealR st (E.pay s.data.toList) = (E.sct st (E.pay s.data.toList), 0) by unfold E.sealR; rw [if_neg h0, if_neg (by omega)], show e3V er el ef 0 = .nilIface from rfl] at hseal
        by_cases hq : s.data.toList = E.sct st (E.pay s.data.toList)
        · have HV := Lib.hid (congrArg openV (open_yes (st := st) (by omega) h0 (by omega) hq))
          have hbe : (s.toList == E.sct st (E.pay s.data.toList)) = true := by
            rw [Lib.toList_data]; exact beq_iff_eq.2 hq
          clear hE hT hd hpl hlp hq
          generalize E.sct st (E.pay s.data.toList) = sc at *
          generalize E.pay s.data.toList = pl at *
          generalize E.size s.data.toList = n at *
          go_enter Tryd.func93, Tryd.ntmps93
          go_wp2_with fail
          refine hlow.mono ?_
          rintro e w1 ⟨rfl, rfl⟩
          clear hlow
          go_wp2_with fail
          refine hseal.mono ?_
          rintro e w1 ⟨rfl, k⟩
          have K := Lib.hid k; clear k hseal
          go_wp2
          go_ret2
          exact ⟨by rw [HV.out, HP.out]; rfl, K.out⟩
        · have HV := Lib.hid (congrArg openV (open_no hq))
          have hbe : (s.toList == E.sct st (E.pay s.data.toList)) = false := by
            rw [Lib.toList_data]; exact beq_eq_false_iff_ne.2 hq
          clear hE hT hd HP hpl hlp hq
          generalize E.sct st (E.pay s.data.toList) = sc at *
          generalize E.size s.data.toList = n at *
          go_enter Tryd.func93, Tryd.ntmps93
          go_wp2_with fail
          refine hlow.mono ?_
          rintro e w1 ⟨rfl, rfl⟩
          clear hlow
          go_wp2_with fail
          refine hseal.mono ?_
          rintro e w1 ⟨rfl, k⟩
          have K := Lib.hid k; clear k hseal
          go_wp2
          go_ret2
          exact ⟨by rw [HV.out]; rfl, K.out⟩
  · have HV := Lib.hid (congrArg openV (open_size (st := st) (s := s.data.toList) (by omega)))
    clear hE hT hd
    go_enter Tryd.func93, Tryd.ntmps93
    go_wp2
    go_ret2
    exact ⟨by rw [HV.out]; rfl, Qt.refl _⟩

theorem low_q (s : ByteArray) (w : World) (hs : s.size ≤ 8) : Calls Tryd.prog 102 #[.string s] w fun e w' => e = .returned (.int .u64 (E.num s.data.toList : Nat)) ∧ w' = w := (low_any s w hs).mono fun _ _ h => ⟨h.1, h.2.symm⟩
end Go.Proofs.YtggogaaooacooaaDoor
namespace Go.Proofs.YtggogaaooacooaaDoor
open Go.RowKit Go.WideShapes
set_option maxRecDepth 100000

theorem make_zeros (w : World) (c : Nat) (hc : c ≤ 256) : (Instr.makeSlice 75 (.int .i64 (c : Int)) (.int .i64 (c : Int))).run Tryd.prog w = .ok (.slice (some ⟨w.heap.size, 0, none⟩) c c) (w.alloc (.cells (madeCells #[Value.int .u8 0] c) 5)) := by
  obtain ⟨i0, hi, hz0, hz1, hz2⟩ := info_parts infoU8
  have h := run_make (P := Tryd.prog) w 75 5 i0 (.int .u8 0) Tryd.underlying75 hi hz0 .i64 .i64 c c (by omega) (by omega) (by rw [hz2]; omega) (by omega)
  rw [hz1, Nat.mul_one] at h
  exact h
theorem RawAt.zeros (w : World) (c : Nat) : RawAt (w.alloc (.cells (madeCells #[Value.int .u8 0] c) 5)) w.heap.size (List.replicate c 0) := ⟨fun j d hj => by
  have hn := heap_alloc_new w (.cells (madeCells #[Value.int .u8 0] c) 5)
  obtain ⟨h1, h2⟩ := List.getElem?_eq_some_iff.1 hj
  have h3 : j < c := by simpa using h1
  rw [List.getElem_replicate] at h2
  subst h2
  refine ⟨?_, Go.frozen_of_row _ _ _ _ _ hn⟩
  rw [cell_of_row _ _ _ _ _ _ hn]
  have e := toList_madeCells_one (Value.int .u8 0) c
  rw [← Array.getElem?_toList, e]
  simp [h3]⟩
theorem zeros_conv {w W2 : World} {c : Nat} (k : Qt (w.alloc (.cells (madeCells #[Value.int .u8 0] c) 5)) W2) : (convert 75 9 (.slice (some ⟨w.heap.size, 0, none⟩) c c)).run Tryd.prog W2 = .ok (.string ⟨(List.replicate c 0).toArray⟩) W2 := by
  have h := ((RawAt.zeros w c).kept k (fun e => e)).conv (n := c) (by rw [List.length_replicate]; omega) c
  rw [List.take_of_length_le (by rw [List.length_replicate]; omega)] at h
  exact h

theorem sct_text (st : Nat) (s : ByteArray) (T1 T2 Z T4 : ByteArray) (h1 : T1 = ⟨(E.low 8 st).toArray⟩) (h2 : T2 = ⟨(E.low 2 s.size).toArray⟩) (hz : Z = ⟨(List.replicate (234 - s.size) 0).toArray⟩) (h4 : T4 = ⟨(E.low 4 (C.sum (E.front3 st s.data.toList))).toArray⟩) :
    (T1 ++ T2 ++ s ++ Z).data.toList = E.front3 st s.data.toList ∧ (T1 ++ T2 ++ s ++ Z ++ T4 ++ T1) = ⟨(E.sct st s.data.toList).toArray⟩ := by
  subst h1 h2 hz h4
  have hl : s.data.toList.length = s.size := dlen7 s
  have e : (((⟨(E.low 8 st).toArray⟩ : ByteArray) ++ ⟨(E.low 2 s.size).toArray⟩ ++ s ++ ⟨(List.replicate (234 - s.size) 0).toArray⟩ : ByteArray)).data.toList = E.front3 st s.data.toList := by
    simp only [ByteArray.data_append, Array.toList_append]
    rw [← E.r6, hl]
    unfold E.pad
    rw [hl]
    simp
  refine ⟨e, of_list ?_⟩
  rw [ByteArray.data_append, Array.toList_append, ByteArray.data_append, Array.toList_append, e]
  unfold E.sct
  simp

set_option maxHeartbeats 3200000 in
theorem refSeal_any (st : Nat) (s : ByteArray) (w : World) (hst : st < 18446744073709551616) :
    Calls Tryd.prog 68 #[.int .u64 st, .string s] w fun e w' => e = .returned (.tuple #[.string ⟨(E.sealR st s.data.toList).1.toArray⟩, .int .i64 (E.sealR st s.data.toList).2]) ∧ Qt w w' := by
  have hlen := dlen7 s
  by_cases hz : st = 0
  · subst hz
    have HV := Lib.hid (show E.sealR 0 s.data.toList = ([], 6) from if_pos rfl)
    go_enter Tryd.func68, Tryd.ntmps68
    go_wp2
    go_ret2
    exact ⟨by rw [HV.out]; rfl, Qt.refl w⟩
  · by_cases hb : 234 < s.size
    · have HV := Lib.hid (show E.sealR st s.data.toList = ([], 3) by unfold E.sealR; rw [if_neg hz, if_pos (by omega)])
      go_enter Tryd.func68, Tryd.ntmps68
      go_wp2
      go_ret2
      exact ⟨by rw [HV.out]; rfl, Qt.refl w⟩
    · have HV := Lib.hid (show E.sealR st s.data.toList = (E.sct st s.data.toList, 0) by unfold E.sealR; rw [if_neg hz, if_neg (by omega)])
      have hsum := C.extend_lt (x := 0) (by decide) (E.front3 st s.data.toList)
      have hx : C.sum (E.front3 st s.data.toList) < 4294967296 := hsum
      obtain ⟨T1, h1⟩ : ∃ T : ByteArray, T = ⟨(E.low 8 st).toArray⟩ := ⟨_, rfl⟩
      obtain ⟨T2, h2⟩ : ∃ T : ByteArray, T = ⟨(E.low 2 s.size).toArray⟩ := ⟨_, rfl⟩
      obtain ⟨c, hc⟩ : ∃ c, c = 234 - s.size := ⟨_, rfl⟩
      obtain ⟨Z, h3⟩ : ∃ T : ByteArray, T = ⟨(List.replicate c 0).toArray⟩ := ⟨_, rfl⟩
      obtain ⟨T4, h4⟩ : ∃ T : ByteArray, T = ⟨(E.low 4 (C.sum (E.front3 st s.data.toList))).toArray⟩ := ⟨_, rfl⟩
      obtain ⟨he, hf⟩ := sct_text st s T1 T2 Z T4 h1 h2 (hc ▸ h3) h4
      have z1 : T1.size = 8 := by rw [h1]; exact (List.size_toArray ..).trans (E.low_length _ _)
      have z2 : T2.size = 2 := by rw [h2]; exact (List.size_toArray ..).trans (E.low_length _ _)
      have z3 : Z.size = c := by rw [h3]; exact (List.size_toArray ..).trans (List.length_replicate ..)
      have z4 : T4.size = 4 := by rw [h4]; exact (List.size_toArray ..).trans (E.low_length _ _)
      have L1 := Lib.hid (show ∀ W, Calls Tryd.prog 84 #[.int .u64 st, .int .i64 8] W (fun e w' => e = .returned (.string ⟨(E.low 8 st).toArray⟩) ∧ Qt W w') from fun W => refLow_any st 8 W hst (by omega))
      have L2 := Lib.hid (show ∀ W, Calls Tryd.prog 84 #[.int .u64 s.size, .int .i64 2] W (fun e w' => e = .returned (.string ⟨(E.low 2 s.size).toArray⟩) ∧ Qt W w') from fun W => refLow_any s.size 2 W (by omega) (by omega))
      have L4 := Lib.hid (fun W => refLow_any (C.sum (E.front3 st s.data.toList)) 4 W (by omega) (by omega))
      rw [← h1] at L1
      rw [← h2] at L2
      rw [← h4] at L4
      have RS := Lib.hid (fun W => refSum_any (T1 ++ T2 ++ s ++ Z) W (by simp only [ByteArray.size_append]; unfold maxLen; omega))
      rw [he] at RS
      have HF := Lib.hid hf
      have HZ := Lib.hid (fun (w W2 : World) (k : Qt (w.alloc (.cells (madeCells #[Value.int .u8 0] c) 5)) W2) => zeros_conv k)
      rw [← h3] at HZ
      have HMK := fun W => make_zeros W c (by omega)
      have ec : 234 - (s.size : Int) = (c : Int) := by omega
      have m1 : ¬ 9223372036854775807 < T1.size + T2.size := by omega
      have m2 : ¬ 9223372036854775807 < T1.size + T2.size + s.size := by omega
      have m3 : ¬ 9223372036854775807 < T1.size + T2.size + s.size + Z.size := by omega
      have m4 : ¬ 9223372036854775807 < T1.size + T2.size + s.size + Z.size + T4.size := by omega
      have m5 : ¬ 9223372036854775807 < T1.size + T2.size + s.size + Z.size + T4.size + T1.size := by omega
      have hw1 : IntKind.u64.wrap (s.size : Int) = (s.size : Int) := IntWalk.u64_in _ (by omega)
      have hw2 : IntKind.i64.wrap (c : Int) = (c : Int) := IntWalk.i64_in _ (by omega)
      have m2' : ¬ 9223372036854775807 < (T1 ++ T2).size + s.size := by rw [ByteArray.size_append]; exact m2
      have m3' : ¬ 9223372036854775807 < (T1 ++ T2 ++ s).size + Z.size := by rw [ByteArray.size_append, ByteArray.size_append]; exact m3
      have m4' : ¬ 9223372036854775807 < (T1 ++ T2 ++ s ++ Z).size + T4.size := by rw [ByteArray.size_append, ByteArray.size_append, ByteArray.size_append]; exact m4
      have m5' : ¬ 9223372036854775807 < (T1 ++ T2 ++ s ++ Z ++ T4).size + T1.size := by rw [ByteArray.size_append, ByteArray.size_append, ByteArray.size_append, ByteArray.size_append]; exact m5
      clear hlen hsum h1 h2 h3 h4 he hf hc z1 z2 z3 z4
      generalize C.sum (E.front3 st s.data.toList) = x at *
      have c1 := HZ.out w.drew _ (Qt.refl _)
      have c2 := HZ.out w _ (Keeps.drew (Qt.refl _))
      go_enter Tryd.func68, Tryd.ntmps68
      go_wp2
      go_region_held (fun W' => Qt w W') (first | assumption | exact (Qt.refl w).drew | exact Keeps.drew ((Qt.refl w).alloc _) | (refine Keeps.alloc ?_ _; assumption) | (refine Qt.trans ?_ (by assumption); first | assumption | exact Keeps.drew ((Qt.refl w).alloc _)))
        (first
          | (go_at_call 84; with_reducible refine (L1.out _).mono ?_; rintro e wa ⟨rfl, ka⟩; have ca := HZ.out wa _ (Qt.refl _); first | (with_reducible have cb := HZ.out w.drew wa ka) | (with_reducible have cb := HZ.out w wa (Qt.trans (Keeps.drew (Qt.refl _)) ka)) | skip)
          | (go_at_call 84; with_reducible refine (L2.out _).mono ?_; rintro e wb ⟨rfl, kb⟩; have cc := HZ.out wb _ (Qt.refl _); first | (with_reducible have cd := HZ.out w.drew wb (Qt.trans ka kb)) | (with_reducible have cd := HZ.out w wb (Qt.trans (Keeps.drew (Qt.refl _)) (Qt.trans ka kb))) | (with_reducible have cd := HZ.out wa wb kb) | skip))
      all_goals
        rename_i hHeldQ
        have HQ := Lib.hid hHeldQ
        clear hHeldQ
        go_wp2_with fail
        refine (RS.out _).mono ?_
        rintro e wd ⟨rfl, rfl⟩
        go_wp2_with fail
        refine (L4.out _).mono ?_
        rintro e we ⟨rfl, ke⟩
        have HQ2 := Lib.hid (Qt.trans HQ.out ke)
        clear ke HQ
        go_wp2_with fail
        refine (L1.out _).mono ?_
        rintro e wf ⟨rfl, kf⟩
        have HQ3 := Lib.hid (Qt.trans HQ2.out kf)
        clear kf HQ2
        go_wp2
        go_ret2
        exact ⟨by rw [HV.out, ← HF.out]; rfl, HQ3.out⟩
end Go.Proofs.YtggogaaooacooaaDoor
