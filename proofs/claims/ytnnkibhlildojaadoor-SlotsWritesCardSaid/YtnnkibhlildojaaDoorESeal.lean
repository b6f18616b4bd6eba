/-
  The contract of sector.Seal.
-/
import Derived.Test.YtnnkibhlildojaaDoorEPut
import Derived.Test.YtnnkibhlildojaaDoorCExt
import Derived.Lib.SlBuf
import Derived.StillTailTactics
namespace Go.Proofs.YtnnkibhlildojaaDoor
open Go.RowKit Go.WideShapes
set_option maxRecDepth 100000

/-- Three errors' variables. -/
structure E3 (er el ef : Addr) (w : World) : Prop where
  r : w.cell? ⟨4, 0, none⟩ = some (.iface 104 (.pointer (some er)))
  l : w.cell? ⟨2, 0, none⟩ = some (.iface 104 (.pointer (some el)))
  f : w.cell? ⟨3, 0, none⟩ = some (.iface 104 (.pointer (some ef)))
theorem E3.qt {er el ef : Addr} {w w' : World} (h : E3 er el ef w) (k : Qt w w') : E3 er el ef w' := ⟨k.cellv h.r, k.cellv h.l, k.cellv h.f⟩
def e3V (er el ef : Addr) (n : Nat) : Value := if n = 0 then .nilIface else .iface 104 (.pointer (some (if n = 6 then er else if n = 3 then el else ef)))

namespace E
def sealR (st : Nat) (p : List UInt8) : List UInt8 × Nat := if st = 0 then ([], 6) else if 234 < p.length then ([], 3) else (sct st p, 0)
theorem r1 (st : Nat) : put (List.replicate 256 0) 0 (low 8 st) = low 8 st ++ List.replicate 248 0 := by
  have h := put_zeros [] (low 8 st) (m := 256)
  rw [low_length] at h
  exact h
theorem r2 (st n : Nat) : put (low 8 st ++ List.replicate 248 0) 8 (low 2 n) = (low 8 st ++ low 2 n) ++ List.replicate 246 0 := by
  have h := put_zeros (low 8 st) (low 2 n) (m := 248)
  rw [low_length, low_length] at h
  exact h
theorem r3 (st n : Nat) (p : List UInt8) (hp : p.length ≤ 234) : put ((low 8 st ++ low 2 n) ++ List.replicate 246 0) 10 p = ((low 8 st ++ low 2 n) ++ pad p) ++ List.replicate 12 0 := by
  have h := put_zeros (low 8 st ++ low 2 n) p (m := 246)
  rw [List.length_append, low_length, low_length] at h
  rw [h]
  unfold pad
  rw [show 246 - p.length = (234 - p.length) + 12 by omega, ← List.replicate_append_replicate]
  simp
theorem r4 (st n x : Nat) (p : List UInt8) (hp : p.length ≤ 234) : put (((low 8 st ++ low 2 n) ++ pad p) ++ List.replicate 12 0) 244 (low 4 x) = (((low 8 st ++ low 2 n) ++ pad p) ++ low 4 x) ++ List.replicate 8 0 := by
  have h := put_zeros ((low 8 st ++ low 2 n) ++ pad p) (low 4 x) (m := 12)
  rw [List.length_append, List.length_append, low_length, low_length, low_length, pad_length hp] at h
  exact h
theorem r5 (st n x : Nat) (p : List UInt8) (hp : p.length ≤ 234) : put ((((low 8 st ++ low 2 n) ++ pad p) ++ low 4 x) ++ List.replicate 8 0) 248 (low 8 st) = (((low 8 st ++ low 2 n) ++ pad p) ++ low 4 x) ++ low 8 st := by
  have h := put_zeros (((low 8 st ++ low 2 n) ++ pad p) ++ low 4 x) (low 8 st) (m := 8)
  simp only [List.length_append, low_length, pad_length hp] at h
  rw [h]; simp
theorem r6 (st : Nat) (p : List UInt8) : (low 8 st ++ low 2 p.length) ++ pad p = front3 st p := by unfold front3; simp
theorem r7 (st : Nat) (p : List UInt8) : (((low 8 st ++ low 2 p.length) ++ pad p) ++ low 4 (C.sum (front3 st p))) ++ low 8 st = sct st p := by unfold sct front3; simp
end E

theorem zero256 : Tryd.zeroCells65 = Array.replicate 256 (.int .u8 0) := by kernel_rfl
theorem RawAt.made (w : World) : RawAt (w.alloc (.cells Tryd.zeroCells65 65)) w.heap.size (List.replicate 256 0) := ⟨fun j c hj => by
  have hn := heap_alloc_new w (.cells Tryd.zeroCells65 65)
  obtain ⟨h1, h2⟩ := List.getElem?_eq_some_iff.1 hj
  have h3 : j < 256 := by simpa using h1
  rw [List.getElem_replicate] at h2
  subst h2
  refine ⟨?_, frozen_of_row _ _ _ _ _ hn⟩
  rw [cell_of_row _ _ _ _ _ _ hn, zero256]
  simp [h3]⟩

set_option maxHeartbeats 3200000 in
theorem seal_any (er el ef : Addr) (st : Nat) (s : ByteArray) (w : World) (hst : st < 18446744073709551616) (hE : E3 er el ef w) (hT : Tab w) :
    Calls Tryd.prog 31 #[.int .u64 st, .string s] w fun e w' => e = .returned (.tuple #[.string ⟨(E.sealR st s.data.toList).1.toArray⟩, e3V er el ef (E.sealR st s.data.toList).2]) ∧ Qt w w' := by
  have hlen : s.data.toList.length = s.size := by simp
  have h1 := hE.r
  have h2 := hE.l
  by_cases hz : st = 0
  · subst hz
    have HV := Lib.hid (show E.sealR 0 s.data.toList = ([], 6) from if_pos rfl)
    clear hT hE hlen h2
    go_enter Tryd.func31, Tryd.ntmps31
    go_wp2
    go_quiet (fail)
    go_wp2
    go_ret2
    exact ⟨by rw [HV.out]; rfl, Keeps.drewN (Qt.refl w) _⟩
  · by_cases hb : 234 < s.size
    · have HV := Lib.hid (show E.sealR st s.data.toList = ([], 3) by unfold E.sealR; rw [if_neg hz, if_pos (by omega)])
      clear hT hE hlen h1
      go_enter Tryd.func31, Tryd.ntmps31
      go_wp2
      go_quiet (fail)
      go_wp2
      go_ret2
      exact ⟨by rw [HV.out]; rfl, Keeps.drewN (Qt.refl w) _⟩
    · have HV := Lib.hid (show E.sealR st s.data.toList = (E.sct st s.data.toList, 0) by unfold E.sealR; rw [if_neg hz, if_neg (by omega)])
      have hp : s.data.toList.length ≤ 234 := by omega
      have HT := Lib.hid hT
      have HM := Lib.hid (RawAt.made w)
      have HQ := Lib.hid (show Since w.heap.size w (w.alloc (.cells Tryd.zeroCells65 65)) from Qt.since ((Qt.refl w).alloc _))
      have hsum := C.extend_lt (x := 0) (by decide) (E.front3 st s.data.toList)
      have HS := Lib.hid (show C.sum (E.front3 st s.data.toList) < 4294967296 from hsum)
      clear hT hE h1 h2 hsum
      go_enter Tryd.func31, Tryd.ntmps31
      go_wp2_with fail
      refine (putLow_any _ w.heap.size 0 8 256 st _ HM.out (by rw [List.length_replicate]; omega) (by omega) hst (by omega)).mono ?_
      rintro e w1 ⟨rfl, m, k⟩
      rw [E.r1] at m
      have M1 := Lib.hid m
      have Q1 := Lib.hid (HQ.out.step k (fun i e => Nat.le_of_eq e.symm))
      clear m k HM HQ
      go_wp2_with fail
      refine (putLow_any w1 w.heap.size 8 2 248 s.size _ M1.out (by simp [E.low_length]) (by omega) (by omega) (by omega)).mono ?_
      rintro e w2 ⟨rfl, m, k⟩
      rw [E.r2] at m
      have M2 := Lib.hid m
      have Q2 := Lib.hid (Q1.out.step k (fun i e => Nat.le_of_eq e.symm))
      clear m k M1 Q1
      obtain ⟨w3, hcp, m, k⟩ := M2.out.copy (o := 10) s (n := 246) (by omega) (by simp [E.low_length]) 246
      rw [E.r3 _ _ _ hp] at m
      have M3 := Lib.hid m
      have Q3 := Lib.hid (Q2.out.step k (fun i e => Nat.le_of_eq e.symm))
      clear m k M2 Q2
      go_wp2_with (refine Lib.wpList_copy_run _ rfl _ _ 64 9 rfl _ _ rfl rfl hcp ?_)
      clear hcp
      refine wp_region_still_tail 5 (by kernel_rfl) (by kernel_rfl) ?_
      simp only [List.take_succ_cons, List.take_zero, List.drop_succ_cons, List.drop_zero]
      have M4 := Lib.hid M3.out.drew
      have Q4 := Lib.hid (show Since w.heap.size w w3.drew from Keeps.drew Q3.out)
      clear M3 Q3
      change wpStill _ _ w3.drew _ _ _
      have hcv := M4.out.conv (n := 244) (by simp [E.low_length, E.pad_length hp]) 256
      rw [List.take_left' (by simp [E.low_length, E.pad_length hp]), ← hlen, E.r6] at hcv
      have hsm := sum_any ⟨(E.front3 st s.data.toList).toArray⟩ w3.drew (by show (E.front3 st s.data.toList).toArray.size ≤ maxLen; rw [List.size_toArray, E.front3_length _ hp]; unfold maxLen; omega) (HT.out.qt (Since.qt Q4.out))
      rw [show (⟨(E.front3 st s.data.toList).toArray⟩ : ByteArray).data.toList = E.front3 st s.data.toList from rfl] at hsm
      have HX := Lib.hid HS.out
      have hX := HS.out
      have R7 := Lib.hid (E.r7 st s.data.toList)
      rw [hlen] at R7
      generalize C.sum (E.front3 st s.data.toList) = x at *
      generalize E.front3 st s.data.toList = fr at *
      still_step
      still_step
      still_step
      still_call (hsm.mono (fun e w'' h => ⟨h.1, h.2.symm⟩))
      still_step
      refine wpStill_nil ?_
      change wpList _ _ _ _ _ w3.drew
      clear hsm hcv
      generalize w3.drew = w4 at *
      go_wp2_with fail
      refine (putLow_any w4 w.heap.size 244 4 12 x _ M4.out (by simp [E.low_length, E.pad_length hp]) (by omega) (by omega) (by omega)).mono ?_
      rintro e w5 ⟨rfl, m, k⟩
      rw [E.r4 _ _ _ _ hp] at m
      have M5 := Lib.hid m
      have Q5 := Lib.hid (Q4.out.step k (fun i e => Nat.le_of_eq e.symm))
      clear m k M4 Q4
      go_wp2_with fail
      refine (putLow_any w5 w.heap.size 248 8 8 st _ M5.out (by simp [E.low_length, E.pad_length hp]) (by omega) hst (by omega)).mono ?_
      rintro e w6 ⟨rfl, m, k⟩
      rw [E.r5 _ _ _ _ hp, R7.out] at m
      have Q6 := Lib.hid (Q5.out.step k (fun i e => Nat.le_of_eq e.symm))
      clear k M5 Q5
      have hcv := m.conv (n := 256) (by rw [E.sct_length _ hp]; omega) 256
      rw [List.take_of_length_le (by rw [E.sct_length _ hp]; omega)] at hcv
      clear m
      generalize E.sct st s.data.toList = sc at *
      go_wp2
      go_ret2
      exact ⟨by rw [HV.out]; rfl, Since.qt Q6.out⟩
end Go.Proofs.YtnnkibhlildojaaDoor
