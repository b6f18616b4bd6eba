/-
  The contract of remitref07.Seal.
-/
import Derived.Test.YtnnkibhlildojaaDoorELow
import Derived.Test.YtnnkibhlildojaaDoorEOpen
import Derived.Deep.RegionHeld3
import Derived.Laws.MakeOwn
namespace Go.Proofs.YtnnkibhlildojaaDoor
open Go.RowKit Go.WideShapes
set_option maxRecDepth 100000

theorem make_zeros (w : World) (c : Nat) (hc : c ≤ 256) : (Instr.makeSlice 64 (.int .i64 (c : Int)) (.int .i64 (c : Int))).run Tryd.prog w = .ok (.slice (some ⟨w.heap.size, 0, none⟩) c c) (w.alloc (.cells (madeCells #[Value.int .u8 0] c) 5)) := by
  obtain ⟨i0, hi, hz0, hz1, hz2⟩ := info_parts infoU8
  have h := run_make (P := Tryd.prog) w 64 5 i0 (.int .u8 0) Tryd.underlying64 hi hz0 .i64 .i64 c c (by omega) (by omega) (by rw [hz2]; omega) (by omega)
  rw [hz1, Nat.mul_one] at h
  exact h
theorem RawAt.zeros (w : World) (c : Nat) : RawAt (w.alloc (.cells (madeCells #[Value.int .u8 0] c) 5)) w.heap.size (List.replicate c 0) := ⟨fun j d hj => by
  have hn := heap_alloc_new w (.cells (madeCells #[Value.int .u8 0] c) 5)
  obtain ⟨h1, h2⟩ := List.getElem?_eq_some_iff.1 hj
  have h3 : j < c := by simpa using h1
  rw [List.getElem_replicate] at h2
  subst h2
  refine ⟨?_, frozen_of_row _ _ _ _ _ hn⟩
  rw [cell_of_row _ _ _ _ _ _ hn]
  have e := toList_madeCells_one (Value.int .u8 0) c
  rw [← Array.getElem?_toList, e]
  simp [h3]⟩
theorem zeros_conv {w W2 : World} {c : Nat} (k : Qt (w.alloc (.cells (madeCells #[Value.int .u8 0] c) 5)) W2) : (convert 64 9 (.slice (some ⟨w.heap.size, 0, none⟩) c c)).run Tryd.prog W2 = .ok (.string ⟨(List.replicate c 0).toArray⟩) W2 := by
  have h := ((RawAt.zeros w c).kept k (fun e => e)).conv (n := c) (by rw [List.length_replicate]; omega) c
  rw [List.take_of_length_le (by rw [List.length_replicate]; omega)] at h
  exact h

theorem sct_text (st : Nat) (s : ByteArray) (T1 T2 Z T4 : ByteArray) (h1 : T1 = ⟨(E.low 8 st).toArray⟩) (h2 : T2 = ⟨(E.low 2 s.size).toArray⟩) (hz : Z = ⟨(List.replicate (234 - s.size) 0).toArray⟩) (h4 : T4 = ⟨(E.low 4 (C.sum (E.front3 st s.data.toList))).toArray⟩) :
    (T1 ++ T2 ++ s ++ Z).data.toList = E.front3 st s.data.toList ∧ (T1 ++ T2 ++ s ++ Z ++ T4 ++ T1) = ⟨(E.sct st s.data.toList).toArray⟩ := by
  subst h1 h2 hz h4
  have hl : s.data.toList.length = s.size := dlen7 s
  have e : (((⟨(E.low 8 st).toArray⟩ : ByteArray) ++ ⟨(E.low 2 s.size).toArray⟩ ++ s ++ ⟨(List.replicate (234 - s.size) 0).toArray⟩ : ByteArray)).data.toList = E.front3 st s.data.toList := by
    simp only [ByteArray.data_append, Array.toList_append]
    rw [← E.r6, hl]
    unfold E.pad
    rw [hl]
    simp
  refine ⟨e, of_list ?_⟩
  rw [ByteArray.data_append, Array.toList_append, ByteArray.data_append, Array.toList_append, e]
  unfold E.sct
  simp

set_option maxHeartbeats 3200000 in
theorem refSeal_any (st : Nat) (s : ByteArray) (w : World) (hst : st < 18446744073709551616) :
    Calls Tryd.prog 34 #[.int .u64 st, .string s] w fun e w' => e = .returned (.tuple #[.string ⟨(E.sealR st s.data.toList).1.toArray⟩, .int .i64 (E.sealR st s.data.toList).2]) ∧ Qt w w' := by
  have hlen := dlen7 s
  by_cases hz : st = 0
  · subst hz
    have HV := Lib.hid (show E.sealR 0 s.data.toList = ([], 6) from if_pos rfl)
    go_enter Tryd.func34, Tryd.ntmps34
    go_wp2
    go_ret2
    exact ⟨by rw [HV.out]; rfl, Qt.refl w⟩
  · by_cases hb : 234 < s.size
    · have HV := Lib.hid (show E.sealR st s.data.toList = ([], 3) by unfold E.sealR; rw [if_neg hz, if_pos (by omega)])
      go_enter Tryd.func34, Tryd.ntmps34
      go_wp2
      go_ret2
      exact ⟨by rw [HV.out]; rfl, Qt.refl w⟩
    · have HV := Lib.hid (show E.sealR st s.data.toList = (E.sct st s.data.toList, 0) by unfold E.sealR; rw [if_neg hz, if_neg (by omega)])
      have hsum := C.extend_lt (x := 0) (by decide) (E.front3 st s.data.toList)
      have hx : C.sum (E.front3 st s.data.toList) < 4294967296 := hsum
      obtain ⟨T1, h1⟩ : ∃ T : ByteArray, T = ⟨(E.low 8 st).toArray⟩ := ⟨_, rfl⟩
      obtain ⟨T2, h2⟩ : ∃ T : ByteArray, T = ⟨(E.low 2 s.size).toArray⟩ := ⟨_, rfl⟩
      obtain ⟨c, hc⟩ : ∃ c, c = 234 - s.size := ⟨_, rfl⟩
      obtain ⟨Z, h3⟩ : ∃ T : ByteArray, T = ⟨(List.replicate c 0).toArray⟩ := ⟨_, rfl⟩
      obtain ⟨T4, h4⟩ : ∃ T : ByteArray, T = ⟨(E.low 4 (C.sum (E.front3 st s.data.toList))).toArray⟩ := ⟨_, rfl⟩
      obtain ⟨he, hf⟩ := sct_text st s T1 T2 Z T4 h1 h2 (hc ▸ h3) h4
      have z1 : T1.size = 8 := by rw [h1]; exact (List.size_toArray ..).trans (E.low_length _ _)
      have z2 : T2.size = 2 := by rw [h2]; exact (List.size_toArray ..).trans (E.low_length _ _)
      have z3 : Z.size = c := by rw [h3]; exact (List.size_toArray ..).trans (List.length_replicate ..)
      have z4 : T4.size = 4 := by rw [h4]; exact (List.size_toArray ..).trans (E.low_length _ _)
      have L1 := Lib.hid (show ∀ W, Calls Tryd.prog 48 #[.int .u64 st, .int .i64 8] W (fun e w' => e = .returned (.string ⟨(E.low 8 st).toArray⟩) ∧ Qt W w') from fun W => refLow_any st 8 W hst (by omega))
      have L2 := Lib.hid (show ∀ W, Calls Tryd.prog 48 #[.int .u64 s.size, .int .i64 2] W (fun e w' => e = .returned (.string ⟨(E.low 2 s.size).toArray⟩) ∧ Qt W w') from fun W => refLow_any s.size 2 W (by omega) (by omega))
      have L4 := Lib.hid (fun W => refLow_any (C.sum (E.front3 st s.data.toList)) 4 W (by omega) (by omega))
      rw [← h1] at L1
      rw [← h2] at L2
      rw [← h4] at L4
      have RS := Lib.hid (fun W => refSum_any (T1 ++ T2 ++ s ++ Z) W (by simp only [ByteArray.size_append]; unfold maxLen; omega))
      rw [he] at RS
      have HF := Lib.hid hf
      have HZ := Lib.hid (fun (w W2 : World) (k : Qt (w.alloc (.cells (madeCells #[Value.int .u8 0] c) 5)) W2) => zeros_conv k)
      rw [← h3] at HZ
      have HMK := fun W => make_zeros W c (by omega)
      have ec : 234 - (s.size : Int) = (c : Int) := by omega
      have m1 : ¬ 9223372036854775807 < T1.size + T2.size := by omega
      have m2 : ¬ 9223372036854775807 < T1.size + T2.size + s.size := by omega
      have m3 : ¬ 9223372036854775807 < T1.size + T2.size + s.size + Z.size := by omega
      have m4 : ¬ 9223372036854775807 < T1.size + T2.size + s.size + Z.size + T4.size := by omega
      have m5 : ¬ 9223372036854775807 < T1.size + T2.size + s.size + Z.size + T4.size + T1.size := by omega
      have hw1 : IntKind.u64.wrap (s.size : Int) = (s.size : Int) := IntWalk.u64_in _ (by omega)
      have hw2 : IntKind.i64.wrap (c : Int) = (c : Int) := IntWalk.i64_in _ (by omega)
      have m2' : ¬ 9223372036854775807 < (T1 ++ T2).size + s.size := by rw [ByteArray.size_append]; exact m2
      have m3' : ¬ 9223372036854775807 < (T1 ++ T2 ++ s).size + Z.size := by rw [ByteArray.size_append, ByteArray.size_append]; exact m3
      have m4' : ¬ 9223372036854775807 < (T1 ++ T2 ++ s ++ Z).size + T4.size := by rw [ByteArray.size_append, ByteArray.size_append, ByteArray.size_append]; exact m4
      have m5' : ¬ 9223372036854775807 < (T1 ++ T2 ++ s ++ Z ++ T4).size + T1.size := by rw [ByteArray.size_append, ByteArray.size_append, ByteArray.size_append, ByteArray.size_append]; exact m5
      clear hlen hsum h1 h2 h3 h4 he hf hc z1 z2 z3 z4
      generalize C.sum (E.front3 st s.data.toList) = x at *
      have c1 := HZ.out w.drew _ (Qt.refl _)
      have c2 := HZ.out w _ (Keeps.drew (Qt.refl _))
      go_enter Tryd.func34, Tryd.ntmps34
      go_wp2
      go_region_held (fun W' => Qt w W') (first | assumption | exact (Qt.refl w).drew | exact Keeps.drew ((Qt.refl w).alloc _) | (refine Keeps.alloc ?_ _; assumption) | (refine Qt.trans ?_ (by assumption); first | assumption | exact Keeps.drew ((Qt.refl w).alloc _)))
        (first
          | (go_at_call 48; with_reducible refine (L1.out _).mono ?_; rintro e wa ⟨rfl, ka⟩; have ca := HZ.out wa _ (Qt.refl _); first | (with_reducible have cb := HZ.out w.drew wa ka) | (with_reducible have cb := HZ.out w wa (Qt.trans (Keeps.drew (Qt.refl _)) ka)) | skip)
          | (go_at_call 48; with_reducible refine (L2.out _).mono ?_; rintro e wb ⟨rfl, kb⟩; have cc := HZ.out wb _ (Qt.refl _); first | (with_reducible have cd := HZ.out w.drew wb (Qt.trans ka kb)) | (with_reducible have cd := HZ.out w wb (Qt.trans (Keeps.drew (Qt.refl _)) (Qt.trans ka kb))) | (with_reducible have cd := HZ.out wa wb kb) | skip))
      all_goals
        rename_i hHeldQ
        have HQ := Lib.hid hHeldQ
        clear hHeldQ
        go_wp2_with fail
        refine (RS.out _).mono ?_
        rintro e wd ⟨rfl, rfl⟩
        go_wp2_with fail
        refine (L4.out _).mono ?_
        rintro e we ⟨rfl, ke⟩
        have HQ2 := Lib.hid (Qt.trans HQ.out ke)
        clear ke HQ
        go_wp2_with fail
        refine (L1.out _).mono ?_
        rintro e wf ⟨rfl, kf⟩
        have HQ3 := Lib.hid (Qt.trans HQ2.out kf)
        clear kf HQ2
        go_wp2
        go_ret2
        exact ⟨by rw [HV.out, ← HF.out]; rfl, HQ3.out⟩
end Go.Proofs.YtnnkibhlildojaaDoor
