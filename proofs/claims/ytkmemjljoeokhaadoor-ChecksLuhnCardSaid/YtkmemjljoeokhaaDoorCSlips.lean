/-
  The contract of remitlaw03.ChecksSlips: it answers true.
-/
import Derived.Test.YtkmemjljoeokhaaDoorCSlip
import Derived.Test.YtkmemjljoeokhaaDoorCLives
namespace Go.Proofs.YtkmemjljoeokhaaDoor
open Go.RowKit Go.WideShapes
set_option maxRecDepth 100000

theorem slip1_list (s : ByteArray) (k : Nat) (c : UInt8) (hk : k < s.size) :
    slip1 s k c hk = ⟨#[]⟩ ∨ (c ≠ s[k] ∧ C.cls c = C.cls s[k] ∧ (slip1 s k c hk).data.toList = s.data.toList.take k ++ c :: s.data.toList.drop (k + 1) ∧ s.data.toList = s.data.toList.take k ++ s[k] :: s.data.toList.drop (k + 1)) := by
  unfold slip1
  split
  · rename_i h
    right
    refine ⟨fun e => h.1 (by rw [e]), h.2, ?_, ?_⟩
    · have hA : (s.extract 0 k).data.toList = s.data.toList.take k := by rw [Lib.extract_data, List.drop_zero, Nat.sub_zero]
      simp only [ByteArray.data_append, Array.toList_append, hA, Lib.extract_to_end, List.append_assoc]
      rfl
    · have h2 : k < s.data.toList.length := hk
      rw [show s[k] = s.data.toList[k] from rfl, List.getElem_cons_drop, List.take_append_drop]
  · exact .inl rfl
theorem slip2_list (s : ByteArray) (k : Nat) :
    slip2 s k = ⟨#[]⟩ ∨ ∃ (h : k + 1 < s.size), s[k] ≠ s[k + 1] ∧ C.cls s[k] = C.cls s[k + 1] ∧ (slip2 s k).data.toList = s.data.toList.take k ++ s[k + 1] :: s[k] :: s.data.toList.drop (k + 2) ∧ s.data.toList = s.data.toList.take k ++ s[k] :: s[k + 1] :: s.data.toList.drop (k + 2) := by
  unfold slip2
  split
  · rename_i hk
    split
    · rename_i h
      right
      refine ⟨hk, fun e => h.1 (by rw [e]), h.2, ?_, ?_⟩
      · have hA : (s.extract 0 k).data.toList = s.data.toList.take k := by rw [Lib.extract_data, List.drop_zero, Nat.sub_zero]
        simp only [ByteArray.data_append, Array.toList_append, hA, Lib.extract_to_end, List.append_assoc]
        rfl
      · have h2 : k + 1 < s.data.toList.length := hk
        rw [show s[k + 1] = s.data.toList[k + 1] from rfl, List.getElem_cons_drop, show s[k] = s.data.toList[k] from rfl, List.getElem_cons_drop, List.take_append_drop]
    · exact .inl rfl
  · exact .inl rfl
theorem fits_empty : C.fits (⟨#[]⟩ : ByteArray).data.toList = false := by decide
theorem fits_slip1 {s : ByteArray} {k : Nat} {c : UInt8} {hk : k < s.size} (h : C.fits s.data.toList = true) : C.fits (slip1 s k c hk).data.toList = false := by
  rcases slip1_list s k c hk with e | ⟨hne, hc, e1, e2⟩
  · rw [e]; exact fits_empty
  · rw [e1]
    rw [e2] at h
    exact C.fits_one h (Ne.symm hne) hc.symm
theorem fits_slip2 {s : ByteArray} {k : Nat} (h : C.fits s.data.toList = true) : C.fits (slip2 s k).data.toList = false := by
  rcases slip2_list s k with e | ⟨hk, hne, hc, e1, e2⟩
  · rw [e]; exact fits_empty
  · rw [e1]
    rw [e2] at h
    exact C.fits_swap h hne hc
theorem slip1_size {s : ByteArray} {k : Nat} {c : UInt8} {hk : k < s.size} : (slip1 s k c hk).size ≤ s.size := by
  rcases slip1_list s k c hk with e | ⟨_, _, e1, e2⟩
  · rw [e]; exact Nat.zero_le _
  · have h1 : (slip1 s k c hk).size = (slip1 s k c hk).data.toList.length := rfl
    have h2 : s.size = s.data.toList.length := rfl
    have h3 := congrArg List.length e2
    rw [h1, e1]
    simp only [List.length_append, List.length_cons] at h3 ⊢
    omega
theorem slip2_size {s : ByteArray} {k : Nat} : (slip2 s k).size ≤ s.size := by
  rcases slip2_list s k with e | ⟨_, _, _, e1, e2⟩
  · rw [e]; exact Nat.zero_le _
  · have h1 : (slip2 s k).size = (slip2 s k).data.toList.length := rfl
    have h2 : s.size = s.data.toList.length := rfl
    have h3 := congrArg List.length e2
    rw [h1, e1]
    simp only [List.length_append, List.length_cons] at h3 ⊢
    omega

/-- A place, out of any number. -/
theorem cut_at (cut : Int) {n : Nat} (hn : 0 < n) (hl : n ≤ 1125899906842624) : ∃ c : Nat, c < n ∧ wrap64 ((IntKind.u64.wrap cut).tmod (n : Int)) = (c : Int) := by
  have h0 : 0 ≤ IntKind.u64.wrap cut := by rw [IntKind.wrap_u64]; omega
  have h1 : (IntKind.u64.wrap cut).tmod (n : Int) = IntKind.u64.wrap cut % (n : Int) := Int.tmod_eq_emod_of_nonneg h0
  have h2 : 0 ≤ IntKind.u64.wrap cut % (n : Int) := Int.emod_nonneg _ (by omega)
  have h3 : IntKind.u64.wrap cut % (n : Int) < n := Int.emod_lt_of_pos _ (by omega)
  rw [h1]
  refine ⟨(IntKind.u64.wrap cut % (n : Int)).toNat, by omega, ?_⟩
  unfold wrap64
  omega

set_option maxHeartbeats 3200000 in
theorem slips_any (ef : Addr) (s : ByteArray) (a : Int) (c : Nat) (w : World) (hz : s.size ≤ 140737488351232) (hc : c < 256) (hf : FormAt ef w) (hT : Tab w) :
    Calls Tryd.prog 7 #[.string s, .int .i64 a, .int .u8 c] w fun e w' => e = .returned (.bool true) ∧ Qt w w' := by
  obtain ⟨c, rfl⟩ : ∃ d : UInt8, c = d.toNat := ⟨c.toUInt8, by rw [Nat.toUInt8, UInt8.toNat_ofNat']; exact (Nat.mod_eq_of_lt hc).symm⟩
  have hs : s.size ≤ maxLen := by unfold maxLen; omega
  have HL := Lib.hid (lives_any ef w hf hT)
  have HF := Lib.hid (fun W (k : Qt w W) => show FormAt ef W from hf.qt k)
  have D1 := Lib.hid (fun W (k : Qt w W) => digits_any ef s W hs (hf.qt k))
  cases hr : C.rest s.data.toList with
  | none =>
    rw [digV_none hr] at D1
    clear hr hT hf hs
    go_enter Tryd.func7, Tryd.ntmps7
    go_wp2_with fail
    refine HL.out.mono ?_
    rintro e w1 ⟨rfl, k1⟩
    have K1 := Lib.hid k1; clear k1
    go_wp2_with fail
    refine (D1.out _ K1.out).mono ?_
    rintro e w2 ⟨rfl, k2⟩
    have K2 := Lib.hid (Qt.trans K1.out k2); clear k2
    go_wp2
    go_ret
    exact ⟨rfl, K2.out⟩
  | some q =>
    have hd := digits_of hr
    have hf2 := C.fits_digits hd
    have hD : (⟨(C.two (98 - (q * 100) % 97)).toArray⟩ : ByteArray).size ≤ 2 := Nat.le_refl 2
    have e0 : (s ++ ⟨(C.two (98 - (q * 100) % 97)).toArray⟩ : ByteArray).data.toList = s.data.toList ++ C.two (98 - (q * 100) % 97) := by simp
    have h3 : 3 ≤ (s ++ ⟨(C.two (98 - (q * 100) % 97)).toArray⟩ : ByteArray).size := by
      obtain ⟨_, _, hne, _⟩ := C.digits_some hd
      have h0 : 0 < s.data.toList.length := List.length_pos_iff.2 hne
      have h1 : s.data.toList.length = s.size := rfl
      rw [ByteArray.size_append]
      have : (⟨(C.two (98 - (q * 100) % 97)).toArray⟩ : ByteArray).size = 2 := rfl
      omega
    have h5 : 3 ≤ s.size + (⟨(C.two (98 - (q * 100) % 97)).toArray⟩ : ByteArray).size := by rw [ByteArray.size_append] at h3; exact h3
    have h4 : (s ++ ⟨(C.two (98 - (q * 100) % 97)).toArray⟩ : ByteArray).size ≤ 140737488351234 := by rw [ByteArray.size_append]; omega
    rw [← e0] at hf2
    rw [digV_of hd] at D1
    generalize (⟨(C.two (98 - (q * 100) % 97)).toArray⟩ : ByteArray) = D at *
    obtain ⟨S, hS⟩ : ∃ S, s ++ D = S := ⟨_, rfl⟩
    have HS := Lib.hid hS
    rw [hS] at hf2 h3 h4
    have F1 := Lib.hid (fun W (k : Qt w W) => fits_any ef S W (by unfold maxLen; omega) (hf.qt k))
    rw [hf2] at F1
    have F2 := Lib.hid (fun W k c hk (q : Qt w W) => fits_any ef (slip1 S k c hk) W (by have := slip1_size (s := S) (k := k) (c := c) (hk := hk); unfold maxLen; omega) (hf.qt q))
    have F3 := Lib.hid (fun W k (q : Qt w W) => fits_any ef (slip2 S k) W (by have := slip2_size (s := S) (k := k); unfold maxLen; omega) (hf.qt q))
    simp only [fits_slip1 hf2] at F2
    simp only [fits_slip2 hf2] at F3
    clear hr hd hf2 e0 hT hf hs hS
    go_enter Tryd.func7, Tryd.ntmps7
    go_wp2_with fail
    refine HL.out.mono ?_
    rintro e w1 ⟨rfl, k1⟩
    have K1 := Lib.hid k1; clear k1
    go_wp2_with fail
    refine (D1.out _ K1.out).mono ?_
    rintro e w2 ⟨rfl, k2⟩
    have K2 := Lib.hid (Qt.trans K1.out k2); clear k2
    go_wp2_with fail
    rw [HS.out]
    refine (F1.out _ K2.out).mono ?_
    rintro e w3 ⟨rfl, k3⟩
    have K3 := Lib.hid (Qt.trans K2.out k3); clear k3
    obtain ⟨j, hj, hja⟩ := cut_at a (show 0 < S.size by omega) (by omega)
    go_wp2_with fail
    refine (slip_any S j c hj _ (by omega)).mono ?_
    rintro e w4 ⟨rfl, k4⟩
    have K4 := Lib.hid (Qt.trans K3.out k4); clear k4
    go_wp2_with fail
    refine (F2.out _ j c hj K4.out).mono ?_
    rintro e w5 ⟨rfl, k5⟩
    have K5 := Lib.hid (Qt.trans K4.out k5); clear k5
    go_wp2_with fail
    refine (F3.out _ j K5.out).mono ?_
    rintro e w6 ⟨rfl, k6⟩
    have K6 := Lib.hid (Qt.trans K5.out k6); clear k6
    go_wp2
    go_ret
    exact ⟨rfl, K6.out⟩
end Go.Proofs.YtkmemjljoeokhaaDoor
