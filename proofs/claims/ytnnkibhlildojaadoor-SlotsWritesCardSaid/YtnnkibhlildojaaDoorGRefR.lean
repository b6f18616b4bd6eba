/-
  The contract of remitref08.Read.
-/
import Derived.Test.YtnnkibhlildojaaDoorGRef
namespace Go.Proofs.YtnnkibhlildojaaDoor
open Go.RowKit Go.WideShapes
set_option maxRecDepth 100000

/-- The slots of an image read so far. -/
def partI (l : List UInt8) (i : Nat) : Nat → Option (Nat × List UInt8)
  | 0 => none
  | k + 1 => G.best (partI l i k) (G.slotV (cutAt l (i + k)) k)
theorem partI_pos (l : List UInt8) (i : Nat) : ∀ k a, partI l i k = some a → 1 ≤ a.1
  | 0, a, h => by cases h
  | k + 1, a, h => by
    have h : G.best (partI l i k) (G.slotV (cutAt l (i + k)) k) = some a := h
    rw [best_ver slotV_ver] at h
    split at h
    · exact slotV_ver a h
    · exact partI_pos l i k a h
def ImgAt (w : World) (l : List UInt8) (i : Nat) (tv vv iv : Value) (wr : World) : Prop := ∃ k : Nat, k ≤ 2 ∧ iv = .int .i64 k ∧ tv = .string ⟨(txtS (partI l i k)).toArray⟩ ∧ vv = .int .i64 (verS (partI l i k)) ∧ Qt w wr
theorem sliceAt (s : ByteArray) (m : Nat) (hm : m + 256 ≤ s.size) (wx : World) : (Instr.slice 9 (.string s) (some (.int .i64 (m : Int))) (some (.int .i64 ((m : Int) + 256))) none).run Tryd.prog wx = .ok (.string (s.extract m (m + 256))) wx := by
  have := run_slice_string (P := Tryd.prog) wx 9 s .i64 .i64 (m : Int) ((m : Int) + 256) Tryd.underlying9 (by omega) (by omega) (by omega)
  rw [this, show ((m : Int) + 256).toNat = m + 256 by omega, Int.toNat_natCast]

set_option maxHeartbeats 1600000 in
theorem readRef_any (s : ByteArray) (n : Nat) (hz : s.size = n * 256) (hn : n ≤ 128) (i : Int) (w : World) :
    Calls Tryd.prog 11 #[.string s, .int .i64 i] w fun e w' => e = .returned (.tuple #[.string ⟨(readI s.data.toList i).1.toArray⟩, .int .i64 (readI s.data.toList i).2.1, .int .i64 (readI s.data.toList i).2.2]) ∧ Qt w w' := by
  have hl : s.data.toList.length = s.size := by simp
  have hq : s.data.toList.length / 256 = n := by rw [hl, hz]; exact Nat.mul_div_cancel _ (by decide)
  have g2 : (s.size : Int) / 256 = (n : Int) := by rw [hz]; omega
  by_cases h0 : 0 ≤ i
  · by_cases h1 : i ≤ (n : Int) - 2
    · obtain ⟨i, rfl⟩ := Int.eq_ofNat_of_zero_le h0
      have FIN := Lib.hid (show readI s.data.toList (i : Int) = tellS (partI s.data.toList i 2) by unfold readI; rw [hq, if_neg (fun k => k ⟨by omega, by omega⟩)]; rfl)
      have SL := Lib.hid (fun (k : Nat) (hk : k < 2) => sliceAt s ((i + k) * 256) (by rw [hz]; have : (i + k + 1) * 256 ≤ n * 256 := Nat.mul_le_mul_right _ (by omega); omega))
      have CT := Lib.hid (fun (k : Nat) => show (s.extract ((i + k) * 256) ((i + k) * 256 + 256)).data.toList = cutAt s.data.toList (i + k) by rw [dslice, show (i + k) * 256 + 256 - (i + k) * 256 = 256 by omega]; rfl)
      have SR := Lib.hid (fun (t : ByteArray) (k : Nat) (hk : k < 2) (W : World) => show Calls Tryd.prog 26 #[.string t, .int .i64 (k : Int)] W fun e w' => e = .returned (.tuple #[.string ⟨(txtS (G.slotV t.data.toList k)).toArray⟩, .int .i64 (verS (G.slotV t.data.toList k))]) ∧ Qt W w' from slotRef_any t k hk W)
      have BV := Lib.hid (fun k : Nat => best_ver (x := partI s.data.toList i k) (y := G.slotV (cutAt s.data.toList (i + k)) k) slotV_ver)
      have PP := Lib.hid (partI_pos s.data.toList i 2)
      have HI := Lib.hid h1
      have z0 : decide ((i : Int) < 0) = false := decide_eq_false (by omega)
      have z1 : decide ((n : Int) - 2 < (i : Int)) = false := decide_eq_false (by omega)
      have HN := Lib.hid hn
      clear hl hq hz h0 h1
      go_enter Tryd.func11, Tryd.ntmps11
      go_wp2
      go_loopw [8, 9, 10] (fun tv vv iv wr => ImgAt w s.data.toList i tv vv iv wr) (fun _ _ iv _ => 2 - (intOf iv).toNat)
      case atStart => exact ⟨0, by omega, rfl, rfl, rfl, Qt.refl _⟩
      case round =>
        obtain ⟨k, hk, rfl, rfl, rfl, q⟩ := hrel
        have K := Lib.hid q; clear q
        by_cases hlt : k < 2
        · obtain ⟨m, hm⟩ : ∃ m, (i + k) * 256 = m := ⟨_, rfl⟩
          have SLK := SL.out k hlt
          have CTK := CT.out k
          rw [hm] at SLK CTK
          obtain ⟨raw, hraw⟩ : ∃ raw, s.extract m (m + 256) = raw := ⟨_, rfl⟩
          rw [hraw] at SLK CTK
          have S1 := Lib.hid (SR.out raw k hlt)
          rw [CTK] at S1
          have hmi : ((i : Int) + (k : Int)) * 256 = (m : Int) := by rw [← hm]; push_cast; rfl
          have hmb : (m : Int) + 256 < 40000 := by have := HI.out; have := HN.out; omega
          have BK := Lib.hid (show partI s.data.toList i (k + 1) = _ from BV.out k)
          have HK := Lib.hid hlt
          clear hraw hm CTK
          have wk : decide ((k : Int) < 2) = true := decide_eq_true (by omega)
          have wi : wrap64 ((i : Int) + (k : Int)) = (i : Int) + (k : Int) := by have := HI.out; have := HN.out; unfold wrap64; omega
          by_cases hv : verS (partI s.data.toList i k) < verS (G.slotV (cutAt s.data.toList (i + k)) k)
          · have NX := Lib.hid (show partI s.data.toList i (k + 1) = G.slotV (cutAt s.data.toList (i + k)) k from BK.out.trans (if_pos hv))
            clear BK
            generalize G.slotV (cutAt s.data.toList (i + k)) k = o at *
            generalize partI s.data.toList i k = o0 at *
            go_wp2_with fail
            refine (S1.out _).mono ?_
            rintro e w3 ⟨rfl, q⟩
            have K3 := Lib.hid (Qt.trans K.out q); clear q
            go_wp2
            exact ⟨⟨k + 1, by have := HK.out; omega, by push_cast; rfl, by rw [NX.out], by rw [NX.out], K3.out⟩, by have := HK.out; simp [intOf]; omega⟩
          · have NX := Lib.hid (show partI s.data.toList i (k + 1) = partI s.data.toList i k from BK.out.trans (if_neg hv))
            clear BK
            generalize G.slotV (cutAt s.data.toList (i + k)) k = o at *
            generalize partI s.data.toList i k = o0 at *
            go_wp2_with fail
            refine (S1.out _).mono ?_
            rintro e w3 ⟨rfl, q⟩
            have K3 := Lib.hid (Qt.trans K.out q); clear q
            go_wp2
            exact ⟨⟨k + 1, by have := HK.out; omega, by push_cast; rfl, by rw [NX.out], by rw [NX.out], K3.out⟩, by have := HK.out; simp [intOf]; omega⟩
        · obtain rfl : k = 2 := by omega
          by_cases hv : verS (partI s.data.toList i 2) = 0
          · have T := Lib.hid (tellS_none hv PP.out)
            rw [hv]
            go_wp2
            go_ret3
            exact ⟨by rw [FIN.out, T.out]; rfl, K.out⟩
          · have T := Lib.hid (tellS_some hv)
            have z2 : ((verS (partI s.data.toList i 2) : Int) == 0) = false := by rw [beq_eq_false_iff_ne]; omega
            generalize partI s.data.toList i 2 = o at *
            go_wp2
            go_ret3
            exact ⟨by rw [FIN.out, T.out]; rfl, K.out⟩
    · have FIN := Lib.hid (show readI s.data.toList i = ([], 0, 6) by unfold readI; rw [hq, if_pos (fun k => by omega)])
      have z0 : decide (i < 0) = false := decide_eq_false (by omega)
      have z1 : decide ((n : Int) - 2 < i) = true := decide_eq_true (by omega)
      clear hl hq hz
      go_enter Tryd.func11, Tryd.ntmps11
      go_wp2
      go_ret3
      exact ⟨by rw [FIN.out]; rfl, Qt.refl _⟩
  · have FIN := Lib.hid (show readI s.data.toList i = ([], 0, 6) by unfold readI; rw [if_pos (fun k => by omega)])
    have z0 : decide (i < 0) = true := decide_eq_true (by omega)
    clear hl hq hz
    go_enter Tryd.func11, Tryd.ntmps11
    go_wp2
    go_ret3
    exact ⟨by rw [FIN.out]; rfl, Qt.refl _⟩
end Go.Proofs.YtnnkibhlildojaaDoor
