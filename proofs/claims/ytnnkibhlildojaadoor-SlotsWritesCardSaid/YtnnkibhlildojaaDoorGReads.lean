/-
  The contract of remitlaw08.SlotsReads: it answers true.
-/
import Derived.Test.YtnnkibhlildojaaDoorGLives
import Derived.Test.YtnnkibhlildojaaDoorDNum
import Derived.Test.YtnnkibhlildojaaDoorGRefR
namespace Go.Proofs.YtnnkibhlildojaaDoor
open Go.RowKit Go.WideShapes
set_option maxRecDepth 100000

section
variable {ad : Nat → Addr} {w0 w : World} {b : Nat} {d : DS}
theorem own_from (hE : Errs ad w0) (hS : Since w0.heap.size w0 w) (s : ByteArray) (n : Nat) (hz : s.size = n * 256) (h1 : 1 ≤ n) (h2 : n ≤ 65536) :
    Calls Tryd.prog 9 #[.string s] w fun e w' => ∃ b, e = .returned (.tuple #[.pointer (some ⟨b, 0, none⟩), .nilIface]) ∧ Own w0.heap.size w' b (DS.fromD s.data.toList n) ∧ Since w0.heap.size w0 w' := by
  have hq : s.size / 256 = n := by rw [hz]; exact Nat.mul_div_cancel _ (by decide)
  have hm : s.size % 256 = 0 := by rw [hz]; exact Nat.mul_mod_left _ _
  refine (from_any ad s w (errs_since hE hS) (by omega)).mono ?_
  rintro e w' (⟨h, _⟩ | ⟨_, h, _⟩ | ⟨_, _, _, b, he, hD, q⟩)
  · exact absurd hm h
  · exact absurd ⟨by omega, by omega⟩ h
  · rw [hq] at hD
    exact ⟨b, he, Own.grow hS.size (fun _ h => h.elim) hD, since_qt hS q⟩
end
theorem tellS_num (o : Option (Nat × List UInt8)) : (tellS o).2.2 ≤ 37 := by
  cases o with
  | none => show 14 ≤ 37; decide
  | some a => show 0 ≤ 37; decide
theorem readI_num (l : List UInt8) (i : Int) : (readI l i).2.2 ≤ 37 := by
  unfold readI
  split
  · show 6 ≤ 37; decide
  · exact tellS_num _

set_option maxHeartbeats 1600000 in
theorem reads8_any (ad : Nat → Addr) (s : ByteArray) (i : Int) (w : World) (hE : Errs ad w) (hT : Tab w) :
    Calls Tryd.prog 3 #[.string s, .int .i64 i] w fun e w' => e = .returned (.bool true) ∧ Qt w w' := by
  have HE := Lib.hid hE
  have HT := Lib.hid hT
  have LV := lives8_any ad w hE hT
  have FI := fit_any s
  clear hE hT
  by_cases hf : 0 < s.size ∧ s.size % 256 = 0 ∧ s.size ≤ 32768
  · rw [decide_eq_true hf] at FI
    obtain ⟨n, hz⟩ : ∃ n, s.size = n * 256 := ⟨s.size / 256, by omega⟩
    have h1 : 1 ≤ n := by omega
    have h2 : n ≤ 128 := by omega
    have hl : s.data.toList.length = n * 256 := by rw [dlen7]; exact hz
    have FR := Lib.hid (fun W (q : Since w.heap.size w W) => own_from HE.out q s n hz h1 (by omega))
    have RR := Lib.hid (fun W => readRef_any s n hz h2 i W)
    have RD := Lib.hid (fun W (q : Since w.heap.size w W) (b : Nat) (h : Own w.heap.size W b (DS.fromD s.data.toList n)) => own_slotsRead HE.out HT.out q h i)
    have hN := readI_num s.data.toList i
    have IM : (⟨(DS.fromD s.data.toList n).image.toArray⟩ : ByteArray) = s := (of_list (fromD_image hl).symm).symm
    have CN : ((DS.fromD s.data.toList n).wr = 0 ∧ (DS.fromD s.data.toList n).fl = 0) := ⟨rfl, rfl⟩
    rw [fromD_reads hl] at RD
    unfold readT at RD
    have FI2 := Lib.hid FI
    clear hf hl FI hz
    generalize DS.fromD s.data.toList n = d at *
    generalize readI s.data.toList i = R at *
    obtain ⟨X, v, k⟩ := R
    simp only at RD RR hN
    generalize (⟨X.toArray⟩ : ByteArray) = Y at *
    have NU := Lib.hid (fun W (q : Since w.heap.size w W) (b : Nat) (h : Own w.heap.size W b d) => own_num HE.out q h k hN)
    have IMH := Lib.hid IM
    obtain ⟨c1, c2⟩ := CN
    have C1 := Lib.hid c1
    have C2 := Lib.hid c2
    clear IM c1 c2 hN h1 h2
    go_enter Tryd.func3, Tryd.ntmps3
    go_wp2_with fail
    refine LV.mono ?_
    rintro e w1 ⟨rfl, q1⟩
    have K1 := Lib.hid (Qt.since (B := w.heap.size) q1)
    clear q1 LV
    go_wp2_with fail
    refine (FI2.out w1).mono ?_
    rintro e w2 ⟨rfl, rfl⟩
    go_wp2_with fail
    refine (FR.out _ K1.out).mono ?_
    rintro e w3 ⟨b, rfl, h3, S3⟩
    have H3 := Lib.hid h3
    have K3 := Lib.hid S3
    clear h3 S3
    go_wp2_with fail
    refine (RD.out _ K3.out b H3.out).mono ?_
    rintro e w4 ⟨rfl, h4, S4, _⟩
    have H4 := Lib.hid h4
    have K4 := Lib.hid S4
    clear h4 S4
    go_wp2_with fail
    refine (RR.out _).mono ?_
    rintro e w5 ⟨rfl, q5⟩
    have H5 := Lib.hid (H4.out.qt q5)
    have K5 := Lib.hid (since_qt K4.out q5)
    clear q5
    go_wp2_with fail
    refine (counts_any H5.out).mono ?_
    rintro e w6 ⟨rfl, q6⟩
    have H6 := Lib.hid (H5.out.qt q6)
    have K6 := Lib.hid (since_qt K5.out q6)
    clear q6
    rw [C1.out, C2.out]
    go_wp2_with fail
    refine (NU.out _ K6.out b H6.out).mono ?_
    rintro e w7 ⟨rfl, h7, S7, _⟩
    have H7 := Lib.hid h7
    have K7 := Lib.hid S7
    clear h7 S7
    go_wp2_with fail
    refine (own_image K7.out H7.out).mono ?_
    rw [IMH.out]
    rintro e w8 ⟨rfl, h8, S8, _⟩
    have K8 := Lib.hid S8
    clear h8 S8
    go_wp2
    go_ret
    exact ⟨rfl, K8.out.qt⟩
  · rw [decide_eq_false hf] at FI
    clear hf
    go_enter Tryd.func3, Tryd.ntmps3
    go_wp2_with fail
    refine LV.mono ?_
    rintro e w1 ⟨rfl, q1⟩
    have K1 := Lib.hid q1
    clear q1 LV
    go_wp2_with fail
    refine (FI w1).mono ?_
    rintro e w2 ⟨rfl, rfl⟩
    go_wp2
    go_ret
    exact ⟨rfl, K1.out⟩
end Go.Proofs.YtnnkibhlildojaaDoor
