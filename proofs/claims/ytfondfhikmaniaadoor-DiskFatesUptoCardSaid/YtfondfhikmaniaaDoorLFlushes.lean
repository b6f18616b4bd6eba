/-
  DiskFlushes, walked.
-/
import Derived.Test.YtfondfhikmaniaaDoorLMade
import Derived.Test.YtfondfhikmaniaaDoorLLives
namespace Go.Proofs.YtfondfhikmaniaaDoor
open Go.RowKit Go.WideShapes
set_option maxRecDepth 100000

theorem flat_snoc {D : List (List UInt8)} {k : Nat} (h : k < D.length) : (D.take (k + 1)).flatten = (D.take k).flatten ++ D.getD k [] := by
  rw [List.take_succ_eq_append_getElem h, List.flatten_append]
  simp [List.getD, h]
theorem cat_mk (A B : List UInt8) : (⟨A.toArray⟩ : ByteArray) ++ ⟨B.toArray⟩ = ⟨(A ++ B).toArray⟩ := by
  apply ByteArray.ext
  rw [ByteArray.data_append]
  simp

theorem Script.qt {W W' : World} {v : Value} {g off : Nat} {os : List OpD} (h : Script W v g off os) (q : Qt W W') : Script W' v g off os :=
  ⟨h.val, h.le, fun k o hk j u hj => q.cellv (h.cells k o hk j u hj), fun k o hk => ⟨(h.each k o hk).1, (h.each k o hk).2.qt q⟩⟩

structure FlushedI (N : Nat) (d : DS) : Prop where
  off : d.off = false
  armed : d.armed = -1
  len : d.dur.length = N
  ways : d.ways = []
  few : d.Few

theorem FlushedI.of {N k : Nat} {d : DS} (h : MadeI N k d) (hk : k ≤ 1048576) : d.flushE = 0 ∧ FlushedI N d.flushD := by
  have h' := h.flush
  refine ⟨?_, h'.off, h'.armed, h'.len, ?_, h'.few (by omega)⟩
  · unfold DS.flushE; rw [h.off, h.armed]; rfl
  · unfold DS.flushD; rw [h.off, h.armed]; rfl
theorem FlushedI.reach {N : Nat} {d : DS} (h : FlushedI N d) {i : Nat} (hi : i < N) : d.reach i = 0 := by
  have hl := h.len
  unfold DS.reach
  rw [h.off]
  simp
  omega
theorem FlushedI.read {N : Nat} {d : DS} (h : FlushedI N d) {i : Nat} (hi : i < N) : d.readE i = d.dur.getD i [] := by
  unfold DS.readE
  rw [if_pos (h.reach hi)]
  unfold DS.read
  rw [h.ways]
  rfl
theorem FlushedI.crash {N : Nat} {d : DS} (h : FlushedI N d) (f : FT) : (d.crashD f).image = d.image ∧ (d.crashD f).off = false := by
  refine ⟨?_, rfl⟩
  unfold DS.crashD DS.image
  rw [h.ways]
  rfl

/-- The state of DiskFlushes' loop. -/
def FlAt (N : Nat) (w0 : World) (b : Nat) (d : DS) (av iv : Value) (wr : World) : Prop :=
  ∃ k : Nat, k ≤ N ∧ iv = .int .i64 k ∧ av = .string ⟨(d.dur.take k).flatten.toArray⟩ ∧ Own w0.heap.size wr b d ∧ Since w0.heap.size w0 wr

set_option maxHeartbeats 3200000 in
theorem flushes_any (ad : Nat → Addr) (n : Int) (_lo : -9223372036854775808 ≤ n) (_hi : n ≤ 9223372036854775807) (v : Value) (g off : Nat) (os : List OpD) (kv : Value) (f : FT) (w : World) (hE : Errs ad w) (hs : Script w v g off os) (hB : Bools w kv f.kept) (hkl : f.kept.length ≤ 1048576) :
    Calls Tryd.prog 5 #[.int .i64 n, v, fateV kv f] w fun e w' => e = .returned (.bool true) ∧ Qt w w' := by
  have hle := hs.le
  obtain ⟨hN0, hN1⟩ := madeN_bd n
  have v0 := Lib.hid (errV_zero ad)
  have hB' := hB
  obtain ⟨ka, kc, hkv, _⟩ := hB'
  subst hkv
  obtain ⟨wF, hwF⟩ : ∃ wF, w.alloc (.cells #[.slice ka f.kept.length kc, .int .i64 f.torn, .int .i64 f.bytes] 40) = wF := ⟨_, rfl⟩
  have qF : Qt w wF := hwF ▸ (Qt.refl w).alloc _
  have hbl : wF.heap[w.heap.size]? = some (.cells #[.slice ka f.kept.length kc, .int .i64 f.torn, .int .i64 f.bytes] 40 (0, 0)) := hwF ▸ heap_alloc_new w _
  have HE := Lib.hid (hE.kept qF (OffErrs.none ad))
  have HSC := Lib.hid (hs.qt qF)
  have HB := Lib.hid (hB.qt qF)
  have HQF := Lib.hid qF
  have HBL := Lib.hid hbl
  have HWF := Lib.hid hwF
  clear hs hB hE qF hbl hwF
  unfold fateV
  go_enter Tryd.func5, Tryd.ntmps5
  go_wp2_with fail
  rw [HWF.out]
  refine (lives_any ad wF HE.out).mono ?_
  rintro e w1 ⟨rfl, q1⟩
  have HS1 := Lib.hid (Qt.since (B := wF.heap.size) q1)
  clear q1
  go_wp2_with fail
  refine (made_any ad n v g off os wF w1 HE.out HSC.out HS1.out).mono ?_
  rintro e w2 ⟨b, d0, rfl, hI, h2, S2⟩
  obtain ⟨N, hN⟩ : ∃ N, madeN n = N := ⟨_, rfl⟩
  rw [hN] at hI hN0 hN1
  rw [hN]
  have HF0 := Lib.hid (hI.few (by omega))
  obtain ⟨hfe, hfi⟩ := FlushedI.of hI (by omega)
  have HFE := Lib.hid hfe
  have HFI := Lib.hid hfi
  have H2 := Lib.hid h2
  have HS2 := Lib.hid S2
  clear h2 S2 hI hfe hfi
  go_wp2_with fail
  refine (own_flush HE.out HS2.out H2.out HF0.out).mono ?_
  rintro e w3 ⟨rfl, h3, S3⟩
  rw [HFE.out, v0.out]
  obtain ⟨d, hd⟩ : ∃ d, d0.flushD = d := ⟨_, rfl⟩
  rw [hd] at HFI h3
  have H3 := Lib.hid h3
  have HS3 := Lib.hid S3
  clear h3 S3
  go_wp2_with fail
  refine (pending_any H3.out).mono ?_
  rintro e w4 ⟨rfl, rfl⟩
  rw [HFI.out.ways]
  go_wp2_with fail
  go_loopw [8, 9] (fun av iv wr => FlAt N wF b d av iv wr) (fun _ iv _ => N - (intOf iv).toNat)
  case atStart => exact ⟨0, Nat.zero_le _, rfl, rfl, H3.out, HS3.out⟩
  case round =>
    obtain ⟨k, hk, rfl, rfl, hO, hS⟩ := hrel
    have hln := HFI.out.len
    by_cases hlt : k < N
    · have HO := Lib.hid hO
      have HSW := Lib.hid hS
      have HR := Lib.hid (HFI.out.reach hlt)
      have HRE := Lib.hid (HFI.out.read hlt)
      have HCAT := Lib.hid ((cat_mk (d.dur.take k).flatten (d.dur.getD k [])).trans (congrArg (fun l : List UInt8 => (⟨l.toArray⟩ : ByteArray)) (flat_snoc (D := d.dur) (k := k) (by omega)).symm))
      have hx1 := flat_len (D := d.dur) (fun i t hi => hO.ok.each i t hi) k (by omega)
      have hy1 := getD_length (fun i t hi => hO.ok.each i t hi) (show k < d.dur.length by omega)
      obtain ⟨X, hX⟩ : ∃ X : ByteArray, ⟨(d.dur.take k).flatten.toArray⟩ = X := ⟨_, rfl⟩
      obtain ⟨Y, hY⟩ : ∃ Y : ByteArray, ⟨(d.dur.getD k []).toArray⟩ = Y := ⟨_, rfl⟩
      rw [hX, hY] at HCAT
      have hxs : X.size = (d.dur.take k).flatten.length := by rw [← hX]; exact List.size_toArray ..
      have hys : Y.size = 256 := by rw [← hY]; exact (List.size_toArray ..).trans hy1
      have hadd : ¬ (9223372036854775807 < X.size + Y.size) := by omega
      rw [hX]
      clear hO hS hx1 hy1 hxs hys
      go_wp2_with fail
      refine (own_read HE.out HSW.out HO.out k).mono ?_
      rintro e wx ⟨rfl, rfl⟩
      rw [HR.out, HRE.out, v0.out, hY]
      have FF := Lib.hid (show FlAt N wF b d (.string ⟨(d.dur.take (k + 1)).flatten.toArray⟩) (.int .i64 ((k : Int) + 1)) wr from ⟨k + 1, hlt, by simp, rfl, HO.out, HSW.out⟩)
      go_wp2_with fail
      rw [HCAT.out]
      go_roundw
      case rel => exact FF.out
      case measure => simp [intOf]; omega
    · obtain rfl : k = N := by omega
      have HO := Lib.hid hO
      have HSW := Lib.hid hS
      have hall : (d.dur.take k).flatten = d.image := by rw [List.take_of_length_le (by omega)]; rfl
      rw [hall]
      clear hO hS hall hlt
      go_wp2_with fail
      refine (own_image HSW.out HO.out).mono ?_
      rintro e w5 ⟨rfl, h5, S5, _⟩
      have H5 := Lib.hid h5
      have HS5 := Lib.hid S5
      have hb5 : w5.heap[w.heap.size]? = some (.cells #[.slice ka f.kept.length kc, .int .i64 f.torn, .int .i64 f.bytes] 40 (0, 0)) := (S5.block _ (lt_of_block HBL.out) (fun e => absurd (lt_of_block HBL.out) (Nat.not_lt_of_le e))).trans HBL.out
      have c0 : w5.cell? ⟨w.heap.size, 0, none⟩ = some (.slice ka f.kept.length kc) := by rw [cell_of_row _ _ _ _ _ _ hb5]; rfl
      have c1 : w5.cell? ⟨w.heap.size, 1, none⟩ = some (.int .i64 f.torn) := by rw [cell_of_row _ _ _ _ _ _ hb5]; rfl
      have c2 : w5.cell? ⟨w.heap.size, 2, none⟩ = some (.int .i64 f.bytes) := by rw [cell_of_row _ _ _ _ _ _ hb5]; rfl
      have HB5 := Lib.hid hb5
      clear hb5
      have hself : (d.image != d.image) = false := bne_self_eq_false _
      clear h5 S5
      obtain ⟨I, hIm⟩ : ∃ I, d.image = I := ⟨_, rfl⟩
      rw [hIm] at hself
      rw [hIm]
      go_wp2_with fail
      clear c0 c1 c2
      refine (spare_any (.slice ka f.kept.length kc) f w5 (HB.out.kept HS5.out (fun a n c e hn q => by have := Bools.block HB.out a n c e hn; omega)) hkl).mono ?_
      rintro e wS ⟨v', full, B, cc, rfl, SP⟩
      have HSP := Lib.hid SP
      clear SP
      obtain rfl := HSP.out.v
      have hbS : wS.heap[w.heap.size]? = some (.cells #[.slice ka f.kept.length kc, .int .i64 f.torn, .int .i64 f.bytes] 40 (0, 0)) := (HSP.out.qt.block _ (lt_of_block (HB5.out)) (fun e => e)).trans HB5.out
      have c0 : wS.cell? ⟨w.heap.size, 0, none⟩ = some (.slice ka f.kept.length kc) := by rw [cell_of_row _ _ _ _ _ _ hbS]; rfl
      have c1 : wS.cell? ⟨w.heap.size, 1, none⟩ = some (.int .i64 f.torn) := by rw [cell_of_row _ _ _ _ _ _ hbS]; rfl
      have c2 : wS.cell? ⟨w.heap.size, 2, none⟩ = some (.int .i64 f.bytes) := by rw [cell_of_row _ _ _ _ _ _ hbS]; rfl
      have f0 := frozen_of_row hbS 0
      have f1 := frozen_of_row hbS 1
      have f2 := frozen_of_row hbS 2
      have HBS := Lib.hid hbS
      clear hbS
      unfold fateV
      go_wp2_with fail
      have k6 := keeps3 wS w.heap.size (.slice (some ⟨B, 0, none⟩) f.kept.length cc) (.int .i64 f.torn) (.int .i64 f.bytes)
      have r6 := row3 HBS.out (.slice (some ⟨B, 0, none⟩) f.kept.length cc) (.int .i64 f.torn) (.int .i64 f.bytes)
      obtain ⟨W6, hW6⟩ : ∃ W, ((wS.setCell ⟨w.heap.size, 0, none⟩ (.slice (some ⟨B, 0, none⟩) f.kept.length cc)).setCell ⟨w.heap.size, 1, none⟩ (.int .i64 f.torn)).setCell ⟨w.heap.size, 2, none⟩ (.int .i64 f.bytes) = W := ⟨_, rfl⟩
      rw [hW6] at k6 r6
      rw [hW6]
      have l0 : w.heap.size < wF.heap.size := lt_of_block HBL.out
      have l5 : wF.heap.size ≤ w5.heap.size := HS5.out.size
      have lB := HSP.out.new
      have D6 : DiskAt W6 b d (fun k => wF.heap.size ≤ k ∧ k < w5.heap.size) := DiskAt.kept (DiskAt.qt H5.out.there HSP.out.qt) k6 (fun q hq e => by omega)
      have B6 := Bools.kept (HSP.out.bools (by omega) (Qt.refl wS)) k6 (fun a n c e hn q => by
        injection e with e _ _
        injection e with e
        subst e
        simp only at q
        omega)
      have c0 : W6.cell? ⟨w.heap.size, 0, none⟩ = some (.slice (some ⟨B, 0, none⟩) f.kept.length cc) := by rw [cell_of_row _ _ _ _ _ _ r6]; rfl
      have c1 : W6.cell? ⟨w.heap.size, 1, none⟩ = some (.int .i64 f.torn) := by rw [cell_of_row _ _ _ _ _ _ r6]; rfl
      have c2 : W6.cell? ⟨w.heap.size, 2, none⟩ = some (.int .i64 f.bytes) := by rw [cell_of_row _ _ _ _ _ _ r6]; rfl
      have S6 : Since w.heap.size w W6 := ((Qt.since HQF.out).step (Keeps.mono HS5.out (fun k _ (e : wF.heap.size ≤ k) => (show w.heap.size ≤ k by omega)) : Keeps (fun k => w.heap.size ≤ k) wF w5) (fun _ e => e)).step (Keeps.trans (HSP.out.qt.mono (fun _ _ e => e.elim)) k6 (fun _ _ e => e)) (fun k e => by omega)
      have HD6 := Lib.hid D6
      have HB6 := Lib.hid B6
      have HS6 := Lib.hid S6
      have HSB := Lib.hid (show w5.heap.size ≤ B from lB)
      clear k6 r6 hW6 D6 B6 S6 l0 l5 lB f0 f1 f2
      go_wp2_with fail
      have HCR := crash_any W6 b d _ HD6.out HFI.out.few (.slice (some ⟨B, 0, none⟩) f.kept.length cc) f HB6.out (fun a n c e n0 q => by
        injection e with e _ _
        injection e with e
        subst e
        have := HSB.out
        simp only at q
        omega)
      unfold fateV at HCR
      refine HCR.mono ?_
      rintro e w7 ⟨rfl, D7, K7⟩
      have HD7 := Lib.hid D7
      have HS7 := Lib.hid (HS6.out.step K7 (fun k e => by have := HS5.out.size; have := lt_of_block HBL.out; omega))
      obtain ⟨hc1, hc2⟩ := HFI.out.crash f
      rw [hIm] at hc1
      have HC1 := Lib.hid hc1
      have HC2 := Lib.hid hc2
      clear D7 K7 hc1 hc2 HCR
      obtain ⟨dc, hdc⟩ : ∃ dc, d.crashD f = dc := ⟨_, rfl⟩
      rw [hdc] at HD7 HC1 HC2
      go_wp2_with fail
      refine (image_any w7 b dc _ HD7.out).mono ?_
      rintro e w8 ⟨rfl, q8⟩
      rw [HC1.out]
      have heq : (I == I) = true := beq_self_eq_true _
      have HD8 := Lib.hid (DiskAt.qt HD7.out q8)
      have HQ := Lib.hid (Since.qt (HS7.out.step q8 (fun _ e => e.elim)))
      clear q8
      go_wp2_with fail
      refine (off_any HD8.out).mono ?_
      rintro e w9 ⟨rfl, rfl⟩
      rw [HC2.out]
      go_wp2
      go_ret
      exact ⟨rfl, HQ.out⟩
end Go.Proofs.YtfondfhikmaniaaDoor
