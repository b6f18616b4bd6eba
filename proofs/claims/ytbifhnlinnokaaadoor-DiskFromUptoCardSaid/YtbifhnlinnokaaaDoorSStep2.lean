/-
  The contract of remitlaw06.step: what is asked and what is armed.
-/
import Derived.Test.YtbifhnlinnokaaaDoorSStep
namespace Go.Proofs.YtbifhnlinnokaaaDoor
open Go.RowKit Go.WideShapes
set_option maxRecDepth 100000
section
variable {ad : Nat → Addr} {w0 w : World} {j b c k : Nat} {d : DS}

set_option maxHeartbeats 3200000 in
theorem step_ask (kd : Int) (h0 : kd ≠ 0) (h1 : kd ≠ 1) (h2 : kd ≠ 2) (h3 : kd ≠ 3) (h4 : kd ≠ 4) (h6 : kd ≠ 6) (hE : Errs ad w0) (h : Pair j w0 w b c d d) (hI : PlayI k d) (hk : k ≤ 3000000) (i : Int) (s : ByteArray) (fill : UInt8) (okv : Value) (f : FT) :
    Calls Tryd.prog 24 #[.pointer (some ⟨b, 0, none⟩), .pointer (some ⟨c, 0, none⟩), OpD.val ⟨kd, i, s, fill, okv, f⟩] w (StepP w0 b c k) := by
  obtain ⟨WA, hWA, qA, _⟩ := laid_op w ⟨kd, i, s, fill, okv, f⟩
  simp only at hWA
  have hz := World.size_alloc w (.cells #[.int .i64 kd, .int .i64 i, .string s, .int .u8 fill.toNat, okv, .int .i64 f.torn, .int .i64 f.bytes] 44)
  rw [hWA] at hz
  have hb : WA.heap[w.heap.size]? = some (.cells (OpD.list ⟨kd, i, s, fill, okv, f⟩).toArray 44 (0, 0)) := hWA ▸ heap_alloc_new w _
  have HA := Lib.hid ((h.mine w.heap.size (Nat.le_refl _)).qt qA)
  have HE := Lib.hid hE
  have HI := Lib.hid hI
  have HF := Lib.hid (hI.few hk)
  have HB := Lib.hid hb
  have HWA := Lib.hid hWA
  have HZ := Lib.hid (show w.heap.size < WA.heap.size by omega)
  clear h hI hE hb hWA qA hz
  have b0 : (kd == 0) = false := beq_eq_false_iff_ne.2 h0
  have b1 : (kd == 1) = false := beq_eq_false_iff_ne.2 h1
  have b2 : (kd == 2) = false := beq_eq_false_iff_ne.2 h2
  have b3 : (kd == 3) = false := beq_eq_false_iff_ne.2 h3
  have b4 : (kd == 4) = false := beq_eq_false_iff_ne.2 h4
  have b6 : (kd == 6) = false := beq_eq_false_iff_ne.2 h6
  clear h0 h1 h2 h3 h4 h6
  unfold OpD.val
  go_enter Tryd.func24, Tryd.ntmps24
  go_wp2_with fail
  rw [HWA.out]
  obtain ⟨S, T, dA, ⟨sv, wv, P, hT⟩, _⟩ := HA.out
  obtain ⟨wa, wc, hwv, _⟩ := own_slice P.ways
  subst hwv
  have HDA := Lib.hid dA
  have HPP := Lib.hid P
  clear dA P
  refine (counts_any HDA.out).mono ?_
  rintro e wC ⟨rfl, qC⟩
  have HPC := Lib.hid (HA.out.qt qC)
  have HDC := Lib.hid (HDA.out.qt qC)
  have PC := HPP.out.kept qC (fun _ _ e => e)
  have r1 : wC.cell? ⟨c, 1, none⟩ = some (.slice wa d.ways.length wc) := PC.cell 1 _ rfl
  have r2 : wC.cell? ⟨c, 2, none⟩ = some (.bool d.off) := PC.cell 2 _ rfl
  have r5 : wC.cell? ⟨c, 5, none⟩ = some (.int .i64 d.wr) := PC.cell 5 _ rfl
  have r6 : wC.cell? ⟨c, 6, none⟩ = some (.int .i64 d.fl) := PC.cell 6 _ rfl
  have r7 : wC.cell? ⟨c, 7, none⟩ = some (.int .i64 d.cr) := PC.cell 7 _ rfl
  have HPD := Lib.hid PC
  clear PC qC
  go_wp2_with fail
  have e1 : ((d.wr : Int) == (d.wr : Int)) = true := beq_self_eq_true _
  have e2 : ((d.fl : Int) == (d.fl : Int)) = true := beq_self_eq_true _
  have e3 : ((d.ways.length : Int) == (d.ways.length : Int)) = true := beq_self_eq_true _
  have e4 : (d.off == d.off) = true := beq_self_eq_true _
  have e5 : ((d.cr : Int) == (d.cr : Int)) = true := beq_self_eq_true _
  have e6 : ((d.dur.length : Int) == (d.dur.length : Int)) = true := beq_self_eq_true _
  have HK := Lib.hid (fun W' (q : Qt wC W') => (show Qt wC W' ∧ W'.cell? ⟨c, 1, none⟩ = some (.slice wa d.ways.length wc) ∧ W'.cell? ⟨c, 2, none⟩ = some (.bool d.off) ∧ W'.cell? ⟨c, 5, none⟩ = some (.int .i64 d.wr) ∧ W'.cell? ⟨c, 6, none⟩ = some (.int .i64 d.fl) ∧ W'.cell? ⟨c, 7, none⟩ = some (.int .i64 d.cr) from ⟨q, Qt.cellv q r1, Qt.cellv q r2, Qt.cellv q r5, Qt.cellv q r6, Qt.cellv q r7⟩))
  go_region_held (fun W' => Qt wC W' ∧ W'.cell? ⟨c, 1, none⟩ = some (.slice wa d.ways.length wc) ∧ W'.cell? ⟨c, 2, none⟩ = some (.bool d.off) ∧ W'.cell? ⟨c, 5, none⟩ = some (.int .i64 d.wr) ∧ W'.cell? ⟨c, 6, none⟩ = some (.int .i64 d.fl) ∧ W'.cell? ⟨c, 7, none⟩ = some (.int .i64 d.cr))
    (first | exact HK.out _ (Keeps.drew (Qt.refl _)) | exact HK.out _ (Qt.refl _) | exact HK.out _ (by assumption))
    (first | (go_at_call 15; refine (pending_any (DiskAt.qt HDC.out (Keeps.drew (Qt.refl wC)))).mono ?_; rintro e wa1 ⟨rfl, rfl⟩) | (go_at_call 18; refine (off_any (DiskAt.qt HDC.out (Keeps.drew (Qt.refl wC)))).mono ?_; rintro e wa1 ⟨rfl, rfl⟩) | (go_at_call 21; refine (life_any (DiskAt.qt HDC.out (Keeps.drew (Qt.refl wC)))).mono ?_; rintro e wa1 ⟨rfl, rfl⟩) | (go_at_call 12; refine (size_any (DiskAt.qt HDC.out (Keeps.drew (Qt.refl wC)))).mono ?_; rintro e wa1 ⟨rfl, rfl⟩) | (go_at_call 40; refine (ref_size (HPD.out.kept (Keeps.drew (Qt.refl wC)) (fun _ _ e => e))).mono ?_; rintro e wa1 ⟨rfl, rfl⟩))
  all_goals
    have FIN := Lib.hid (show StepP w0 b c k (.returned (.bool true)) wC.drew from ⟨rfl, _, d, HI.out.skip, HPC.out.qt (Keeps.drew (Qt.refl _))⟩)
    go_wp2
    go_ret
    exact FIN.out

set_option maxHeartbeats 3200000 in
theorem step_arm (hE : Errs ad w0) (h : Pair j w0 w b c d d) (hI : PlayI k d) (hk : k ≤ 3000000) (i : Int) (s : ByteArray) (fill : UInt8) (okv : Value) (f : FT) (hi : i ≤ 9223372036854775807) :
    Calls Tryd.prog 24 #[.pointer (some ⟨b, 0, none⟩), .pointer (some ⟨c, 0, none⟩), OpD.val ⟨3, i, s, fill, okv, f⟩] w (StepP w0 b c k) := by
  obtain ⟨WA, hWA, qA, _⟩ := laid_op w ⟨3, i, s, fill, okv, f⟩
  simp only at hWA
  have hz := World.size_alloc w (.cells #[.int .i64 3, .int .i64 i, .string s, .int .u8 fill.toNat, okv, .int .i64 f.torn, .int .i64 f.bytes] 44)
  rw [hWA] at hz
  have hb : WA.heap[w.heap.size]? = some (.cells (OpD.list ⟨3, i, s, fill, okv, f⟩).toArray 44 (0, 0)) := hWA ▸ heap_alloc_new w _
  have c1a : (w.alloc (.cells #[.int .i64 3, .int .i64 i, .string s, .int .u8 fill.toNat, okv, .int .i64 f.torn, .int .i64 f.bytes] 44)).cell? ⟨w.heap.size, 1, none⟩ = some (.int .i64 i) := by rw [hWA]; exact op_cell hb 1 _ rfl
  have HA := Lib.hid ((h.mine w.heap.size (Nat.le_refl _)).qt qA)
  have HE := Lib.hid hE
  have HI := Lib.hid hI
  have HF := Lib.hid (hI.few hk)
  have HB := Lib.hid hb
  have HWA := Lib.hid hWA
  have HZ := Lib.hid (show w.heap.size < WA.heap.size by omega)
  clear h hI hE hb hWA qA hz
  unfold OpD.val
  go_enter Tryd.func24, Tryd.ntmps24
  go_wp2_with fail
  rw [HWA.out]
  refine (pair_arm HZ.out HA.out i hi).mono ?_
  rintro e w2 ⟨rfl, P2, K2⟩
  have HP2 := Lib.hid P2
  have HZ2 := Lib.hid (Nat.lt_of_lt_of_le HZ.out K2.size)
  have c1 : w2.cell? ⟨w.heap.size, 1, none⟩ = some (.int .i64 i) := op_cell (op_kept HB.out K2) 1 _ rfl
  clear P2 K2
  go_wp2_with fail
  refine (pairR_arm HZ2.out HP2.out i hi).mono ?_
  rintro e w3 ⟨rfl, P3, K3⟩
  have HIA := Lib.hid (HI.out.arm i)
  obtain ⟨v, hv⟩ : ∃ v, d.armD i = v := ⟨_, rfl⟩
  rw [hv] at P3 HIA
  have HP3 := Lib.hid P3
  clear P3 K3 hv
  go_wp2_with fail
  obtain ⟨S, T, dA, ⟨sv, wv, P, hT⟩, _⟩ := HP3.out
  obtain ⟨wa, wc, hwv, _⟩ := own_slice P.ways
  subst hwv
  have HDA := Lib.hid dA
  have HPP := Lib.hid P
  clear dA P
  refine (counts_any HDA.out).mono ?_
  rintro e wC ⟨rfl, qC⟩
  have HPC := Lib.hid (HP3.out.qt qC)
  have HDC := Lib.hid (HDA.out.qt qC)
  have PC := HPP.out.kept qC (fun _ _ e => e)
  have r1 : wC.cell? ⟨c, 1, none⟩ = some (.slice wa v.ways.length wc) := PC.cell 1 _ rfl
  have r2 : wC.cell? ⟨c, 2, none⟩ = some (.bool v.off) := PC.cell 2 _ rfl
  have r5 : wC.cell? ⟨c, 5, none⟩ = some (.int .i64 v.wr) := PC.cell 5 _ rfl
  have r6 : wC.cell? ⟨c, 6, none⟩ = some (.int .i64 v.fl) := PC.cell 6 _ rfl
  have r7 : wC.cell? ⟨c, 7, none⟩ = some (.int .i64 v.cr) := PC.cell 7 _ rfl
  have HPD := Lib.hid PC
  clear PC qC
  go_wp2_with fail
  have e1 : ((v.wr : Int) == (v.wr : Int)) = true := beq_self_eq_true _
  have e2 : ((v.fl : Int) == (v.fl : Int)) = true := beq_self_eq_true _
  have e3 : ((v.ways.length : Int) == (v.ways.length : Int)) = true := beq_self_eq_true _
  have e4 : (v.off == v.off) = true := beq_self_eq_true _
  have e5 : ((v.cr : Int) == (v.cr : Int)) = true := beq_self_eq_true _
  have e6 : ((v.dur.length : Int) == (v.dur.length : Int)) = true := beq_self_eq_true _
  have HK := Lib.hid (fun W' (q : Qt wC W') => (show Qt wC W' ∧ W'.cell? ⟨c, 1, none⟩ = some (.slice wa v.ways.length wc) ∧ W'.cell? ⟨c, 2, none⟩ = some (.bool v.off) ∧ W'.cell? ⟨c, 5, none⟩ = some (.int .i64 v.wr) ∧ W'.cell? ⟨c, 6, none⟩ = some (.int .i64 v.fl) ∧ W'.cell? ⟨c, 7, none⟩ = some (.int .i64 v.cr) from ⟨q, Qt.cellv q r1, Qt.cellv q r2, Qt.cellv q r5, Qt.cellv q r6, Qt.cellv q r7⟩))
  go_region_held (fun W' => Qt wC W' ∧ W'.cell? ⟨c, 1, none⟩ = some (.slice wa v.ways.length wc) ∧ W'.cell? ⟨c, 2, none⟩ = some (.bool v.off) ∧ W'.cell? ⟨c, 5, none⟩ = some (.int .i64 v.wr) ∧ W'.cell? ⟨c, 6, none⟩ = some (.int .i64 v.fl) ∧ W'.cell? ⟨c, 7, none⟩ = some (.int .i64 v.cr))
    (first | exact HK.out _ (Keeps.drew (Qt.refl _)) | exact HK.out _ (Qt.refl _) | exact HK.out _ (by assumption))
    (first | (go_at_call 15; refine (pending_any (DiskAt.qt HDC.out (Keeps.drew (Qt.refl wC)))).mono ?_; rintro e wa1 ⟨rfl, rfl⟩) | (go_at_call 18; refine (off_any (DiskAt.qt HDC.out (Keeps.drew (Qt.refl wC)))).mono ?_; rintro e wa1 ⟨rfl, rfl⟩) | (go_at_call 21; refine (life_any (DiskAt.qt HDC.out (Keeps.drew (Qt.refl wC)))).mono ?_; rintro e wa1 ⟨rfl, rfl⟩) | (go_at_call 12; refine (size_any (DiskAt.qt HDC.out (Keeps.drew (Qt.refl wC)))).mono ?_; rintro e wa1 ⟨rfl, rfl⟩) | (go_at_call 40; refine (ref_size (HPD.out.kept (Keeps.drew (Qt.refl wC)) (fun _ _ e => e))).mono ?_; rintro e wa1 ⟨rfl, rfl⟩))
  all_goals
    have FIN := Lib.hid (show StepP w0 b c k (.returned (.bool true)) wC.drew from ⟨rfl, _, v, HIA.out, HPC.out.qt (Keeps.drew (Qt.refl _))⟩)
    go_wp2
    go_ret
    exact FIN.out
end
end Go.Proofs.YtbifhnlinnokaaaDoor
