/-
  The contract of remitlaw06.step.
-/
import Derived.Test.YtbifhnlinnokaaaDoorSPair
import Derived.Test.YtbifhnlinnokaaaDoorLArms
import Derived.Deep.RegionHeld
namespace Go.Proofs.YtbifhnlinnokaaaDoor
open Go.RowKit Go.WideShapes
set_option maxRecDepth 100000

structure PlayI (k : Nat) (d : DS) : Prop where
  ways : d.ways.length ≤ k
  wr : d.wr ≤ k
  fl : d.fl ≤ k
  cr : d.cr ≤ k
theorem PlayI.few {k : Nat} {d : DS} (h : PlayI k d) (hk : k ≤ 3000000) : d.Few := ⟨by have := h.ways; omega, by have := h.wr; omega, by have := h.fl; omega, by have := h.cr; omega⟩
theorem PlayI.skip {k : Nat} {d : DS} (h : PlayI k d) : PlayI (k + 1) d := ⟨Nat.le_succ_of_le h.ways, Nat.le_succ_of_le h.wr, Nat.le_succ_of_le h.fl, Nat.le_succ_of_le h.cr⟩
theorem PlayI.write {k : Nat} {d : DS} (h : PlayI k d) (i : Int) (s : List UInt8) : PlayI (k + 1) (d.writeD i s) := by
  have h1 := h.ways; have h2 := h.wr; have h3 := h.fl; have h4 := h.cr
  unfold DS.writeD
  repeat' split
  all_goals refine ⟨?_, ?_, ?_, ?_⟩ <;> first | omega | (simp; omega) | simp
theorem PlayI.flush {k : Nat} {d : DS} (h : PlayI k d) : PlayI (k + 1) d.flushD := by
  have h1 := h.ways; have h2 := h.wr; have h3 := h.fl; have h4 := h.cr
  unfold DS.flushD
  repeat' split
  all_goals refine ⟨?_, ?_, ?_, ?_⟩ <;> first | omega | (simp; omega) | simp
theorem PlayI.arm {k : Nat} {d : DS} (h : PlayI k d) (j : Int) : PlayI (k + 1) (d.armD j) := by
  have h1 := h.ways; have h2 := h.wr; have h3 := h.fl; have h4 := h.cr
  refine ⟨?_, ?_, ?_, ?_⟩ <;> simp [DS.armD] <;> omega
theorem PlayI.crash {k : Nat} {d : DS} (h : PlayI k d) (f : FT) : PlayI (k + 1) (d.crashD f) := by
  have h1 := h.ways; have h2 := h.wr; have h3 := h.fl; have h4 := h.cr
  refine ⟨?_, ?_, ?_, ?_⟩ <;> simp [DS.crashD] <;> omega

theorem reach_le (d : DS) (i : Int) : d.reach i ≤ 37 := by
  unfold DS.reach
  repeat' split
  all_goals omega
theorem writeE_le (d : DS) (i : Int) (s : List UInt8) : d.writeE i s ≤ 37 := by
  have := reach_le d i
  unfold DS.writeE
  repeat' split
  all_goals omega
theorem flushE_le (d : DS) : d.flushE ≤ 37 := by
  unfold DS.flushE
  repeat' split
  all_goals omega

/-- The step's own Op lies in block j. -/
theorem op_kept {j : Nat} {o : OpD} {W W' : World} (h : W.heap[j]? = some (.cells o.list.toArray 44 (0, 0))) (K : Keeps (fun k => k ≠ j) W W') : W'.heap[j]? = some (.cells o.list.toArray 44 (0, 0)) := (K.block j (lt_of_block h) (fun e => e rfl)).trans h
theorem op_cell {j : Nat} {o : OpD} {W : World} (h : W.heap[j]? = some (.cells o.list.toArray 44 (0, 0))) (i : Nat) (v : Value) (hv : o.list[i]? = some v) : W.cell? ⟨j, i, none⟩ = some v := by
  rw [cell_of_row _ _ _ _ _ _ h]; simpa using hv

def StepP (w0 : World) (b c k : Nat) (e : Ending) (w' : World) : Prop := e = .returned (.bool true) ∧ ∃ j d', PlayI (k + 1) d' ∧ Pair j w0 w' b c d' d'

section
variable {ad : Nat → Addr} {w0 w : World} {j b c k : Nat} {d : DS}

set_option maxHeartbeats 3200000 in
theorem step_read (hE : Errs ad w0) (h : Pair j w0 w b c d d) (hI : PlayI k d) (hk : k ≤ 3000000) (i : Int) (s : ByteArray) (fill : UInt8) (okv : Value) (f : FT) :
    Calls Tryd.prog 24 #[.pointer (some ⟨b, 0, none⟩), .pointer (some ⟨c, 0, none⟩), OpD.val ⟨0, i, s, fill, okv, f⟩] w (StepP w0 b c k) := by
  obtain ⟨WA, hWA, qA, _⟩ := laid_op w ⟨0, i, s, fill, okv, f⟩
  simp only at hWA
  have hz := World.size_alloc w (.cells #[.int .i64 0, .int .i64 i, .string s, .int .u8 fill.toNat, okv, .int .i64 f.torn, .int .i64 f.bytes] 44)
  rw [hWA] at hz
  have hb : WA.heap[w.heap.size]? = some (.cells (OpD.list ⟨0, i, s, fill, okv, f⟩).toArray 44 (0, 0)) := hWA ▸ heap_alloc_new w _
  have c1a : (w.alloc (.cells #[.int .i64 0, .int .i64 i, .string s, .int .u8 fill.toNat, okv, .int .i64 f.torn, .int .i64 f.bytes] 44)).cell? ⟨w.heap.size, 1, none⟩ = some (.int .i64 i) := by rw [hWA]; exact op_cell hb 1 _ rfl
  have HA := Lib.hid ((h.mine w.heap.size (Nat.le_refl _)).qt qA)
  have HE := Lib.hid hE
  have HI := Lib.hid hI
  have HF := Lib.hid (hI.few hk)
  have HB := Lib.hid hb
  have HWA := Lib.hid hWA
  clear h hI hE hb hWA qA hz
  unfold OpD.val
  go_enter Tryd.func24, Tryd.ntmps24
  go_wp2_with fail
  rw [HWA.out]
  refine (pair_read HE.out HA.out i).mono ?_
  rintro e wx ⟨rfl, rfl⟩
  have c1 : WA.cell? ⟨w.heap.size, 1, none⟩ = some (.int .i64 i) := op_cell HB.out 1 _ rfl
  obtain ⟨X, hX⟩ : ∃ X : ByteArray, ⟨(d.readE i).toArray⟩ = X := ⟨_, rfl⟩
  rw [hX]
  go_wp2_with fail
  refine (pairR_read HA.out HF.out i).mono ?_
  rintro e w2 ⟨rfl, q2⟩
  rw [hX]
  have HP2 := Lib.hid (HA.out.qt q2)
  have hself : (X.toList == X.toList) = true := beq_self_eq_true _
  clear q2 hX
  go_wp2_with fail
  refine (num_any ad (d.reach i) w2 (errs_since HE.out HP2.out.since) (reach_le d i)).mono ?_
  rintro e w3 ⟨rfl, q3⟩
  have hn : ((d.reach i : Int) == (d.reach i : Int)) = true := beq_self_eq_true _
  have FIN := Lib.hid (show StepP w0 b c k (.returned (.bool true)) w3 from ⟨rfl, _, d, HI.out.skip, HP2.out.qt q3⟩)
  clear q3
  go_wp2_with fail
  go_ret
  exact FIN.out

set_option maxHeartbeats 3200000 in
theorem step_flush (hE : Errs ad w0) (h : Pair j w0 w b c d d) (hI : PlayI k d) (hk : k ≤ 3000000) (i : Int) (s : ByteArray) (fill : UInt8) (okv : Value) (f : FT) :
    Calls Tryd.prog 24 #[.pointer (some ⟨b, 0, none⟩), .pointer (some ⟨c, 0, none⟩), OpD.val ⟨2, i, s, fill, okv, f⟩] w (StepP w0 b c k) := by
  obtain ⟨WA, hWA, qA, _⟩ := laid_op w ⟨2, i, s, fill, okv, f⟩
  simp only at hWA
  have hz := World.size_alloc w (.cells #[.int .i64 2, .int .i64 i, .string s, .int .u8 fill.toNat, okv, .int .i64 f.torn, .int .i64 f.bytes] 44)
  rw [hWA] at hz
  have hb : WA.heap[w.heap.size]? = some (.cells (OpD.list ⟨2, i, s, fill, okv, f⟩).toArray 44 (0, 0)) := hWA ▸ heap_alloc_new w _
  have HA := Lib.hid ((h.mine w.heap.size (Nat.le_refl _)).qt qA)
  have HE := Lib.hid hE
  have HI := Lib.hid hI
  have HF := Lib.hid (hI.few hk)
  have HB := Lib.hid hb
  have HWA := Lib.hid hWA
  have HZ := Lib.hid (show w.heap.size < WA.heap.size by omega)
  clear h hI hE hb hWA qA hz
  unfold OpD.val
  go_enter Tryd.func24, Tryd.ntmps24
  go_wp2_with fail
  rw [HWA.out]
  refine (pair_flush HE.out HZ.out HA.out HF.out).mono ?_
  rintro e w2 ⟨rfl, P2, K2⟩
  have HP2 := Lib.hid P2
  have HZ2 := Lib.hid (Nat.lt_of_lt_of_le HZ.out K2.size)
  clear P2 K2
  go_wp2_with fail
  refine (num_any ad d.flushE w2 (errs_since HE.out HP2.out.since) (flushE_le d)).mono ?_
  rintro e w3 ⟨rfl, q3⟩
  have HP3 := Lib.hid (HP2.out.qt q3)
  have HZ3 := Lib.hid (Nat.lt_of_lt_of_le HZ2.out q3.size)
  clear q3
  go_wp2_with fail
  refine (pairR_flush HZ3.out HP3.out HF.out).mono ?_
  rintro e w4 ⟨rfl, P4, K4⟩
  have hn : ((d.flushE : Int) == (d.flushE : Int)) = true := beq_self_eq_true _
  have FIN := Lib.hid (show StepP w0 b c k (.returned (.bool true)) w4 from ⟨rfl, _, d.flushD, HI.out.flush, P4⟩)
  clear P4 K4
  go_wp2_with fail
  go_ret
  exact FIN.out

set_option maxHeartbeats 3200000 in
theorem step_image (hE : Errs ad w0) (h : Pair j w0 w b c d d) (hI : PlayI k d) (hk : k ≤ 3000000) (i : Int) (s : ByteArray) (fill : UInt8) (okv : Value) (f : FT) :
    Calls Tryd.prog 24 #[.pointer (some ⟨b, 0, none⟩), .pointer (some ⟨c, 0, none⟩), OpD.val ⟨6, i, s, fill, okv, f⟩] w (StepP w0 b c k) := by
  obtain ⟨WA, hWA, qA, _⟩ := laid_op w ⟨6, i, s, fill, okv, f⟩
  simp only at hWA
  have hz := World.size_alloc w (.cells #[.int .i64 6, .int .i64 i, .string s, .int .u8 fill.toNat, okv, .int .i64 f.torn, .int .i64 f.bytes] 44)
  rw [hWA] at hz
  have hb : WA.heap[w.heap.size]? = some (.cells (OpD.list ⟨6, i, s, fill, okv, f⟩).toArray 44 (0, 0)) := hWA ▸ heap_alloc_new w _
  have HA := Lib.hid ((h.mine w.heap.size (Nat.le_refl _)).qt qA)
  have HE := Lib.hid hE
  have HI := Lib.hid hI
  have HF := Lib.hid (hI.few hk)
  have HB := Lib.hid hb
  have HWA := Lib.hid hWA
  have HZ := Lib.hid (show w.heap.size < WA.heap.size by omega)
  clear h hI hE hb hWA qA hz
  unfold OpD.val
  go_enter Tryd.func24, Tryd.ntmps24
  go_wp2_with fail
  rw [HWA.out]
  refine (pair_image HA.out).mono ?_
  rintro e w2 ⟨rfl, q2⟩
  have HP2 := Lib.hid (HA.out.qt q2)
  obtain ⟨X, hX⟩ : ∃ X : ByteArray, ⟨d.image.toArray⟩ = X := ⟨_, rfl⟩
  rw [hX]
  clear q2
  go_wp2_with fail
  refine (pairR_image HP2.out).mono ?_
  rintro e w3 ⟨rfl, q3⟩
  rw [hX]
  have hself : (X.toList == X.toList) = true := beq_self_eq_true _
  have FIN := Lib.hid (show StepP w0 b c k (.returned (.bool true)) w3 from ⟨rfl, _, d, HI.out.skip, HP2.out.qt q3⟩)
  clear q3 hX
  go_wp2_with fail
  go_ret
  exact FIN.out
end
end Go.Proofs.YtbifhnlinnokaaaDoor
