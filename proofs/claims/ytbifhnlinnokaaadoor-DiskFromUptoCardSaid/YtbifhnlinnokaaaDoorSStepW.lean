/-
  The contract of remitlaw06.step: a write.
-/
import Derived.Test.YtbifhnlinnokaaaDoorSStep
namespace Go.Proofs.YtbifhnlinnokaaaDoor
open Go.RowKit Go.WideShapes
set_option maxRecDepth 100000
section
variable {ad : Nat → Addr} {w0 w : World} {j b c k : Nat} {d : DS}

set_option maxHeartbeats 3200000 in
theorem step_write (hE : Errs ad w0) (h : Pair j w0 w b c d d) (hI : PlayI k d) (hk : k ≤ 3000000) (i : Int) (s : ByteArray) (fill : UInt8) (ka : Option Addr) (kc : Nat) (f : FT) :
    Calls Tryd.prog 24 #[.pointer (some ⟨b, 0, none⟩), .pointer (some ⟨c, 0, none⟩), OpD.val ⟨1, i, s, fill, .slice ka f.kept.length kc, f⟩] w (StepP w0 b c k) := by
  obtain ⟨WA, hWA, qA, _⟩ := laid_op w ⟨1, i, s, fill, .slice ka f.kept.length kc, f⟩
  simp only at hWA
  have hz := World.size_alloc w (.cells #[.int .i64 1, .int .i64 i, .string s, .int .u8 fill.toNat, .slice ka f.kept.length kc, .int .i64 f.torn, .int .i64 f.bytes] 44)
  rw [hWA] at hz
  have hb : WA.heap[w.heap.size]? = some (.cells (OpD.list ⟨1, i, s, fill, .slice ka f.kept.length kc, f⟩).toArray 44 (0, 0)) := hWA ▸ heap_alloc_new w _
  have HA := (h.mine w.heap.size (Nat.le_refl _)).qt qA
  have HE := Lib.hid hE
  have HI := Lib.hid hI
  have HF := Lib.hid (hI.few hk)
  have HWA := Lib.hid hWA
  have P0 := Lib.hid (Pair.qt HA (Keeps.drew (Qt.refl WA)))
  have B0 := Lib.hid (op_kept hb (show Keeps (fun k => k ≠ w.heap.size) WA WA.drew from Keeps.drew (Keeps.refl _ _)))
  have HC := Lib.hid (fun (W' : World) (hb : W'.heap[w.heap.size]? = some (.cells (OpD.list ⟨1, i, s, fill, .slice ka f.kept.length kc, f⟩).toArray 44 (0, 0))) => (show W'.cell? ⟨w.heap.size, 0, none⟩ = some (.int .i64 1) ∧ W'.cell? ⟨w.heap.size, 1, none⟩ = some (.int .i64 i) ∧ W'.cell? ⟨w.heap.size, 2, none⟩ = some (.string s) ∧ W'.cell? ⟨w.heap.size, 3, none⟩ = some (.int .u8 fill.toNat) ∧ W'.cell? ⟨w.heap.size, 4, none⟩ = some (.slice ka f.kept.length kc) ∧ W'.cell? ⟨w.heap.size, 5, none⟩ = some (.int .i64 f.torn) ∧ W'.cell? ⟨w.heap.size, 6, none⟩ = some (.int .i64 f.bytes) from ⟨op_cell hb 0 _ rfl, op_cell hb 1 _ rfl, op_cell hb 2 _ rfl, op_cell hb 3 _ rfl, op_cell hb 4 _ rfl, op_cell hb 5 _ rfl, op_cell hb 6 _ rfl⟩))
  have HS := Lib.hid (fun (W : World) => sector_any ⟨1, i, s, fill, .slice ka f.kept.length kc, f⟩ W)
  obtain ⟨X, hX⟩ : ∃ X : ByteArray, ⟨(OpD.sector ⟨1, i, s, fill, .slice ka f.kept.length kc, f⟩).toArray⟩ = X := ⟨_, rfl⟩
  rw [hX] at HS
  have WL := Lib.hid (writeE_le d i (strL X))
  have HIW := Lib.hid (hI.write i (strL X))
  have hn : ((d.writeE i (strL X) : Int) == (d.writeE i (strL X) : Int)) = true := beq_self_eq_true _
  obtain ⟨z0, z1, z2, z3, z4, z5, z6⟩ := HC.out WA hb
  clear h hI hE hb qA hz hX HA hWA
  unfold OpD.val
  go_enter Tryd.func24, Tryd.ntmps24
  go_wp2_with fail
  rw [HWA.out]
  go_region_held (fun W' => W'.cell? ⟨w.heap.size, 0, none⟩ = some (.int .i64 1) ∧ W'.cell? ⟨w.heap.size, 1, none⟩ = some (.int .i64 i) ∧ W'.cell? ⟨w.heap.size, 2, none⟩ = some (.string s) ∧ W'.cell? ⟨w.heap.size, 3, none⟩ = some (.int .u8 fill.toNat) ∧ W'.cell? ⟨w.heap.size, 4, none⟩ = some (.slice ka f.kept.length kc) ∧ W'.cell? ⟨w.heap.size, 5, none⟩ = some (.int .i64 f.torn) ∧ W'.cell? ⟨w.heap.size, 6, none⟩ = some (.int .i64 f.bytes))
    (first | exact HC.out _ B0.out | exact HC.out _ (Hid.out (by assumption)))
    (first
      | (go_at_call 13; refine (HS.out _).mono ?_; rintro e wS ⟨rfl, kS⟩; first | (have P1 := Lib.hid (Pair.qt P0.out kS); have B1 := Lib.hid (op_kept B0.out (show Keeps (fun k => k ≠ w.heap.size) _ wS from Keeps.mono kS (fun _ _ e => e.elim)))) | (have P4 := Lib.hid (Pair.qt P3.out kS); have B4 := Lib.hid (op_kept B3.out (show Keeps (fun k => k ≠ w.heap.size) _ wS from Keeps.mono kS (fun _ _ e => e.elim)))))
      | (go_at_call 14; refine (pair_write HE.out (lt_of_block B1.out) P1.out HF.out i X).mono ?_; rintro e w2 ⟨rfl, p2, k2⟩; have P2 := Lib.hid p2; have B2 := Lib.hid (op_kept B1.out k2))
      | (go_at_call 8; refine (num_any ad (d.writeE i (strL X)) _ (errs_since HE.out P2.out.since) WL.out).mono ?_; rintro e w3 ⟨rfl, q3⟩; have P3 := Lib.hid (Pair.qt P2.out q3); have B3 := Lib.hid (op_kept B2.out (show Keeps (fun k => k ≠ w.heap.size) _ w3 from Keeps.mono q3 (fun _ _ e => e.elim))))
      | (go_at_call 33; refine (pairR_write (lt_of_block B4.out) P4.out HF.out i X).mono ?_; rintro e w5 ⟨rfl, p5, k5⟩; have P5 := Lib.hid p5; have B5 := Lib.hid (op_kept B4.out k5)))
  all_goals
    have FIN := Lib.hid (show StepP w0 b c k (.returned (.bool true)) w5 from ⟨rfl, _, d.writeD i (strL X), HIW.out, P5.out⟩)
    go_wp2
    go_ret
    exact FIN.out
end
end Go.Proofs.YtbifhnlinnokaaaDoor
