/-
  The contract of remitlaw06.step: a crash.
-/
import Derived.Test.YtbifhnlinnokaaaDoorSStep
import Derived.Test.YtbifhnlinnokaaaDoorSPairJ
namespace Go.Proofs.YtbifhnlinnokaaaDoor
open Go.RowKit Go.WideShapes
set_option maxRecDepth 100000
section
variable {ad : Nat → Addr} {w0 w : World} {j b c k : Nat} {d : DS}

/-- The loop over what is kept. -/
def FullAt (w3 : World) (N : Nat) (iv : Value) (wr : World) : Prop := ∃ m : Nat, m ≤ N ∧ iv = .int .i64 m ∧ Qt w3 wr

set_option maxHeartbeats 3200000 in
theorem step_crash (hE : Errs ad w0) (h : Pair j w0 w b c d d) (hI : PlayI k d) (hk : k ≤ 3000000) (i : Int) (s : ByteArray) (fill : UInt8) (ka : Option Addr) (kc : Nat) (f : FT) (hkl : f.kept.length ≤ 1048576) (hv : Bools w0 (.slice ka f.kept.length kc) f.kept) :
    Calls Tryd.prog 24 #[.pointer (some ⟨b, 0, none⟩), .pointer (some ⟨c, 0, none⟩), OpD.val ⟨4, i, s, fill, .slice ka f.kept.length kc, f⟩] w (StepP w0 b c k) := by
  obtain ⟨WA, hWA, qA, _⟩ := laid_op w ⟨4, i, s, fill, .slice ka f.kept.length kc, f⟩
  simp only at hWA
  have hz := World.size_alloc w (.cells #[.int .i64 4, .int .i64 i, .string s, .int .u8 fill.toNat, .slice ka f.kept.length kc, .int .i64 f.torn, .int .i64 f.bytes] 44)
  rw [hWA] at hz
  have hb : WA.heap[w.heap.size]? = some (.cells (OpD.list ⟨4, i, s, fill, .slice ka f.kept.length kc, f⟩).toArray 44 (0, 0)) := hWA ▸ heap_alloc_new w _
  have HA := Lib.hid ((h.mine w.heap.size (Nat.le_refl _)).qt qA)
  have HE := Lib.hid hE
  have HI := Lib.hid hI
  have HF := Lib.hid (hI.few hk)
  have HWA := Lib.hid hWA
  have HB := Lib.hid hb
  have HZ := Lib.hid (show w.heap.size < WA.heap.size by omega)
  have HV := Lib.hid hv
  have hvA : Bools WA (.slice ka f.kept.length kc) f.kept := hv.kept HA.out.since (fun a n cc e hn q => by have := hv.block a n cc e hn; omega)
  have HVA := Lib.hid hvA
  obtain ⟨z0, z1, z2, z3, z4, z5, z6⟩ : WA.cell? ⟨w.heap.size, 0, none⟩ = some (.int .i64 4) ∧ WA.cell? ⟨w.heap.size, 1, none⟩ = some (.int .i64 i) ∧ WA.cell? ⟨w.heap.size, 2, none⟩ = some (.string s) ∧ WA.cell? ⟨w.heap.size, 3, none⟩ = some (.int .u8 fill.toNat) ∧ WA.cell? ⟨w.heap.size, 4, none⟩ = some (.slice ka f.kept.length kc) ∧ WA.cell? ⟨w.heap.size, 5, none⟩ = some (.int .i64 f.torn) ∧ WA.cell? ⟨w.heap.size, 6, none⟩ = some (.int .i64 f.bytes) := ⟨op_cell hb 0 _ rfl, op_cell hb 1 _ rfl, op_cell hb 2 _ rfl, op_cell hb 3 _ rfl, op_cell hb 4 _ rfl, op_cell hb 5 _ rfl, op_cell hb 6 _ rfl⟩
  have HX := Lib.hid (hI.crash f)
  clear h hI hE hb qA hz hWA hv hvA
  unfold OpD.val
  go_enter Tryd.func24, Tryd.ntmps24
  go_wp2_with fail
  rw [HWA.out]
  go_wp2_with fail
  refine (spare_any (.slice ka f.kept.length kc) f WA HVA.out hkl).mono ?_
  rintro e wS ⟨v', full, B, cc, rfl, SP⟩
  have HSP := Lib.hid SP
  clear SP
  obtain rfl := HSP.out.v
  obtain rfl := HSP.out.full
  unfold fateV
  have HJ := Lib.hid (fun (k : Nat) (e : k = w.heap.size ∨ k = B) => (show k = w.heap.size ∨ WA.heap.size ≤ k by
    rcases e with r | r
    · exact .inl r
    · exact .inr (by have := HSP.out.new; omega)))
  have qF := Qt.trans HSP.out.qt ((Qt.refl wS).alloc (.cells #[.slice (some ⟨B, 0, none⟩) f.kept.length cc, .int .i64 f.torn, .int .i64 f.bytes] 42))
  have hBlt : B < wS.heap.size := by
    have h0 := HSP.out.cells f.kept.length (.bool true) (by unfold boolCells; simp)
    exact World.block_lt_of_cell? wS _ h0
  have HP1 := Lib.hid (PairJ.of (J := fun k => k = w.heap.size ∨ k = B) HA.out qF HJ.out)
  have hzS := HSP.out.qt.size
  have HCR := pairJ_crash (J := fun k => k = w.heap.size ∨ k = B) (by
    rintro k (r | r)
    · have := HZ.out; rw [World.size_alloc]; omega
    · rw [World.size_alloc]; omega) HP1.out HF.out (.slice (some ⟨B, 0, none⟩) f.kept.length cc) f (HSP.out.bools (by omega) ((Qt.refl wS).alloc _)) (fun a n c e hn => by
      injection e with e _ _
      injection e with e
      subst e
      exact .inl (.inr rfl))
  have HCRH := Lib.hid HCR
  have HQF := Lib.hid qF
  have HBL := Lib.hid hBlt
  clear HCR qF hBlt hzS
  unfold fateV at HCRH
  go_wp2_with fail
  refine HCRH.out.mono ?_
  rintro e w2 ⟨rfl, P2, K2⟩
  have HP2 := Lib.hid P2
  have hb2 : w2.heap[w.heap.size]? = some (.cells (OpD.list ⟨4, i, s, fill, .slice ka f.kept.length kc, f⟩).toArray 44 (0, 0)) := by
    have h1 := op_kept HB.out (show Keeps (fun k => k ≠ w.heap.size) WA _ from Keeps.mono HQF.out (fun _ _ e => e.elim))
    exact (K2.block _ (lt_of_block h1) (fun e => e.2 (.inl rfl))).trans h1
  have HB2 := Lib.hid hb2
  have hc2 : ∀ (q : Nat) (x : Bool), (f.kept ++ [true, false, true])[q]? = some x → w2.cell? ⟨B, q, none⟩ = some (.bool x) := fun q x hx => by
    have h0 := HSP.out.cells q (.bool x) (by unfold boolCells; rw [List.getElem?_map, hx]; rfl)
    rw [Nat.zero_add] at h0
    have h1 := Qt.cellv ((Qt.refl wS).alloc (.cells #[.slice (some ⟨B, 0, none⟩) f.kept.length cc, .int .i64 f.torn, .int .i64 f.bytes] 42)) h0
    exact K2.cellv h1 (fun e => e.2 (.inr rfl))
  have HC2 := Lib.hid hc2
  have HV2 := Lib.hid (HV.out.kept HP2.out.since (fun a n cc e hn q => by have := HV.out.block a n cc e hn; omega))
  have HZ2 := Lib.hid (show w.heap.size < w2.heap.size from lt_of_block hb2)
  have HB2L := Lib.hid (show B < w2.heap.size by have h1 := K2.size; rw [World.size_alloc] at h1; have := HBL.out; omega)
  obtain ⟨y0, y1, y2, y3, y4, y5, y6⟩ : w2.cell? ⟨w.heap.size, 0, none⟩ = some (.int .i64 4) ∧ w2.cell? ⟨w.heap.size, 1, none⟩ = some (.int .i64 i) ∧ w2.cell? ⟨w.heap.size, 2, none⟩ = some (.string s) ∧ w2.cell? ⟨w.heap.size, 3, none⟩ = some (.int .u8 fill.toNat) ∧ w2.cell? ⟨w.heap.size, 4, none⟩ = some (.slice ka f.kept.length kc) ∧ w2.cell? ⟨w.heap.size, 5, none⟩ = some (.int .i64 f.torn) ∧ w2.cell? ⟨w.heap.size, 6, none⟩ = some (.int .i64 f.bytes) := ⟨op_cell hb2 0 _ rfl, op_cell hb2 1 _ rfl, op_cell hb2 2 _ rfl, op_cell hb2 3 _ rfl, op_cell hb2 4 _ rfl, op_cell hb2 5 _ rfl, op_cell hb2 6 _ rfl⟩
  have HCS := pairJR_crash (J := fun k => k = w.heap.size ∨ k = B) (by
    rintro k (r | r)
    · have := HZ2.out; omega
    · have := HB2L.out; omega) HP2.out HF.out (.slice ka f.kept.length kc) f HV2.out (fun a n cc e hn => .inr (HV.out.block a n cc e hn))
  have HCSH := Lib.hid HCS
  clear HCS P2 K2 hb2 hc2 HCRH HQF z0 z1 z2 z3 z4 z5 z6
  unfold fateV at HCSH
  go_wp2_with fail
  refine HCSH.out.mono ?_
  rintro e w3 ⟨rfl, P3, K3⟩
  have hb3 : w3.heap[w.heap.size]? = some (.cells (OpD.list ⟨4, i, s, fill, .slice ka f.kept.length kc, f⟩).toArray 44 (0, 0)) := (K3.block _ (lt_of_block HB2.out) (fun e => e.2 (.inl rfl))).trans HB2.out
  have HC3 := Lib.hid (fun (q : Nat) (x : Bool) (hx : (f.kept ++ [true, false, true])[q]? = some x) => (show w3.cell? ⟨B, q, none⟩ = some (.bool x) from K3.cellv (HC2.out q x hx) (fun e => e.2 (.inr rfl))))
  have HV3 := Lib.hid (HV.out.kept P3.since (fun a n cc e hn q => by have := HV.out.block a n cc e hn; omega))
  have HP3 := Lib.hid (P3.pair (j := w.heap.size) (.inl rfl))
  have x4 : w3.cell? ⟨w.heap.size, 4, none⟩ = some (.slice ka f.kept.length kc) := op_cell hb3 4 _ rfl
  have START := Lib.hid (show FullAt w3 f.kept.length (.int .i64 0) w3 from ⟨0, Nat.zero_le _, rfl, Qt.refl _⟩)
  clear P3 K3 hb3 HCSH HC2 HV2 HB2 HP2 y0 y1 y2 y3 y4 y5 y6
  have HX4 := Lib.hid x4
  go_wp2
  go_loopw [13, 97] (fun _ iv wr => FullAt w3 f.kept.length iv wr) (fun _ iv _ => f.kept.length - (intOf iv).toNat)
  case atStart => exact START.out
  case round =>
    obtain ⟨m, hm, rfl, q⟩ := hrel
    have x4' := Qt.cellv q HX4.out
    have HQ := Lib.hid q
    by_cases hlt : m < f.kept.length
    · obtain ⟨x, hx⟩ : ∃ x, f.kept[m]? = some x := ⟨_, List.getElem?_eq_getElem hlt⟩
      have r1 := Qt.cellv q (HC3.out m x (by rw [List.getElem?_append_left hlt]; exact hx))
      obtain ⟨a, c', hv3, _, hk3⟩ := HV3.out
      obtain ⟨g, o, ha, hg⟩ := hk3 m x hx
      injection hv3 with hva _ hvc
      subst hva
      subst hvc
      subst ha
      have r2 := Qt.cellv q hg
      have hsame : (x != x) = false := by cases x <;> rfl
      have hmi : m ≤ 1048576 := by omega
      have FIN := Lib.hid (fun (W : World) (q2 : Qt wr W) => (show FullAt w3 f.kept.length (.int .i64 ((m : Int) + 1)) W from ⟨m + 1, hlt, by push_cast; rfl, Qt.trans HQ.out q2⟩))
      clear q hg hk3
      go_wp2
      go_quiet (fail)
      go_wp2
      exact ⟨FIN.out _ (Keeps.drewN (Qt.refl _) _), by simp [intOf]; omega⟩
    · obtain rfl : m = f.kept.length := by omega
      have r1 := Qt.cellv q (HC3.out f.kept.length true (by simp))
      have r2 := Qt.cellv q (HC3.out (f.kept.length + 1) false (by simp))
      have r3 := Qt.cellv q (HC3.out (f.kept.length + 2) true (by simp))
      have FIN := Lib.hid (show StepP w0 b c k (.returned (.bool true)) wr from ⟨rfl, _, d.crashD f, HX.out, HP3.out.qt q⟩)
      clear q
      go_wp2
      go_ret
      exact FIN.out
end
end Go.Proofs.YtbifhnlinnokaaaDoor
