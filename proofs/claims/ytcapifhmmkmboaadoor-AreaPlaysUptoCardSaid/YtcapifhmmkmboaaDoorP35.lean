/-
  Layer 9's rows that came in: Ops.
  The contract of remitlaw09.step: a write, a read, a flush, a count armed, no kind.
  The contract of remitlaw09.step: a crash, a turned byte, no kind.
-/
import Derived.Test.YtcapifhmmkmboaaDoorP33
import Derived.Test.YtcapifhmmkmboaaDoorP34
import Derived.Test.YtcapifhmmkmboaaDoorP22
import Derived.Test.YtcapifhmmkmboaaDoorP23
import Derived.BigQuiet
import Derived.Deep.DeepCutAuto
import Derived.Deep.RegionHeld3
import Derived.Outline
import Derived.Test.YtcapifhmmkmboaaDoorP32
namespace Go.Proofs.YtcapifhmmkmboaaDoor
open Go.ChangeShapes Go.WideShapes Go.ChangeAt Go.RowKit
set_option maxRecDepth 100000

theorem cellsOp9 : Tryd.prog.cellsOf 40 = 9 := by kernel_rfl
theorem bytesOp9 : Tryd.prog.bytesOf 40 = 88 := by kernel_rfl
/-- One Op's cells that came in. -/
theorem op9_of_trod {H : Type} {enc : TypeId × Value → H} {W : World} (fuel : Nat) (cs : List Value) (x : DataW H × List MemPlace) (hf : DataW.trod enc Tryd.prog W 0 (fun _ => true) true fuel 40 cs = some x) (hw : Reach 40 x.1) :
    ∃ o : OpQ, cs = o.list ∧ o.Ok W := by
  obtain ⟨xs, n, _, hx, hcl, hxl, hel⟩ := DataW.trod_struct Tryd.underlying40 hf
  have hl : cs.length = 9 := by rw [hcl, cellsOp9]
  match cs, hl with
  | [c0, c1, c2, c3, c4, c5, c6, c7, c8], _ =>
  have hx4 : xs.length = 7 := hxl
  match xs, hx4 with
  | [y0, y1, y2, y3, y4, y5, y6], _ =>
  have t0 : DataW.trod enc Tryd.prog W 0 (fun _ => true) true n 3 (([c0, c1, c2, c3, c4, c5, c6, c7, c8].drop 0).take (Tryd.prog.cellsOf 3)) = some y0 := hel 0 _ rfl
  have t1 : DataW.trod enc Tryd.prog W 0 (fun _ => true) true n 3 (([c0, c1, c2, c3, c4, c5, c6, c7, c8].drop 1).take (Tryd.prog.cellsOf 3)) = some y1 := hel 1 _ rfl
  have t2 : DataW.trod enc Tryd.prog W 0 (fun _ => true) true n 3 (([c0, c1, c2, c3, c4, c5, c6, c7, c8].drop 2).take (Tryd.prog.cellsOf 3)) = some y2 := hel 2 _ rfl
  have t3 : DataW.trod enc Tryd.prog W 0 (fun _ => true) true n 35 (([c0, c1, c2, c3, c4, c5, c6, c7, c8].drop 3).take (Tryd.prog.cellsOf 35)) = some y3 := hel 3 _ rfl
  have t4 : DataW.trod enc Tryd.prog W 0 (fun _ => true) true n 3 (([c0, c1, c2, c3, c4, c5, c6, c7, c8].drop 4).take (Tryd.prog.cellsOf 3)) = some y4 := hel 4 _ rfl
  have t5 : DataW.trod enc Tryd.prog W 0 (fun _ => true) true n 35 (([c0, c1, c2, c3, c4, c5, c6, c7, c8].drop 5).take (Tryd.prog.cellsOf 35)) = some y5 := hel 5 _ rfl
  have t6 : DataW.trod enc Tryd.prog W 0 (fun _ => true) true n 38 (([c0, c1, c2, c3, c4, c5, c6, c7, c8].drop 6).take (Tryd.prog.cellsOf 38)) = some y6 := hel 6 _ rfl
  rw [cellsInt] at t0 t1 t2 t4
  rw [cellsU64] at t3 t5
  rw [cellsFate9] at t6
  rw [hx] at hw
  have hw6 : Reach 38 y6.1 := hw.part Tryd.underlying40 (j := 6) rfl rfl
  simp only [List.drop_zero, List.drop_succ_cons, List.take_succ_cons, List.take_zero] at t0 t1 t2 t3 t4 t5 t6
  obtain ⟨z0, e0, rfl, _⟩ := DataW.trod_int Tryd.underlying3 t0
  obtain ⟨z1, e1, rfl, _⟩ := DataW.trod_int Tryd.underlying3 t1
  obtain ⟨z2, e2, rfl, w2⟩ := DataW.trod_int Tryd.underlying3 t2
  obtain ⟨z3, e3, rfl, w3⟩ := DataW.trod_int Tryd.underlying35 t3
  obtain ⟨z4, e4, rfl, _⟩ := DataW.trod_int Tryd.underlying3 t4
  obtain ⟨z5, e5, rfl, _⟩ := DataW.trod_int Tryd.underlying35 t5
  simp only [List.cons.injEq, and_true] at e0 e1 e2 e3 e4 e5
  subst e0 e1 e2 e3 e4 e5
  obtain ⟨kv, f, e6, hB, hk⟩ := fate_of_trod9 t6 hw6
  simp only [List.cons.injEq, and_true] at e6
  obtain ⟨rfl, rfl, rfl⟩ := e6
  have b2 := bounds_i64 w2
  obtain ⟨b3, b4⟩ := bounds_u64 w3
  obtain ⟨st, rfl⟩ := Int.eq_ofNat_of_zero_le b3
  exact ⟨⟨z0, z1, z2, st, z4, z5, c6, f⟩, rfl, ⟨by show st < 18446744073709551616; omega, by show z2 ≤ 9223372036854775807; omega, hB, hk⟩⟩

/-- The Ops that came in. -/
theorem ops9_of_trod {H : Type} {enc : TypeId × Value → H} {W : World} {fuel : Nat} {c : Value} {y : DataW H × List MemPlace} (h : DataW.trod enc Tryd.prog W 0 (fun _ => true) true fuel 25 [c] = some y) (hw : Reach 25 y.1) :
    ∃ (g off : Nat) (os : List OpQ), (∀ (k : Nat) (o : OpQ), os[k]? = some o → o.Ok W) ∧ Recs 9 OpQ.list W c g off os ∧ ((y.1 = .nil ∧ os = []) ∨ ∃ l spare, y.1 = .slice l spare ∧ l.length = os.length) := by
  obtain ⟨g, off, os, h1, h2, h3⟩ := open_recsQ (Q := Reach 40) (f := OpQ.list) (P := OpQ.Ok W) Tryd.underlying25 cellsOp9 (by decide) (fun _ => rfl) op9_of_trod h (fun l spare e => by rw [e] at hw; exact (hw.slice Tryd.underlying25).2)
  refine ⟨g, off, os, h1, h2 ?_, h3⟩
  rcases h3 with ⟨_, rfl⟩ | ⟨l, spare, e, hl⟩
  · simp
  · rw [e] at hw
    have := (hw.slice Tryd.underlying25).1
    rw [bytesOp9, hl] at this
    unfold reachBytes at this
    omega
end Go.Proofs.YtcapifhmmkmboaaDoor
namespace Go.Proofs.YtcapifhmmkmboaaDoor
open Go.RowKit Go.WideShapes
set_option maxRecDepth 100000
section
variable {ad : Nat → Addr} {w0 w : World} {j b c f : Nat} {d : DS}

/-- What each kind's walk begins with. -/
structure Step9At (ad : Nat → Addr) (w0 w WA : World) (b c f : Nat) (d : DS) (o : OpQ) : Prop where
  laid : w.alloc (.cells #[.int .i64 o.kind, .int .i64 o.i, .int .i64 o.n, .int .u64 o.st, .int .i64 o.bytes, .int .u64 o.seed, o.kv, .int .i64 o.f.torn, .int .i64 o.f.bytes] 40) = WA
  pair : Pair w.heap.size w0 WA b c d d
  box : WA.heap[w.heap.size]? = some (.cells o.list.toArray 40 (0, 0))
theorem Step9At.of (h : Pair j w0 w b c d d) (o : OpQ) : ∃ WA, Step9At ad w0 w WA b c f d o := ⟨_, rfl, (h.mine w.heap.size (Nat.le_refl _)).qt ((Qt.refl w).alloc _), heap_alloc_new w _⟩

set_option maxHeartbeats 3200000 in
theorem step9_write (H : AreaH ad) (hE : Errs ad w0) (hT : Tab w0) (h : Pair j w0 w b c d d) (hf : d.FewN f) (hf2 : f ≤ 1073000000) (i n : Int) (st : Nat) (hst : st < 18446744073709551616) (hn : n ≤ 9223372036854775807) (bytes seed : Int) (kv : Value) (ft : FT) :
    Calls Tryd.prog 14 #[.pointer (some ⟨b, 0, none⟩), .pointer (some ⟨c, 0, none⟩), OpQ.val ⟨0, i, n, st, bytes, seed, kv, ft⟩] w (StepP9 w0 b c f) := by
  obtain ⟨WA, AT⟩ := Step9At.of (ad := ad) (f := f) h ⟨0, i, n, st, bytes, seed, kv, ft⟩
  have HWA := Lib.hid AT.laid
  have PA := Lib.hid AT.pair
  have BA := Lib.hid AT.box
  obtain ⟨c0, c1, c2, c3, c4, c5, _, _, _⟩ := op9_cells AT.box
  simp only at HWA c0 c1 c2 c3 c4 c5
  have hmw : wrap64 ((IntKind.u64.wrap bytes).tmod 2001) = (modU bytes 2001 : Int) := modU_wrap bytes 2001 (by decide) (by decide)
  have hL : modU bytes 2001 ≤ 2000 := by have := Nat.mod_lt ((bytes % 18446744073709551616).toNat) (show 0 < 2001 by decide); unfold modU; omega
  generalize modU bytes 2001 = Ln at *
  have TX := fun W => text9_any seed Ln (by omega) W
  have HE := Lib.hid hE
  have HT := Lib.hid hT
  have HF := Lib.hid hf
  clear h AT hE hT hf
  unfold OpQ.val OpQ.list
  go_enter Tryd.func14, Tryd.ntmps14
  go_wp2_with fail
  rw [HWA.out]
  refine (TX _).mono ?_
  rintro e w1 ⟨T, hTs, rfl, q1⟩
  subst hTs
  have P1 := Lib.hid (PA.out.qt q1)
  have B1 := Lib.hid (op9_kept BA.out (show Keeps (fun k => k ≠ w.heap.size) WA w1 from Keeps.mono q1 (fun _ _ e => e.elim)))
  clear c0 c1 c2 c3 c4 c5 TX hmw q1
  obtain ⟨c0, c1, c2, c3, _, _, _, _, _⟩ := op9_cells B1.out
  simp only at c0 c1 c2 c3
  go_wp2_with fail
  refine (pair_areaW H HE.out HT.out (lt_of_block B1.out) P1.out HF.out hf2 i n st hst hn T).mono ?_
  rintro e w2 ⟨rfl, p2, k2⟩
  have P2 := Lib.hid p2
  have B2 := Lib.hid (op9_kept B1.out k2)
  clear c0 c1 c2 c3 p2 k2
  obtain ⟨c0, c1, c2, c3, _, _, _, _, _⟩ := op9_cells B2.out
  simp only at c0 c1 c2 c3
  have KC := Lib.hid (fun (W' : World) (hb : W'.heap[w.heap.size]? = some (.cells (OpQ.list ⟨0, i, n, st, bytes, seed, kv, ft⟩).toArray 40 (0, 0))) => (show W'.cell? ⟨w.heap.size, 1, none⟩ = some (.int .i64 i) ∧ W'.cell? ⟨w.heap.size, 2, none⟩ = some (.int .i64 n) ∧ W'.cell? ⟨w.heap.size, 3, none⟩ = some (.int .u64 st) from ⟨(op9_cells hb).2.1, (op9_cells hb).2.2.1, (op9_cells hb).2.2.2.1⟩))
  have WL := Lib.hid (areaW_le d i n st T.data.toList)
  have hn : (((d.areaW i n st T.data.toList).1 : Int) == ((d.areaW i n st T.data.toList).1 : Int)) = true := beq_self_eq_true _
  have FX := Lib.hid (HF.out.area i n st T.data.toList (by rw [dlen7]; exact hL))
  go_wp2_with fail
  have P2d := Lib.hid (P2.out.qt (Keeps.drew (Qt.refl w2)))
  have B2d := Lib.hid (op9_kept B2.out (show Keeps (fun k => k ≠ w.heap.size) w2 w2.drew from Keeps.drew (Keeps.refl _ _)))
  go_region_held3 (fun W' => W'.cell? ⟨w.heap.size, 1, none⟩ = some (.int .i64 i) ∧ W'.cell? ⟨w.heap.size, 2, none⟩ = some (.int .i64 n) ∧ W'.cell? ⟨w.heap.size, 3, none⟩ = some (.int .u64 st))
    (first | exact KC.out _ (Hid.out (by assumption)))
    (first
      | (go_at_call 22; refine (num_any ad _ _ (errs_since HE.out P2d.out.since) WL.out).mono ?_; rintro e w3 ⟨rfl, q3⟩; have P3 := Lib.hid (P2d.out.qt q3); have B3 := Lib.hid (op9_kept B2d.out (show Keeps (fun k => k ≠ w.heap.size) _ w3 from Keeps.mono q3 (fun _ _ e => e.elim))))
      | (go_at_call 27; refine (refWrite9_any (lt_of_block B3.out) P3.out HF.out hf2 i n st hst T).mono ?_; rintro e w4 ⟨rfl, p4, k4⟩; have P4 := Lib.hid p4; have B4 := Lib.hid (op9_kept B3.out k4)))
  have FIN := Lib.hid (show StepP9 w0 b c f (.returned (.bool true)) w4 from ⟨rfl, _, _, FX.out, P4.out⟩)
  go_wp2
  go_ret
  exact FIN.out

set_option maxHeartbeats 3200000 in
theorem step9_read (H : AreaH ad) (hE : Errs ad w0) (hT : Tab w0) (h : Pair j w0 w b c d d) (hf : d.FewN f) (hf2 : f ≤ 1073000000) (i n : Int) (st : Nat) (hst : st < 18446744073709551616) (hn : n ≤ 9223372036854775807) (bytes seed : Int) (kv : Value) (ft : FT) :
    Calls Tryd.prog 14 #[.pointer (some ⟨b, 0, none⟩), .pointer (some ⟨c, 0, none⟩), OpQ.val ⟨1, i, n, st, bytes, seed, kv, ft⟩] w (StepP9 w0 b c f) := by
  obtain ⟨WA, AT⟩ := Step9At.of (ad := ad) (f := f) h ⟨1, i, n, st, bytes, seed, kv, ft⟩
  have HWA := Lib.hid AT.laid
  have PA := Lib.hid AT.pair
  have BA := Lib.hid AT.box
  obtain ⟨c0, c1, c2, c3, c4, c5, _, _, _⟩ := op9_cells AT.box
  simp only at HWA c0 c1 c2 c3 c4 c5
  have hmw : wrap64 ((IntKind.u64.wrap bytes).tmod 2001) = (modU bytes 2001 : Int) := modU_wrap bytes 2001 (by decide) (by decide)
  have hL : modU bytes 2001 ≤ 2000 := by have := Nat.mod_lt ((bytes % 18446744073709551616).toNat) (show 0 < 2001 by decide); unfold modU; omega
  generalize modU bytes 2001 = Ln at *
  have TX := fun W => text9_any seed Ln (by omega) W
  have HE := Lib.hid hE
  have HT := Lib.hid hT
  have HF := Lib.hid hf
  clear h AT hE hT hf
  unfold OpQ.val OpQ.list
  go_enter Tryd.func14, Tryd.ntmps14
  go_wp2_with fail
  rw [HWA.out]
  refine (TX _).mono ?_
  rintro e w1 ⟨T, hTs, rfl, q1⟩
  subst hTs
  have P1 := Lib.hid (PA.out.qt q1)
  have B1 := Lib.hid (op9_kept BA.out (show Keeps (fun k => k ≠ w.heap.size) WA w1 from Keeps.mono q1 (fun _ _ e => e.elim)))
  clear c0 c1 c2 c3 c4 c5 TX hmw q1
  obtain ⟨c0, c1, c2, c3, c4, _, _, _, _⟩ := op9_cells B1.out
  simp only at c0 c1 c2 c3 c4
  go_wp2_with fail
  refine (pair_areaR H HE.out HT.out (lt_of_block B1.out) P1.out i n st hst hn bytes).mono ?_
  rintro e w2 ⟨rfl, p2, k2⟩
  have P2 := Lib.hid p2
  have B2 := Lib.hid (op9_kept B1.out k2)
  clear c0 c1 c2 c3 c4 p2 k2
  obtain ⟨c0, c1, c2, c3, c4, _, _, _, _⟩ := op9_cells B2.out
  simp only at c0 c1 c2 c3 c4
  unfold readE9
  go_wp2_with fail
  refine (refRead9_any P2.out HF.out hf2 i n st hst bytes).mono ?_
  rintro e w3 ⟨rfl, q3⟩
  have P3 := Lib.hid (P2.out.qt q3)
  have NU := num_any ad _ w3 (errs_since HE.out P3.out.since) (areaR_le d i n st bytes)
  have hn : (((d.areaR i n st bytes).2 : Int) == ((d.areaR i n st bytes).2 : Int)) = true := beq_self_eq_true _
  have FIN := Lib.hid (fun (W : World) (q : Qt w3 W) => (show StepP9 w0 b c f (.returned (.bool true)) W from ⟨rfl, _, _, HF.out.mono (by omega), P3.out.qt q⟩))
  generalize d.areaR i n st bytes = r at *
  obtain ⟨rl, rn⟩ := r
  simp only at NU hn
  unfold readV9
  clear c0 c1 c2 c3 c4 q3
  go_wp2_with fail
  refine NU.mono ?_
  rintro e w4 ⟨rfl, q4⟩
  have F4 := Lib.hid (FIN.out w4 q4)
  clear q4 NU
  go_wp2
  go_ret
  exact F4.out

set_option maxHeartbeats 3200000 in
theorem step9_flush (hE : Errs ad w0) (h : Pair j w0 w b c d d) (hf : d.FewN f) (hf2 : f ≤ 1073000000) (i n : Int) (st : Nat) (bytes seed : Int) (kv : Value) (ft : FT) :
    Calls Tryd.prog 14 #[.pointer (some ⟨b, 0, none⟩), .pointer (some ⟨c, 0, none⟩), OpQ.val ⟨2, i, n, st, bytes, seed, kv, ft⟩] w (StepP9 w0 b c f) := by
  obtain ⟨WA, AT⟩ := Step9At.of (ad := ad) (f := f) h ⟨2, i, n, st, bytes, seed, kv, ft⟩
  have HWA := Lib.hid AT.laid
  have PA := Lib.hid AT.pair
  have BA := Lib.hid AT.box
  obtain ⟨c0, c1, c2, c3, c4, c5, _, _, _⟩ := op9_cells AT.box
  simp only at HWA c0 c1 c2 c3 c4 c5
  have hmw : wrap64 ((IntKind.u64.wrap bytes).tmod 2001) = (modU bytes 2001 : Int) := modU_wrap bytes 2001 (by decide) (by decide)
  have hL : modU bytes 2001 ≤ 2000 := by have := Nat.mod_lt ((bytes % 18446744073709551616).toNat) (show 0 < 2001 by decide); unfold modU; omega
  generalize modU bytes 2001 = Ln at *
  have TX := fun W => text9_any seed Ln (by omega) W
  have HE := Lib.hid hE
  have HF := Lib.hid hf
  clear h AT hE hf
  unfold OpQ.val OpQ.list
  go_enter Tryd.func14, Tryd.ntmps14
  go_wp2_with fail
  rw [HWA.out]
  refine (TX _).mono ?_
  rintro e w1 ⟨T, hTs, rfl, q1⟩
  subst hTs
  have P1 := Lib.hid (PA.out.qt q1)
  have B1 := Lib.hid (op9_kept BA.out (show Keeps (fun k => k ≠ w.heap.size) WA w1 from Keeps.mono q1 (fun _ _ e => e.elim)))
  clear c0 c1 c2 c3 c4 c5 TX hmw q1
  obtain ⟨c0, _⟩ := op9_cells B1.out
  simp only at c0
  have FW := Lib.hid (HF.out.few (by omega))
  have FX := Lib.hid (HF.out.flush)
  have FL := Lib.hid (show d.flushE ≤ 37 from by
    unfold DS.flushE
    repeat' split
    all_goals omega)
  have hn : ((d.flushE : Int) == (d.flushE : Int)) = true := beq_self_eq_true _
  go_wp2_with fail
  refine (pair_flush HE.out (lt_of_block B1.out) P1.out FW.out).mono ?_
  rintro e w2 ⟨rfl, p2, k2⟩
  have P2 := Lib.hid p2
  have B2 := Lib.hid (op9_kept B1.out k2)
  clear p2 k2
  have NU := num_any ad _ w2 (errs_since HE.out P2.out.since) FL.out
  go_wp2_with fail
  refine NU.mono ?_
  rintro e w3 ⟨rfl, q3⟩
  have P3 := Lib.hid (P2.out.qt q3)
  have B3 := Lib.hid (op9_kept B2.out (show Keeps (fun k => k ≠ w.heap.size) w2 w3 from Keeps.mono q3 (fun _ _ e => e.elim)))
  clear q3 NU
  go_wp2_with fail
  refine (pairR_flush (lt_of_block B3.out) P3.out FW.out).mono ?_
  rintro e w4 ⟨rfl, p4, k4⟩
  have FIN := Lib.hid (show StepP9 w0 b c f (.returned (.bool true)) w4 from ⟨rfl, _, _, FX.out.mono (by omega), p4⟩)
  clear p4 k4
  go_wp2
  go_ret
  exact FIN.out

set_option maxHeartbeats 3200000 in
theorem step9_arm (h : Pair j w0 w b c d d) (hf : d.FewN f) (i n : Int) (hn : n ≤ 9223372036854775807) (st : Nat) (bytes seed : Int) (kv : Value) (ft : FT) :
    Calls Tryd.prog 14 #[.pointer (some ⟨b, 0, none⟩), .pointer (some ⟨c, 0, none⟩), OpQ.val ⟨3, i, n, st, bytes, seed, kv, ft⟩] w (StepP9 w0 b c f) := by
  obtain ⟨WA, AT⟩ := Step9At.of (ad := fun _ => ⟨0, 0, none⟩) (f := f) h ⟨3, i, n, st, bytes, seed, kv, ft⟩
  have HWA := Lib.hid AT.laid
  have PA := Lib.hid AT.pair
  have BA := Lib.hid AT.box
  obtain ⟨c0, c1, c2, c3, c4, c5, _, _, _⟩ := op9_cells AT.box
  simp only at HWA c0 c1 c2 c3 c4 c5
  have hmw : wrap64 ((IntKind.u64.wrap bytes).tmod 2001) = (modU bytes 2001 : Int) := modU_wrap bytes 2001 (by decide) (by decide)
  have hL : modU bytes 2001 ≤ 2000 := by have := Nat.mod_lt ((bytes % 18446744073709551616).toNat) (show 0 < 2001 by decide); unfold modU; omega
  generalize modU bytes 2001 = Ln at *
  have TX := fun W => text9_any seed Ln (by omega) W
  have HF := Lib.hid hf
  clear h AT hf
  unfold OpQ.val OpQ.list
  go_enter Tryd.func14, Tryd.ntmps14
  go_wp2_with fail
  rw [HWA.out]
  refine (TX _).mono ?_
  rintro e w1 ⟨T, hTs, rfl, q1⟩
  subst hTs
  have P1 := Lib.hid (PA.out.qt q1)
  have B1 := Lib.hid (op9_kept BA.out (show Keeps (fun k => k ≠ w.heap.size) WA w1 from Keeps.mono q1 (fun _ _ e => e.elim)))
  clear c0 c1 c2 c3 c4 c5 TX hmw q1
  obtain ⟨c0, _, c2, _⟩ := op9_cells B1.out
  simp only at c0 c2
  go_wp2_with fail
  refine (pair_arm (lt_of_block B1.out) P1.out n hn).mono ?_
  rintro e w2 ⟨rfl, p2, k2⟩
  have P2 := Lib.hid p2
  have B2 := Lib.hid (op9_kept B1.out k2)
  clear c0 c2 p2 k2
  obtain ⟨c0, _, c2, _⟩ := op9_cells B2.out
  simp only at c0 c2
  go_wp2_with fail
  refine (pairR_arm (lt_of_block B2.out) P2.out n hn).mono ?_
  rintro e w3 ⟨rfl, p3, k3⟩
  have FIN := Lib.hid (show StepP9 w0 b c f (.returned (.bool true)) w3 from ⟨rfl, _, _, (HF.out.arm n).mono (by omega), p3⟩)
  clear p3 k3
  go_wp2
  go_ret
  exact FIN.out

end
end Go.Proofs.YtcapifhmmkmboaaDoor
namespace Go.Proofs.YtcapifhmmkmboaaDoor
open Go.RowKit Go.WideShapes
set_option maxRecDepth 100000
theorem row_kept9 {w w' : World} {o : Obj} (h : (w.alloc o).grownBy w' (some w.heap.size)) : Qt w w' :=
  Keeps.grown (Keeps.alloc (Qt.refl w) o) h (fun k hk e => by simp at e; omega)
theorem row_block9 {w : World} {o : Obj} {g : Nat} (h : g = w.heap.size ∨ (w.alloc o).heap.size ≤ g) : w.heap.size ≤ g := by
  rcases h with h | h
  · omega
  · have : (w.alloc o).heap.size = w.heap.size + 1 := World.size_alloc _ _
    omega
section
variable {w0 w : World} {j b c f : Nat} {d : DS}

set_option maxHeartbeats 3200000 in
theorem step9_crash (h : Pair j w0 w b c d d) (hf : d.FewN f) (hf2 : f ≤ 1073000000) (i n : Int) (st : Nat) (bytes seed : Int) (ka : Option Addr) (kc : Nat) (ft : FT) (hv : Bools w0 (.slice ka ft.kept.length kc) ft.kept) (hfk : ft.kept.length ≤ 140737488355328) :
    Calls Tryd.prog 14 #[.pointer (some ⟨b, 0, none⟩), .pointer (some ⟨c, 0, none⟩), OpQ.val ⟨4, i, n, st, bytes, seed, .slice ka ft.kept.length kc, ft⟩] w (StepP9 w0 b c f) := by
  obtain ⟨WA, AT⟩ := Step9At.of (ad := fun _ => ⟨0, 0, none⟩) (f := f) h ⟨4, i, n, st, bytes, seed, .slice ka ft.kept.length kc, ft⟩
  have HWA := Lib.hid AT.laid
  have PA := Lib.hid AT.pair
  have BA := Lib.hid AT.box
  obtain ⟨c0, c1, c2, c3, c4, c5, _, _, _⟩ := op9_cells AT.box
  simp only at HWA c0 c1 c2 c3 c4 c5
  have hmw : wrap64 ((IntKind.u64.wrap bytes).tmod 2001) = (modU bytes 2001 : Int) := modU_wrap bytes 2001 (by decide) (by decide)
  have hL : modU bytes 2001 ≤ 2000 := by have := Nat.mod_lt ((bytes % 18446744073709551616).toNat) (show 0 < 2001 by decide); unfold modU; omega
  generalize modU bytes 2001 = Ln at *
  have TX := fun W => text9_any seed Ln (by omega) W
  have HF := Lib.hid hf
  clear h AT hf
  unfold OpQ.val OpQ.list
  go_enter Tryd.func14, Tryd.ntmps14
  go_wp2_with fail
  rw [HWA.out]
  refine (TX _).mono ?_
  rintro e w1 ⟨T, hTs, rfl, q1⟩
  subst hTs
  have P1 := Lib.hid (PA.out.qt q1)
  have B1 := Lib.hid (op9_kept BA.out (show Keeps (fun k => k ≠ w.heap.size) WA w1 from Keeps.mono q1 (fun _ _ e => e.elim)))
  clear c0 c1 c2 c3 c4 c5 TX hmw q1
  obtain ⟨c0, _, _, _, _, _, c6, c7, c8⟩ := op9_cells B1.out
  simp only at c0 c6 c7 c8
  have HV1 := hv.kept P1.out.since (fun a n cc e hn q => by have := hv.block a n cc e hn; omega)
  have OW := Lib.hid (World.ownsRow_made (base := 0) (e := 4) (size := 1) w1 #[] 0 (Nat.zero_le _) (Nat.zero_le _) rfl)
  have NEWS := Lib.hid (fun W' (q : Qt w1 W') => bools_news HV1 q)
  have LEN := Lib.hid (show ft.kept.length = (boolCells9 ft.kept).length by simp [boolCells9])
  have h63 := Lib.hid (show ft.kept.length ≤ maxLen by unfold maxLen; omega)
  have hby := Lib.hid (show ft.kept.length * 1 ≤ 140737488355328 by omega)
  obtain ⟨i0, hi, hz0, hz1, hz2⟩ := info_parts infoBool9
  have HV := Lib.hid hv
  have c6' := Qt.cellv ((Qt.refl w1).alloc (.cells #[] 4)) c6
  clear hv HV1
  go_wp2_with (first
    | (refine wpList_append_row (by rfl) _ _ 36 (by rfl) 4 i0 (.bool false) 1 Tryd.underlying36 hi hz0 hz1 hz2 rfl w1.heap.size 0 0 ft.kept.length [] (by rfl) OW.out ka ft.kept.length kc (boolCells9 ft.kept) (by rfl) LEN.out (NEWS.out _ (Keeps.alloc (Qt.refl _) _)) (boolCells9_one _) (Nat.zero_add _) h63.out hby.out ?_; intro g7 cap7 w7 hown7 hg7 hl7; have Q7 := Lib.hid (row_kept9 hg7); have HB7 := Lib.hid (row_block9 hl7); rw [List.nil_append] at hown7; have HO7 := Lib.hid hown7; have B7 := Lib.hid (op9_kept B1.out (show Keeps (fun k => k ≠ w.heap.size) w1 w7 from Keeps.mono Q7.out (fun _ _ e => e.elim))); obtain ⟨c0, _, _, _, _, _, c6, c7, c8⟩ := op9_cells B7.out; simp only at c0 c6 c7 c8; clear hown7 hg7 hl7))
  have FW := Lib.hid (HF.out.few (by omega))
  have FX := Lib.hid (HF.out.crash ft)
  refine (pair_crash (lt_of_block B1.out) P1.out Q7.out FW.out (.slice (some ⟨g7, 0, none⟩) ft.kept.length cap7) ft (bools_made HO7.out (Qt.refl _)) (fun _ _ _ e _ => by injection e with e1; injection e1 with e1; subst e1; exact HB7.out)).mono ?_
  rintro e w8 ⟨rfl, p8, k8⟩
  have P8 := Lib.hid p8
  have B8 := Lib.hid (op9_kept B7.out k8)
  clear c0 c6 c7 c8 c6' p8 k8
  obtain ⟨c0, _, _, _, _, _, c6, c7, c8⟩ := op9_cells B8.out
  simp only at c0 c6 c7 c8
  have HV8 := HV.out.kept P8.out.since (fun a n cc e hn q => by have := HV.out.block a n cc e hn; omega)
  have CR := Lib.hid (pairR_crash (lt_of_block B8.out) P8.out FW.out (.slice ka ft.kept.length kc) ft HV8 (fun a n cc e hn => HV.out.block a n cc e hn))
  clear HV8
  unfold fateV at CR
  go_wp2_with fail
  refine CR.out.mono ?_
  rintro e w9 ⟨rfl, p9, k9⟩
  have FIN := Lib.hid (show StepP9 w0 b c f (.returned (.bool true)) w9 from ⟨rfl, _, _, FX.out.mono (by omega), p9⟩)
  clear p9 k9
  go_wp2
  go_ret
  exact FIN.out

set_option maxHeartbeats 3200000 in
theorem step9_none (h : Pair j w0 w b c d d) (hf : d.FewN f) (kind : Int) (h0 : kind ≠ 0) (h1 : kind ≠ 1) (h2 : kind ≠ 2) (h3 : kind ≠ 3) (h4 : kind ≠ 4) (h5 : kind ≠ 5) (i n : Int) (st : Nat) (bytes seed : Int) (kv : Value) (ft : FT) :
    Calls Tryd.prog 14 #[.pointer (some ⟨b, 0, none⟩), .pointer (some ⟨c, 0, none⟩), OpQ.val ⟨kind, i, n, st, bytes, seed, kv, ft⟩] w (StepP9 w0 b c f) := by
  obtain ⟨WA, AT⟩ := Step9At.of (ad := fun _ => ⟨0, 0, none⟩) (f := f) h ⟨kind, i, n, st, bytes, seed, kv, ft⟩
  have HWA := Lib.hid AT.laid
  have PA := Lib.hid AT.pair
  have BA := Lib.hid AT.box
  obtain ⟨c0, c1, c2, c3, c4, c5, _, _, _⟩ := op9_cells AT.box
  simp only at HWA c0 c1 c2 c3 c4 c5
  have hmw : wrap64 ((IntKind.u64.wrap bytes).tmod 2001) = (modU bytes 2001 : Int) := modU_wrap bytes 2001 (by decide) (by decide)
  have hL : modU bytes 2001 ≤ 2000 := by have := Nat.mod_lt ((bytes % 18446744073709551616).toNat) (show 0 < 2001 by decide); unfold modU; omega
  generalize modU bytes 2001 = Ln at *
  have TX := fun W => text9_any seed Ln (by omega) W
  have HF := Lib.hid hf
  clear h AT hf
  unfold OpQ.val OpQ.list
  go_enter Tryd.func14, Tryd.ntmps14
  go_wp2_with fail
  rw [HWA.out]
  refine (TX _).mono ?_
  rintro e w1 ⟨T, hTs, rfl, q1⟩
  subst hTs
  have P1 := Lib.hid (PA.out.qt q1)
  have B1 := Lib.hid (op9_kept BA.out (show Keeps (fun k => k ≠ w.heap.size) WA w1 from Keeps.mono q1 (fun _ _ e => e.elim)))
  clear c0 c1 c2 c3 c4 c5 TX hmw q1
  obtain ⟨c0, _⟩ := op9_cells B1.out
  simp only at c0
  have y0 : (kind == 0) = false := beq_eq_false_iff_ne.2 h0
  have y1 : (kind == 1) = false := beq_eq_false_iff_ne.2 h1
  have y2 : (kind == 2) = false := beq_eq_false_iff_ne.2 h2
  have y3 : (kind == 3) = false := beq_eq_false_iff_ne.2 h3
  have y4 : (kind == 4) = false := beq_eq_false_iff_ne.2 h4
  have y5 : (kind == 5) = false := beq_eq_false_iff_ne.2 h5
  have FIN := Lib.hid (show StepP9 w0 b c f (.returned (.bool true)) w1 from ⟨rfl, _, _, HF.out.mono (by omega), P1.out⟩)
  clear h0 h1 h2 h3 h4 h5
  go_wp2
  go_ret
  exact FIN.out

end
end Go.Proofs.YtcapifhmmkmboaaDoor
