/-
  The contract of remitlaw10's step: Append, Sync.
  The contract of remitlaw10's step: Write.
-/
import Derived.Test.YtggogaaooacooaaDoorP43
import Derived.Test.YtggogaaooacooaaDoorP37
import Derived.Deep.RegionHeld3
import Derived.Test.YtggogaaooacooaaDoorP20
import Derived.Test.YtggogaaooacooaaDoorP09
namespace Go.Proofs.YtggogaaooacooaaDoor
open Go.RowKit Go.WideShapes
set_option maxRecDepth 100000
section
variable {ad : Nat → Addr} {w0 w : World} {I : Nat → Prop} {pb b c f : Nat} {d : DS} {jv qv : Option Addr}

/-- Between the two calls: the program's journal has turned, the document's own not yet. -/
structure Mid (w0 W : World) (I : Nat → Prop) (pb b c qj qr : Nat) (d : DS) (j : J.JS) (r : Nat × J.JS × DS) : Prop where
  pair : PairJ I w0 W b c r.2.2 d
  box : PrBox W pb b c (some ⟨qj, 0, none⟩) (some ⟨qr, 0, none⟩)
  cj : CJ W qj b r.2.1
  rj : RJ W qr c j
  high : ∀ k, I k → k < W.heap.size
theorem Mid.of {W W1 : World} {qj qr : Nat} {j : J.JS} {r : Nat × J.JS × DS} (h : Pl w0 W I pb b c f d (some ⟨qj, 0, none⟩) (some ⟨qr, 0, none⟩)) (i2 : I qr) (n3 : qj ≠ qr) (n4 : qj ≠ pb) (hR : RJ W qr c j)
    (p : PairJ I w0 W1 b c r.2.2 d) (k1 : CJ W1 qj b r.2.1) (K : Keeps (fun k => k = qj ∨ OutJ w0 I k) W W1) : Mid w0 W1 I pb b c qj qr d j r :=
  ⟨p, (K.block pb (h.high _ h.mine) (fun e => e.elim (fun e => n4 e.symm) (fun e => e.2 h.mine))).trans h.box, k1, hR.kept K (fun e => e.elim (fun e => n3 e.symm) (fun e => e.2 i2)), fun k e => Nat.lt_of_lt_of_le (h.high k e) K.size⟩
theorem Mid.fin {W1 W2 : World} {qj qr : Nat} {j : J.JS} {r : Nat × J.JS × DS} {W : World} (h : Pl w0 W I pb b c f d (some ⟨qj, 0, none⟩) (some ⟨qr, 0, none⟩)) (i1 : I qj) (i2 : I qr) (n3 : qj ≠ qr) (n4 : qj ≠ pb) (n5 : qr ≠ pb) (m : Mid w0 W1 I pb b c qj qr d j r)
    (p : PairJ I w0 W2 b c r.2.2 r.2.2) (k1 : RJ W2 qr c r.2.1) (K : Keeps (fun k => k = qr ∨ OutJ w0 I k) W1 W2) (hF : J.Fine r.2.1 r.2.2) (hf : r.2.2.FewN (f + 14)) : ∀ W3, Qt W2 W3 → StepJ w0 pb b c f (.returned (.bool true)) W3 := by
  intro W3 q
  have e : Pl w0 W2 I pb b c (f + 14) r.2.2 (some ⟨qj, 0, none⟩) (some ⟨qr, 0, none⟩) :=
    ⟨p, h.mine, h.low, fun k e => Nat.lt_of_lt_of_le (m.high k e) K.size, (K.block pb (m.high _ h.mine) (fun e => e.elim (fun e => n5 e.symm) (fun e => e.2 h.mine))).trans m.box, .inr ⟨qj, qr, r.2.1, rfl, rfl, i1, i2, n3, n4, n5, m.cj.kept K (fun e => e.elim n3 (fun e => e.2 i1)), k1, hF⟩, hf⟩
  exact ⟨rfl, _, _, _, _, e.qt q⟩
theorem cost_rec {z : Nat} (h : z ≤ 3000) : J.cost z ≤ 14 := by
  unfold J.cost
  split <;> omega
set_option maxHeartbeats 3200000 in
theorem stepJ_sync (hE : Errs ad w0) (hT : Tab w0) (h : Pl w0 w I pb b c f d jv qv) (hf2 : f ≤ 1000000000) (i n v size fill : Int) (ka : Option Addr) (kc : Nat) (ft : FT) :
    Calls Tryd.prog 12 #[.pointer (some ⟨pb, 0, none⟩), OpJ.val ⟨3, i, n, v, size, fill, .slice ka ft.kept.length kc, ft⟩] w (StepJ w0 pb b c f) := by
  obtain ⟨WA, hWA, PA0, BA0⟩ := plJ_start h ⟨3, i, n, v, size, fill, .slice ka ft.kept.length kc, ft⟩
  have HWA := Lib.hid hWA
  simp only at HWA
  have PA := Lib.hid PA0
  have BA := Lib.hid BA0
  have HE := Lib.hid hE
  have HT := Lib.hid hT
  have HF2 := Lib.hid hf2
  have OBI := Lib.hid (show (fun k => I k ∨ k = w.heap.size) w.heap.size from .inr rfl)
  obtain ⟨c0, c1, c2, c3, c4, c5, c6, c7, c8⟩ := BA0.cells
  obtain ⟨x0, x1, x2, x3⟩ := PA0.box.cells
  simp only at c0 c1 c2 c3 c4 c5 c6 c7 c8
  have KC := Lib.hid (fun (W : World) (o : OpBox W w.heap.size ⟨3, i, n, v, size, fill, .slice ka ft.kept.length kc, ft⟩) => o.cells)
  simp only at KC
  have KP := Lib.hid (fun (W : World) (o : PrBox W pb b c jv qv) => o.cells)
  have OBW := Lib.hid (fun (W : World) (k : Qt WA W) => (show OpBox W w.heap.size ⟨3, i, n, v, size, fill, .slice ka ft.kept.length kc, ft⟩ from (k.block w.heap.size (lt_of_block BA0) (fun e => e)).trans BA0))
  clear h hWA PA0 BA0 hE hT hf2
  generalize hI : (fun k => I k ∨ k = w.heap.size) = I' at *
  clear hI
  have hwa := HWA.out
  clear HWA
  subst hwa
  unfold OpJ.val OpJ.list
  rcases PA.out.jrns with ⟨hj, hq⟩ | ⟨qj, qr, j, hj, hq, i1, i2, i3, i4, i5, jC, jR, jF⟩
  · subst hj
    have FIN := Lib.hid PA.out.step
    go_enter Tryd.func12, Tryd.ntmps12
    go_wp2
    go_ret
    exact FIN.out
  · subst hj
    subst hq
    have JN := Lib.hid (show j.n ≤ 65536 from Nat.le_trans (Nat.le_trans (Nat.le_add_left _ _) jF.fit) PA.out.pair.ref.2.2.le)
    have JU := Lib.hid jF.used
    have CJQ := Lib.hid (fun W (q : Qt (w.alloc (.cells #[.int .i64 3, .int .i64 i, .int .i64 n, .int .i64 v, .int .i64 size, .int .i64 fill, .slice ka ft.kept.length kc, .int .i64 ft.torn, .int .i64 ft.bytes] 42)) W) => jC.kept q (fun e => e))
    have RJQ := Lib.hid (fun W (q : Qt (w.alloc (.cells #[.int .i64 3, .int .i64 i, .int .i64 n, .int .i64 v, .int .i64 size, .int .i64 fill, .slice ka ft.kept.length kc, .int .i64 ft.torn, .int .i64 ft.bytes] 42)) W) => jR.kept q (fun e => e))
    have JF := Lib.hid jF
    have I1 := Lib.hid i1
    have I2 := Lib.hid i2
    have JC := Lib.hid jC
    have JJ := Lib.hid jR
    have N3 := Lib.hid i3
    have N4 := Lib.hid i4
    have N5 := Lib.hid i5
    clear i1 i2 i3 i4 i5 jC jR jF
    have PAs := PA.out
    have PLs := Lib.hid PAs
    have FW := Lib.hid (show d.Few from PAs.few.few (Nat.le_trans HF2.out (by decide)))
    have LOW := Lib.hid PAs.low
    have OBQ := Lib.hid (fun W (q : Qt (w.alloc (.cells #[.int .i64 3, .int .i64 i, .int .i64 n, .int .i64 v, .int .i64 size, .int .i64 fill, .slice ka ft.kept.length kc, .int .i64 ft.torn, .int .i64 ft.bytes] 42)) W) => KC.out _ (OBW.out W q))
    have QS := Lib.hid (Qt.refl (w.alloc (.cells #[.int .i64 3, .int .i64 i, .int .i64 n, .int .i64 v, .int .i64 size, .int .i64 fill, .slice ka ft.kept.length kc, .int .i64 ft.torn, .int .i64 ft.bytes] 42)))
    clear KP KC OBW BA c1 c2 c3 c6 c7 c8 x0 x1 PAs
    have C1 := Lib.hid (pairK_sync HE.out HT.out PA.out.low PA.out.high I1.out PA.out.pair FW.out JC.out JF.out)
    have C2 := Lib.hid (fun W (h : ∀ k, I' k → k < W.heap.size) (dd : DS) (p : PairJ I' w0 W b c dd d) (q : RJ W qr c j) => rsync_any LOW.out h I2.out p FW.out q)
    have SY := Lib.hid (J.Fine.sync JF.out)
    have SF := Lib.hid ((J.sync_few (j := j) PA.out.few).mono (show f + 1 ≤ f + 14 by omega))
    generalize j.sync d = r at C1 C2 SY SF
    have PL1 := Lib.hid PA.out
    have JR1 := Lib.hid JJ.out
    go_enter Tryd.func12, Tryd.ntmps12
    go_wp2_with fail
    refine (C1.out).mono ?_
    rintro e w1 ⟨rfl, p1, j1, k1⟩
    have M1 := Lib.hid (Mid.of PL1.out I2.out N3.out N4.out JR1.out p1 j1 k1)
    clear p1 j1 k1 x2 x3
    obtain ⟨_, _, x2, x3⟩ := M1.out.box.cells
    go_wp2_with fail
    refine (C2.out w1 M1.out.high r.2.2 M1.out.pair M1.out.rj).mono ?_
    rintro e w2 ⟨rfl, p2, j2, k2⟩
    have P2 := Lib.hid p2
    have FIN := Lib.hid (Mid.fin PL1.out I1.out I2.out N3.out N4.out N5.out M1.out p2 j2 k2 SY.out.1 SF.out)
    have EQ : ((r.1 : Int) == (r.1 : Int)) = true := beq_self_eq_true _
    clear p2 j2 k2 x2 x3 C1 C2
    go_wp2_with fail
    refine (num_any ad r.1 w2 (errs_since HE.out P2.out.since) SY.out.2).mono ?_
    rintro e w3 ⟨rfl, q3⟩
    have Q3 := Lib.hid q3
    clear q3
    go_wp2
    go_ret
    exact FIN.out w3 Q3.out
set_option maxHeartbeats 3200000 in
theorem stepJ_append (hE : Errs ad w0) (hT : Tab w0) (h : Pl w0 w I pb b c f d jv qv) (hf2 : f ≤ 1000000000) (i n v size fill : Int) (ka : Option Addr) (kc : Nat) (ft : FT) :
    Calls Tryd.prog 12 #[.pointer (some ⟨pb, 0, none⟩), OpJ.val ⟨2, i, n, v, size, fill, .slice ka ft.kept.length kc, ft⟩] w (StepJ w0 pb b c f) := by
  obtain ⟨WA, hWA, PA0, BA0⟩ := plJ_start h ⟨2, i, n, v, size, fill, .slice ka ft.kept.length kc, ft⟩
  have HWA := Lib.hid hWA
  simp only at HWA
  have PA := Lib.hid PA0
  have BA := Lib.hid BA0
  have HE := Lib.hid hE
  have HT := Lib.hid hT
  have HF2 := Lib.hid hf2
  have OBI := Lib.hid (show (fun k => I k ∨ k = w.heap.size) w.heap.size from .inr rfl)
  obtain ⟨c0, c1, c2, c3, c4, c5, c6, c7, c8⟩ := BA0.cells
  obtain ⟨x0, x1, x2, x3⟩ := PA0.box.cells
  simp only at c0 c1 c2 c3 c4 c5 c6 c7 c8
  have KC := Lib.hid (fun (W : World) (o : OpBox W w.heap.size ⟨2, i, n, v, size, fill, .slice ka ft.kept.length kc, ft⟩) => o.cells)
  simp only at KC
  have KP := Lib.hid (fun (W : World) (o : PrBox W pb b c jv qv) => o.cells)
  have OBW := Lib.hid (fun (W : World) (k : Qt WA W) => (show OpBox W w.heap.size ⟨2, i, n, v, size, fill, .slice ka ft.kept.length kc, ft⟩ from (k.block w.heap.size (lt_of_block BA0) (fun e => e)).trans BA0))
  clear h hWA PA0 BA0 hE hT hf2
  generalize hI : (fun k => I k ∨ k = w.heap.size) = I' at *
  clear hI
  have hwa := HWA.out
  clear HWA
  subst hwa
  unfold OpJ.val OpJ.list
  rcases PA.out.jrns with ⟨hj, hq⟩ | ⟨qj, qr, j, hj, hq, i1, i2, i3, i4, i5, jC, jR, jF⟩
  · subst hj
    have FIN := Lib.hid PA.out.step
    go_enter Tryd.func12, Tryd.ntmps12
    go_wp2
    go_ret
    exact FIN.out
  · subst hj
    subst hq
    have JN := Lib.hid (show j.n ≤ 65536 from Nat.le_trans (Nat.le_trans (Nat.le_add_left _ _) jF.fit) PA.out.pair.ref.2.2.le)
    have JU := Lib.hid jF.used
    have CJQ := Lib.hid (fun W (q : Qt (w.alloc (.cells #[.int .i64 2, .int .i64 i, .int .i64 n, .int .i64 v, .int .i64 size, .int .i64 fill, .slice ka ft.kept.length kc, .int .i64 ft.torn, .int .i64 ft.bytes] 42)) W) => jC.kept q (fun e => e))
    have RJQ := Lib.hid (fun W (q : Qt (w.alloc (.cells #[.int .i64 2, .int .i64 i, .int .i64 n, .int .i64 v, .int .i64 size, .int .i64 fill, .slice ka ft.kept.length kc, .int .i64 ft.torn, .int .i64 ft.bytes] 42)) W) => jR.kept q (fun e => e))
    have JF := Lib.hid jF
    have I1 := Lib.hid i1
    have I2 := Lib.hid i2
    have JC := Lib.hid jC
    have JJ := Lib.hid jR
    have N3 := Lib.hid i3
    have N4 := Lib.hid i4
    have N5 := Lib.hid i5
    clear i1 i2 i3 i4 i5 jC jR jF
    have PAs := PA.out
    have PLs := Lib.hid PAs
    have FW := Lib.hid (show d.Few from PAs.few.few (Nat.le_trans HF2.out (by decide)))
    have LOW := Lib.hid PAs.low
    have OBQ := Lib.hid (fun W (q : Qt (w.alloc (.cells #[.int .i64 2, .int .i64 i, .int .i64 n, .int .i64 v, .int .i64 size, .int .i64 fill, .slice ka ft.kept.length kc, .int .i64 ft.torn, .int .i64 ft.bytes] 42)) W) => KC.out _ (OBW.out W q))
    have QS := Lib.hid (Qt.refl (w.alloc (.cells #[.int .i64 2, .int .i64 i, .int .i64 n, .int .i64 v, .int .i64 size, .int .i64 fill, .slice ka ft.kept.length kc, .int .i64 ft.torn, .int .i64 ft.bytes] 42)))
    clear KP KC OBW BA c1 c2 c3 c6 c7 c8 x0 x1 PAs
    obtain ⟨R, hR⟩ : ∃ R : ByteArray, ⟨(recB fill (modU size 3001)).toArray⟩ = R := ⟨_, rfl⟩
    have RC := fun W => record_any size fill W
    rw [hR] at RC
    have R3 : R.data.toList.length ≤ 3000 := by
      rw [← hR]
      show (recB fill (modU size 3001)).length ≤ 3000
      rw [recB_length]
      have := Nat.mod_lt ((size % 18446744073709551616).toNat) (show 0 < 3001 by decide)
      unfold modU
      omega
    clear hR
    have R3 := Lib.hid R3
    have RC := Lib.hid RC
    go_enter Tryd.func12, Tryd.ntmps12
    go_wp2_with fail
    refine (RC.out _).mono ?_
    rintro e w9 ⟨rfl, q9⟩
    have Q9 := Lib.hid (Qt.trans QS.out q9)
    clear q9 c0 c4 c5 x2 x3
    have PL1 := Lib.hid (PA.out.qt Q9.out)
    have JR1 := Lib.hid (RJQ.out w9 Q9.out)
    obtain ⟨_, _, x2, x3⟩ := PL1.out.box.cells
    have hRz := Lib.hid (show R.size ≤ 1099511627776 by have := R3.out; rw [dlen7] at this; omega)
    have C1 := Lib.hid (pairK_append HE.out HT.out PL1.out.low PL1.out.high I1.out PL1.out.pair PL1.out.few (Nat.le_trans HF2.out (by decide)) (CJQ.out w9 Q9.out) JF.out R hRz.out)
    have C2 := Lib.hid (fun W (h : ∀ k, I' k → k < W.heap.size) (dd : DS) (p : PairJ I' w0 W b c dd d) (q : RJ W qr c j) => rappend_any LOW.out h I2.out p PL1.out.few (Nat.le_trans HF2.out (by decide)) q JF.out.used JF.out.fit JF.out.v1 JF.out.v2 R hRz.out)
    have SY := Lib.hid (J.Fine.append JF.out R.data.toList)
    have SF := Lib.hid ((J.append_few (j := j) PL1.out.few R.data.toList).mono (show f + J.cost R.data.toList.length ≤ f + 14 by have := cost_rec R3.out; omega))
    generalize j.append d R.data.toList = r at C1 C2 SY SF
    clear RC
    go_wp2_with fail
    refine (C1.out).mono ?_
    rintro e w1 ⟨rfl, p1, j1, k1⟩
    have M1 := Lib.hid (Mid.of PL1.out I2.out N3.out N4.out JR1.out p1 j1 k1)
    clear p1 j1 k1 x2 x3
    obtain ⟨_, _, x2, x3⟩ := M1.out.box.cells
    go_wp2_with fail
    refine (C2.out w1 M1.out.high r.2.2 M1.out.pair M1.out.rj).mono ?_
    rintro e w2 ⟨rfl, p2, j2, k2⟩
    have P2 := Lib.hid p2
    have FIN := Lib.hid (Mid.fin PL1.out I1.out I2.out N3.out N4.out N5.out M1.out p2 j2 k2 SY.out.1 SF.out)
    have EQ : ((r.1 : Int) == (r.1 : Int)) = true := beq_self_eq_true _
    clear p2 j2 k2 x2 x3 C1 C2
    go_wp2_with fail
    refine (num_any ad r.1 w2 (errs_since HE.out P2.out.since) SY.out.2).mono ?_
    rintro e w3 ⟨rfl, q3⟩
    have Q3 := Lib.hid q3
    clear q3
    go_wp2
    go_ret
    exact FIN.out w3 Q3.out
end
end Go.Proofs.YtggogaaooacooaaDoor
namespace Go.Proofs.YtggogaaooacooaaDoor
open Go.RowKit Go.WideShapes
set_option maxRecDepth 100000
section
variable {ad : Nat → Addr} {w0 w : World} {I : Nat → Prop} {pb b c f : Nat} {d : DS} {jv qv : Option Addr}
theorem conv1_at {w W2 : World} {a : Int} (k : Qt (w.alloc (.cells #[.int .u8 a] 5)) W2) : (convert 75 9 (.slice (some ⟨w.heap.size, 0, none⟩) 1 1)).run Tryd.prog W2 = .ok (.string ⟨#[a.toNat.toUInt8]⟩) W2 := by
  have hb : W2.heap[w.heap.size]? = some (.cells #[.int .u8 a] 5 (0, 0)) := (k.block w.heap.size (by have : (w.alloc (.cells #[.int .u8 a] 5)).heap.size = w.heap.size + 1 := World.size_alloc _ _; omega) (fun e => e)).trans (heap_alloc_new w _)
  have h := run_convert_bytes_arg (P := Tryd.prog) W2 75 5 Tryd.underlying75 Tryd.underlying5 w.heap.size 0 1 1 [a] rfl (fun i hi => by
    have : i = 0 := by simpa using hi
    subst this
    rw [cell_of_row _ _ _ _ _ _ hb]; rfl) 9 Tryd.underlying9
  exact h
theorem writeE_leJ (d : DS) (i : Int) (s : List UInt8) : d.writeE i s ≤ 37 := by
  have h : d.reach i ≤ 37 := by
    unfold DS.reach
    repeat' split
    all_goals omega
  unfold DS.writeE
  repeat' split
  all_goals omega
set_option maxHeartbeats 3200000 in
theorem stepJ_write (hE : Errs ad w0) (hT : Tab w0) (h : Pl w0 w I pb b c f d jv qv) (hf2 : f ≤ 1000000000) (i n v size fill : Int) (ka : Option Addr) (kc : Nat) (ft : FT) :
    Calls Tryd.prog 12 #[.pointer (some ⟨pb, 0, none⟩), OpJ.val ⟨8, i, n, v, size, fill, .slice ka ft.kept.length kc, ft⟩] w (StepJ w0 pb b c f) := by
  obtain ⟨WA, hWA, PA0, BA0⟩ := plJ_start h ⟨8, i, n, v, size, fill, .slice ka ft.kept.length kc, ft⟩
  have HWA := Lib.hid hWA
  simp only at HWA
  have PA := Lib.hid PA0
  have BA := Lib.hid BA0
  have HE := Lib.hid hE
  have HT := Lib.hid hT
  have HF2 := Lib.hid hf2
  have OBI := Lib.hid (show (fun k => I k ∨ k = w.heap.size) w.heap.size from .inr rfl)
  obtain ⟨c0, c1, c2, c3, c4, c5, c6, c7, c8⟩ := BA0.cells
  obtain ⟨x0, x1, x2, x3⟩ := PA0.box.cells
  simp only at c0 c1 c2 c3 c4 c5 c6 c7 c8
  have KC := Lib.hid (fun (W : World) (o : OpBox W w.heap.size ⟨8, i, n, v, size, fill, .slice ka ft.kept.length kc, ft⟩) => o.cells)
  simp only at KC
  have KP := Lib.hid (fun (W : World) (o : PrBox W pb b c jv qv) => o.cells)
  have OBW := Lib.hid (fun (W : World) (k : Qt WA W) => (show OpBox W w.heap.size ⟨8, i, n, v, size, fill, .slice ka ft.kept.length kc, ft⟩ from (k.block w.heap.size (lt_of_block BA0) (fun e => e)).trans BA0))
  clear h hWA PA0 BA0 hE hT hf2
  generalize hI : (fun k => I k ∨ k = w.heap.size) = I' at *
  clear hI
  have hwa := HWA.out
  clear HWA
  subst hwa
  unfold OpJ.val OpJ.list
  have KPB := Lib.hid (fun (W W' : World) (K : Keeps (OutJ w0 I') W W') (o : PrBox W pb b c jv qv) => (show PrBox W' pb b c jv qv from (K.block pb (lt_of_block o) (fun e => e.2 PA.out.mine)).trans o))
  have KOB := Lib.hid (fun (W W' : World) (K : Keeps (OutJ w0 I') W W') (o : OpBox W w.heap.size ⟨8, i, n, v, size, fill, .slice ka ft.kept.length kc, ft⟩) => (show OpBox W' w.heap.size ⟨8, i, n, v, size, fill, .slice ka ft.kept.length kc, ft⟩ from (K.block w.heap.size (lt_of_block o) (fun e => e.2 OBI.out)).trans o))
  have KHI := Lib.hid (fun (W W' : World) (K : Keeps (OutJ w0 I') W W') (h : ∀ k, I' k → k < W.heap.size) => (show ∀ k, I' k → k < W'.heap.size from fun k e => Nat.lt_of_lt_of_le (h k e) K.size))
  have KTR := Lib.hid (fun (W W' W'' : World) (K : Keeps (OutJ w0 I') W W') (K' : Keeps (OutJ w0 I') W' W'') => (show Keeps (OutJ w0 I') W W'' from Keeps.trans K K' (fun _ _ h => h)))
  have FN := Lib.hid PA.out.few
  have FW := Lib.hid (show d.Few from PA.out.few.few (Nat.le_trans HF2.out (by decide)))
  have OBs := Lib.hid BA.out
  have PPs := Lib.hid PA.out.pair
  have PBs := Lib.hid PA.out.box
  have HIGs := Lib.hid PA.out.high
  have KKs := Lib.hid (Keeps.refl (OutJ w0 I') (w.alloc (.cells #[.int .i64 8, .int .i64 i, .int .i64 n, .int .i64 v, .int .i64 size, .int .i64 fill, .slice ka ft.kept.length kc, .int .i64 ft.torn, .int .i64 ft.bytes] 42)))
  clear c1 c2 c3 c4 c6 c7 c8 x0 x1 x3
  go_enter Tryd.func12, Tryd.ntmps12
  go_wp2_with fail
  clear c0 c5 x2
  generalize hW : w.alloc (.cells #[.int .i64 8, .int .i64 i, .int .i64 n, .int .i64 v, .int .i64 size, .int .i64 fill, .slice ka ft.kept.length kc, .int .i64 ft.torn, .int .i64 ft.bytes] 42) = WA at *
  clear hW
  have QA := Lib.hid (Qt.refl WA)
  have QD := Lib.hid (Keeps.drew QA.out)
  have OBQ := Lib.hid (fun W (q : Qt WA W) => KC.out _ (OBW.out W q))
  have m1 : (Instr.makeSlice 75 (.int .i64 255) (.int .i64 255)).run Tryd.prog WA.drew = .ok (.slice (some ⟨WA.drew.heap.size, 0, none⟩) 255 255) (WA.drew.alloc (.cells (madeCells #[Value.int .u8 0] 255) 5)) := make_zeros WA.drew 255 (by decide)
  have m2 : (Instr.makeSlice 75 (.int .i64 255) (.int .i64 255)).run Tryd.prog (WA.alloc (.cells #[.int .u8 (IntKind.u8.wrap fill)] 5)).drew = .ok (.slice (some ⟨(WA.alloc (.cells #[.int .u8 (IntKind.u8.wrap fill)] 5)).drew.heap.size, 0, none⟩) 255 255) ((WA.alloc (.cells #[.int .u8 (IntKind.u8.wrap fill)] 5)).drew.alloc (.cells (madeCells #[Value.int .u8 0] 255) 5)) := make_zeros _ 255 (by decide)
  have v1 : (convert 75 9 (.slice (some ⟨WA.heap.size, 0, none⟩) 255 255)).run Tryd.prog (WA.drew.alloc (.cells (madeCells #[Value.int .u8 0] 255) 5)) = .ok (.string ⟨(List.replicate 255 0).toArray⟩) (WA.drew.alloc (.cells (madeCells #[Value.int .u8 0] 255) 5)) := zeros_conv (w := WA.drew) (Qt.refl _)
  have v2 : (convert 75 9 (.slice (some ⟨WA.heap.size, 0, none⟩) 255 255)).run Tryd.prog ((WA.drew.alloc (.cells (madeCells #[Value.int .u8 0] 255) 5)).alloc (.cells #[.int .u8 (IntKind.u8.wrap fill)] 5)) = .ok (.string ⟨(List.replicate 255 0).toArray⟩) ((WA.drew.alloc (.cells (madeCells #[Value.int .u8 0] 255) 5)).alloc (.cells #[.int .u8 (IntKind.u8.wrap fill)] 5)) := zeros_conv (w := WA.drew) (Keeps.alloc (Qt.refl _) _)
  have v3 : (convert 75 9 (.slice (some ⟨(WA.alloc (.cells #[.int .u8 (IntKind.u8.wrap fill)] 5)).heap.size, 0, none⟩) 255 255)).run Tryd.prog ((WA.alloc (.cells #[.int .u8 (IntKind.u8.wrap fill)] 5)).drew.alloc (.cells (madeCells #[Value.int .u8 0] 255) 5)) = .ok (.string ⟨(List.replicate 255 0).toArray⟩) ((WA.alloc (.cells #[.int .u8 (IntKind.u8.wrap fill)] 5)).drew.alloc (.cells (madeCells #[Value.int .u8 0] 255) 5)) := zeros_conv (w := (WA.alloc (.cells #[.int .u8 (IntKind.u8.wrap fill)] 5)).drew) (Qt.refl _)
  have u1 : (convert 75 9 (.slice (some ⟨(WA.drew.alloc (.cells (madeCells #[Value.int .u8 0] 255) 5)).heap.size, 0, none⟩) 1 1)).run Tryd.prog ((WA.drew.alloc (.cells (madeCells #[Value.int .u8 0] 255) 5)).alloc (.cells #[.int .u8 (IntKind.u8.wrap fill)] 5)) = .ok (.string ⟨#[((IntKind.u8.wrap fill)).toNat.toUInt8]⟩) ((WA.drew.alloc (.cells (madeCells #[Value.int .u8 0] 255) 5)).alloc (.cells #[.int .u8 (IntKind.u8.wrap fill)] 5)) := conv1_at (Qt.refl _)
  have u2 : (convert 75 9 (.slice (some ⟨WA.heap.size, 0, none⟩) 1 1)).run Tryd.prog (WA.alloc (.cells #[.int .u8 (IntKind.u8.wrap fill)] 5)).drew = .ok (.string ⟨#[((IntKind.u8.wrap fill)).toNat.toUInt8]⟩) (WA.alloc (.cells #[.int .u8 (IntKind.u8.wrap fill)] 5)).drew := conv1_at (w := WA.drew) (Qt.refl _)
  have u3 : (convert 75 9 (.slice (some ⟨WA.heap.size, 0, none⟩) 1 1)).run Tryd.prog ((WA.alloc (.cells #[.int .u8 (IntKind.u8.wrap fill)] 5)).drew.alloc (.cells (madeCells #[Value.int .u8 0] 255) 5)) = .ok (.string ⟨#[((IntKind.u8.wrap fill)).toNat.toUInt8]⟩) ((WA.alloc (.cells #[.int .u8 (IntKind.u8.wrap fill)] 5)).drew.alloc (.cells (madeCells #[Value.int .u8 0] 255) 5)) := conv1_at (w := WA.drew) (Keeps.alloc (Qt.refl _) _)
  rw [show ((WA.alloc (.cells #[.int .u8 (IntKind.u8.wrap fill)] 5))).heap.size = WA.heap.size + 1 from World.size_alloc _ _] at v3
  have q1 := Lib.hid (show Qt WA (WA.drew.alloc (.cells (madeCells #[Value.int .u8 0] 255) 5)) from Keeps.alloc QD.out _)
  have q2 := Lib.hid (show Qt WA (WA.alloc (.cells #[.int .u8 (IntKind.u8.wrap fill)] 5)).drew from Keeps.alloc QD.out _)
  have q3 := Lib.hid (show Qt WA ((WA.drew.alloc (.cells (madeCells #[Value.int .u8 0] 255) 5)).alloc (.cells #[.int .u8 (IntKind.u8.wrap fill)] 5)) from Keeps.alloc (Keeps.alloc QD.out _) _)
  have q4 := Lib.hid (show Qt WA ((WA.alloc (.cells #[.int .u8 (IntKind.u8.wrap fill)] 5)).drew.alloc (.cells (madeCells #[Value.int .u8 0] 255) 5)) from Keeps.alloc (Keeps.alloc QD.out _) _)
  have hZ : (⟨(List.replicate 255 0).toArray⟩ : ByteArray).size = 255 := by show (List.replicate 255 (0 : UInt8)).toArray.size = 255; rw [List.size_toArray, List.length_replicate]
  have hB : (⟨#[((IntKind.u8.wrap fill)).toNat.toUInt8]⟩ : ByteArray).size = 1 := rfl
  generalize (⟨#[((IntKind.u8.wrap fill)).toNat.toUInt8]⟩ : ByteArray) = B at hB u1 u2 u3
  generalize (⟨(List.replicate 255 0).toArray⟩ : ByteArray) = Z at v1 v2 v3 hZ
  have mm : ¬ 9223372036854775807 < Z.size + B.size := by rw [hZ, hB]; decide
  clear hZ hB
  generalize hA : WA.drew.alloc (.cells (madeCells #[Value.int .u8 0] 255) 5) = WZ at *
  generalize hB : (WA.alloc (.cells #[.int .u8 (IntKind.u8.wrap fill)] 5)).drew.alloc (.cells (madeCells #[Value.int .u8 0] 255) 5) = WZB at *
  go_region_held (fun W => W.cell? ⟨w.heap.size, 5, none⟩ = some (.int .i64 fill))
    (first | exact (OBQ.out _ (Hid.out (by assumption))).2.2.2.2.2.1)
    (first
      | (fail))
  all_goals
    clear m1 m2 v1 v2 v3 u1 u2 u3 mm hA hB
    generalize Z ++ B = R
    first
      | (with_reducible show (Exit.then _ _) _ _ WZB; have Q3 := q4; clear q1 q2 q3 q4; generalize WZB = W3 at *)
      | (have Q3 := q3; clear q1 q2 q3 q4; generalize WZ.alloc (.cells #[.int .u8 (IntKind.u8.wrap fill)] 5) = W3 at *)
    have KS := Lib.hid (show Keeps (OutJ w0 I') WA W3 from Keeps.mono Q3.out (fun _ _ e => e.elim))
    have PPt := Lib.hid (PPs.out.qt Q3.out)
    have PBt := Lib.hid (KPB.out _ _ KS.out PBs.out)
    have OBt := Lib.hid (KOB.out _ _ KS.out OBs.out)
    have HIGt := Lib.hid (KHI.out _ _ KS.out HIGs.out)
    have KKt := Lib.hid (KTR.out _ _ _ KKs.out KS.out)
    clear PPs PBs OBs HIGs KKs
    obtain ⟨_, c1, _⟩ := KC.out _ OBt.out
    obtain ⟨x0, x1, _⟩ := KP.out _ PBt.out
    go_wp2_with fail
    clear c1 x0 x1
    have PPd := Lib.hid (PPt.out.qt (Keeps.drew (Qt.refl _)))
    have PBd := Lib.hid (KPB.out _ _ (Keeps.drew (Keeps.refl _ _)) PBt.out)
    have OBd := Lib.hid (KOB.out _ _ (Keeps.drew (Keeps.refl _ _)) OBt.out)
    have HIGd := Lib.hid (KHI.out _ _ (Keeps.drew (Keeps.refl _ _)) HIGt.out)
    have KKd := Lib.hid (Keeps.drew KKt.out)
    go_region_held3 (fun W => W.cell? ⟨pb, 0, none⟩ = some (.pointer (some ⟨b, 0, none⟩)) ∧ W.cell? ⟨w.heap.size, 1, none⟩ = some (.int .i64 i))
      (first | exact ⟨(KP.out _ (Hid.out (by assumption))).1, (KC.out _ (Hid.out (by assumption))).2.1⟩)
      (first
        | (go_at_call 33; refine (pairJ_write HE.out HIGd.out PPd.out FW.out i R).mono ?_; rintro e w1 ⟨rfl, p1, k1⟩; have PP1 := Lib.hid p1; have PB1 := Lib.hid (KPB.out _ _ k1 PBd.out); have OB1 := Lib.hid (KOB.out _ _ k1 OBd.out); have KK1 := Lib.hid (KTR.out _ _ _ KKd.out k1); have HIG1 := Lib.hid (KHI.out _ _ k1 HIGd.out); clear p1 k1))
    go_wp2_with fail
    have PPe := Lib.hid (PP1.out.qt (Keeps.drew (Qt.refl _)))
    have PBe := Lib.hid (KPB.out _ _ (Keeps.drew (Keeps.refl _ _)) PB1.out)
    have OBe := Lib.hid (KOB.out _ _ (Keeps.drew (Keeps.refl _ _)) OB1.out)
    have HIGe := Lib.hid (KHI.out _ _ (Keeps.drew (Keeps.refl _ _)) HIG1.out)
    have KKe := Lib.hid (Keeps.drew KK1.out)
    go_region_held3 (fun W => W.cell? ⟨pb, 1, none⟩ = some (.pointer (some ⟨c, 0, none⟩)) ∧ W.cell? ⟨w.heap.size, 1, none⟩ = some (.int .i64 i))
      (first | exact ⟨(KP.out _ (Hid.out (by assumption))).2.1, (KC.out _ (Hid.out (by assumption))).2.1⟩)
      (first
        | (go_at_call 40; refine (pairJR_write HIGe.out PPe.out FW.out i R).mono ?_; rintro e w2 ⟨rfl, p2, k2⟩; have PP2 := Lib.hid p2; have PB2 := Lib.hid (KPB.out _ _ k2 PBe.out); have OB2 := Lib.hid (KOB.out _ _ k2 OBe.out); have KK2 := Lib.hid (KTR.out _ _ _ KKe.out k2); have HIG2 := Lib.hid (KHI.out _ _ k2 HIGe.out); clear p2 k2))
    have WL := Lib.hid (writeE_leJ d i (strL R))
    have EQ : ((d.writeE i (strL R) : Int) == (d.writeE i (strL R) : Int)) = true := beq_self_eq_true _
    have FIN := Lib.hid (fun W (q : Qt w2 W) => (show StepJ w0 pb b c f (.returned (.bool true)) W from ⟨rfl, _, _, _, _, (PA.out.disks PP2.out KK2.out (fun j hF => hF.write i (strL R)) ((FN.out.write i (strL R)).mono (by omega))).qt q⟩))
    go_wp2_with fail
    refine (num_any ad (d.writeE i (strL R)) w2 (errs_since HE.out PP2.out.since) WL.out).mono ?_
    rintro e w3 ⟨rfl, q3⟩
    have Q4 := Lib.hid q3
    clear q3
    go_wp2
    go_ret
    exact FIN.out w3 Q4.out
end
end Go.Proofs.YtggogaaooacooaaDoor
