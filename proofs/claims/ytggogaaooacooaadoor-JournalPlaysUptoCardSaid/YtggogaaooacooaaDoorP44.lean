/-
  The contract of remitlaw10's step: Replay, Of, Ask.
-/
import Derived.Test.YtggogaaooacooaaDoorP43
import Derived.Test.YtggogaaooacooaaDoorP37
import Derived.Deep.RegionHeld3
namespace Go.Proofs.YtggogaaooacooaaDoor
open Go.RowKit Go.WideShapes
set_option maxRecDepth 100000
section
variable {ad : Nat → Addr} {w0 w : World} {I : Nat → Prop} {pb b c f : Nat} {d : DS} {jv qv : Option Addr}
set_option maxHeartbeats 3200000 in
theorem stepJ_replay (hE : Errs ad w0) (hT : Tab w0) (h : Pl w0 w I pb b c f d jv qv) (hf2 : f ≤ 1000000000) (i n v size fill : Int) (ka : Option Addr) (kc : Nat) (ft : FT) (hn : n ≤ 9223372036854775807) :
    Calls Tryd.prog 12 #[.pointer (some ⟨pb, 0, none⟩), OpJ.val ⟨4, i, n, v, size, fill, .slice ka ft.kept.length kc, ft⟩] w (StepJ w0 pb b c f) := by
  obtain ⟨WA, hWA, PA0, BA0⟩ := plJ_start h ⟨4, i, n, v, size, fill, .slice ka ft.kept.length kc, ft⟩
  have HWA := Lib.hid hWA
  simp only at HWA
  have PA := Lib.hid PA0
  have BA := Lib.hid BA0
  have HE := Lib.hid hE
  have HT := Lib.hid hT
  have HF2 := Lib.hid hf2
  have OBI := Lib.hid (show (fun k => I k ∨ k = w.heap.size) w.heap.size from .inr rfl)
  obtain ⟨c0, c1, c2, c3, c4, c5, c6, c7, c8⟩ := BA0.cells
  obtain ⟨x0, x1, x2, x3⟩ := PA0.box.cells
  simp only at c0 c1 c2 c3 c4 c5 c6 c7 c8
  have KC := Lib.hid (fun (W : World) (o : OpBox W w.heap.size ⟨4, i, n, v, size, fill, .slice ka ft.kept.length kc, ft⟩) => o.cells)
  simp only at KC
  have KP := Lib.hid (fun (W : World) (o : PrBox W pb b c jv qv) => o.cells)
  have OBW := Lib.hid (fun (W : World) (k : Qt WA W) => (show OpBox W w.heap.size ⟨4, i, n, v, size, fill, .slice ka ft.kept.length kc, ft⟩ from (k.block w.heap.size (lt_of_block BA0) (fun e => e)).trans BA0))
  clear h hWA PA0 BA0 hE hT hf2
  generalize hI : (fun k => I k ∨ k = w.heap.size) = I' at *
  clear hI
  have hwa := HWA.out
  clear HWA
  subst hwa
  unfold OpJ.val OpJ.list
  have HN := Lib.hid hn
  clear hn
  have PAs := PA.out
  have FIN := Lib.hid (fun W (q : Qt (w.alloc (.cells #[.int .i64 4, .int .i64 i, .int .i64 n, .int .i64 v, .int .i64 size, .int .i64 fill, .slice ka ft.kept.length kc, .int .i64 ft.torn, .int .i64 ft.bytes] 42)) W) => (show StepJ w0 pb b c f (.returned (.bool true)) W from (PAs.qt q).step))
  have PPQ := Lib.hid (fun W (q : Qt (w.alloc (.cells #[.int .i64 4, .int .i64 i, .int .i64 n, .int .i64 v, .int .i64 size, .int .i64 fill, .slice ka ft.kept.length kc, .int .i64 ft.torn, .int .i64 ft.bytes] 42)) W) => (PAs.pair.qt q).pair PAs.mine)
  have FW := Lib.hid (show d.Few from PAs.few.few (Nat.le_trans HF2.out (by decide)))
  have LE := Lib.hid (show d.dur.length ≤ 65536 from PAs.pair.ref.2.2.le)
  have PBQ := Lib.hid (fun W (q : Qt (w.alloc (.cells #[.int .i64 4, .int .i64 i, .int .i64 n, .int .i64 v, .int .i64 size, .int .i64 fill, .slice ka ft.kept.length kc, .int .i64 ft.torn, .int .i64 ft.bytes] 42)) W) => (show PrBox W pb b c jv qv from (PAs.qt q).box).cells)
  have OBQ := Lib.hid (fun W (q : Qt (w.alloc (.cells #[.int .i64 4, .int .i64 i, .int .i64 n, .int .i64 v, .int .i64 size, .int .i64 fill, .slice ka ft.kept.length kc, .int .i64 ft.torn, .int .i64 ft.bytes] 42)) W) => KC.out _ (OBW.out W q))
  have QD := Lib.hid (Keeps.drew (Qt.refl (w.alloc (.cells #[.int .i64 4, .int .i64 i, .int .i64 n, .int .i64 v, .int .i64 size, .int .i64 fill, .slice ka ft.kept.length kc, .int .i64 ft.torn, .int .i64 ft.bytes] 42))))
  clear PAs PA KP KC OBW BA
  go_enter Tryd.func12, Tryd.ntmps12
  go_wp2_with fail
  clear c0 c1 c2 c3 c4 c5 c6 c7 c8 x0 x1 x2 x3
  go_region_held3 (fun W => W.cell? ⟨pb, 0, none⟩ = some (.pointer (some ⟨b, 0, none⟩)) ∧ W.cell? ⟨pb, 1, none⟩ = some (.pointer (some ⟨c, 0, none⟩)) ∧ W.cell? ⟨w.heap.size, 1, none⟩ = some (.int .i64 i) ∧ W.cell? ⟨w.heap.size, 2, none⟩ = some (.int .i64 n) ∧ W.cell? ⟨w.heap.size, 3, none⟩ = some (.int .i64 v))
    (first | exact ⟨(PBQ.out _ (Hid.out (by assumption))).1, (PBQ.out _ (Hid.out (by assumption))).2.1, (OBQ.out _ (Hid.out (by assumption))).2.1, (OBQ.out _ (Hid.out (by assumption))).2.2.1, (OBQ.out _ (Hid.out (by assumption))).2.2.2.1⟩)
    (first
      | (go_at_call 17; refine (pairK_replayed HE.out HT.out (PPQ.out _ QD.out) FW.out i n v HN.out).mono ?_; rintro e w1 ⟨rfl, q1⟩; have Q1 := Lib.hid (Qt.trans QD.out q1); clear q1))
  go_wp2
  go_ret
  exact FIN.out _ Q1.out
set_option maxHeartbeats 3200000 in
theorem stepJ_of (hE : Errs ad w0) (hT : Tab w0) (h : Pl w0 w I pb b c f d jv qv) (hf2 : f ≤ 1000000000) (i n v size fill : Int) (ka : Option Addr) (kc : Nat) (ft : FT) :
    Calls Tryd.prog 12 #[.pointer (some ⟨pb, 0, none⟩), OpJ.val ⟨9, i, n, v, size, fill, .slice ka ft.kept.length kc, ft⟩] w (StepJ w0 pb b c f) := by
  obtain ⟨WA, hWA, PA0, BA0⟩ := plJ_start h ⟨9, i, n, v, size, fill, .slice ka ft.kept.length kc, ft⟩
  have HWA := Lib.hid hWA
  simp only at HWA
  have PA := Lib.hid PA0
  have BA := Lib.hid BA0
  have HE := Lib.hid hE
  have HT := Lib.hid hT
  have HF2 := Lib.hid hf2
  have OBI := Lib.hid (show (fun k => I k ∨ k = w.heap.size) w.heap.size from .inr rfl)
  obtain ⟨c0, c1, c2, c3, c4, c5, c6, c7, c8⟩ := BA0.cells
  obtain ⟨x0, x1, x2, x3⟩ := PA0.box.cells
  simp only at c0 c1 c2 c3 c4 c5 c6 c7 c8
  have KC := Lib.hid (fun (W : World) (o : OpBox W w.heap.size ⟨9, i, n, v, size, fill, .slice ka ft.kept.length kc, ft⟩) => o.cells)
  simp only at KC
  have KP := Lib.hid (fun (W : World) (o : PrBox W pb b c jv qv) => o.cells)
  have OBW := Lib.hid (fun (W : World) (k : Qt WA W) => (show OpBox W w.heap.size ⟨9, i, n, v, size, fill, .slice ka ft.kept.length kc, ft⟩ from (k.block w.heap.size (lt_of_block BA0) (fun e => e)).trans BA0))
  clear h hWA PA0 BA0 hE hT hf2
  generalize hI : (fun k => I k ∨ k = w.heap.size) = I' at *
  clear hI
  have hwa := HWA.out
  clear HWA
  subst hwa
  unfold OpJ.val OpJ.list
  rcases PA.out.jrns with ⟨hj, hq⟩ | ⟨qj, qr, j, hj, hq, i1, i2, i3, i4, i5, jC, jR, jF⟩
  · subst hj
    have FIN := Lib.hid PA.out.step
    go_enter Tryd.func12, Tryd.ntmps12
    go_wp2
    go_ret
    exact FIN.out
  · subst hj
    subst hq
    have JN := Lib.hid (show j.n ≤ 65536 from Nat.le_trans (Nat.le_trans (Nat.le_add_left _ _) jF.fit) PA.out.pair.ref.2.2.le)
    have JU := Lib.hid jF.used
    have CJQ := Lib.hid (fun W (q : Qt (w.alloc (.cells #[.int .i64 9, .int .i64 i, .int .i64 n, .int .i64 v, .int .i64 size, .int .i64 fill, .slice ka ft.kept.length kc, .int .i64 ft.torn, .int .i64 ft.bytes] 42)) W) => jC.kept q (fun e => e))
    have RJQ := Lib.hid (fun W (q : Qt (w.alloc (.cells #[.int .i64 9, .int .i64 i, .int .i64 n, .int .i64 v, .int .i64 size, .int .i64 fill, .slice ka ft.kept.length kc, .int .i64 ft.torn, .int .i64 ft.bytes] 42)) W) => jR.kept q (fun e => e))
    clear jC jR i1 i2 i3 i4 i5 jF
    have PAs := PA.out
    have FIN := Lib.hid (fun W (q : Qt (w.alloc (.cells #[.int .i64 9, .int .i64 i, .int .i64 n, .int .i64 v, .int .i64 size, .int .i64 fill, .slice ka ft.kept.length kc, .int .i64 ft.torn, .int .i64 ft.bytes] 42)) W) => (show StepJ w0 pb b c f (.returned (.bool true)) W from (PAs.qt q).step))
    have PPQ := Lib.hid (fun W (q : Qt (w.alloc (.cells #[.int .i64 9, .int .i64 i, .int .i64 n, .int .i64 v, .int .i64 size, .int .i64 fill, .slice ka ft.kept.length kc, .int .i64 ft.torn, .int .i64 ft.bytes] 42)) W) => (PAs.pair.qt q).pair PAs.mine)
    have FW := Lib.hid (show d.Few from PAs.few.few (Nat.le_trans HF2.out (by decide)))
    have LE := Lib.hid (show d.dur.length ≤ 65536 from PAs.pair.ref.2.2.le)
    have PBQ := Lib.hid (fun W (q : Qt (w.alloc (.cells #[.int .i64 9, .int .i64 i, .int .i64 n, .int .i64 v, .int .i64 size, .int .i64 fill, .slice ka ft.kept.length kc, .int .i64 ft.torn, .int .i64 ft.bytes] 42)) W) => (show PrBox W pb b c (some ⟨qj, 0, none⟩) (some ⟨qr, 0, none⟩) from (PAs.qt q).box).cells)
    have OBQ := Lib.hid (fun W (q : Qt (w.alloc (.cells #[.int .i64 9, .int .i64 i, .int .i64 n, .int .i64 v, .int .i64 size, .int .i64 fill, .slice ka ft.kept.length kc, .int .i64 ft.torn, .int .i64 ft.bytes] 42)) W) => KC.out _ (OBW.out W q))
    have QD := Lib.hid (Keeps.drew (Qt.refl (w.alloc (.cells #[.int .i64 9, .int .i64 i, .int .i64 n, .int .i64 v, .int .i64 size, .int .i64 fill, .slice ka ft.kept.length kc, .int .i64 ft.torn, .int .i64 ft.bytes] 42))))
    clear PAs PA KP KC OBW BA
    have RQ := Lib.hid (fun W (q : Qt (w.alloc (.cells #[.int .i64 9, .int .i64 i, .int .i64 n, .int .i64 v, .int .i64 size, .int .i64 fill, .slice ka ft.kept.length kc, .int .i64 ft.torn, .int .i64 ft.bytes] 42)) W) => (show W.cell? ⟨qr, 1, none⟩ = some (.int .i64 (j.pos : Int)) ∧ W.cell? ⟨qr, 2, none⟩ = some (.int .i64 (j.n : Int)) ∧ W.cell? ⟨qr, 3, none⟩ = some (.int .i64 (j.ver : Int)) from ⟨(RJQ.out W q).cell 1 _ rfl, (RJQ.out W q).cell 2 _ rfl, (RJQ.out W q).cell 3 _ rfl⟩))
    go_enter Tryd.func12, Tryd.ntmps12
    go_wp2_with fail
    clear c0 c1 c2 c3 c4 c5 c6 c7 c8 x0 x1 x2 x3
    go_region_held3 (fun W => W.cell? ⟨pb, 0, none⟩ = some (.pointer (some ⟨b, 0, none⟩)) ∧ W.cell? ⟨pb, 1, none⟩ = some (.pointer (some ⟨c, 0, none⟩)) ∧ W.cell? ⟨pb, 3, none⟩ = some (.pointer (some ⟨qr, 0, none⟩)) ∧ W.cell? ⟨qr, 1, none⟩ = some (.int .i64 (j.pos : Int)) ∧ W.cell? ⟨qr, 2, none⟩ = some (.int .i64 (j.n : Int)) ∧ W.cell? ⟨qr, 3, none⟩ = some (.int .i64 (j.ver : Int)))
      (first | exact ⟨(PBQ.out _ (Hid.out (by assumption))).1, (PBQ.out _ (Hid.out (by assumption))).2.1, (PBQ.out _ (Hid.out (by assumption))).2.2.2, RQ.out _ (Hid.out (by assumption))⟩)
      (first
        | (go_at_call 17; refine (pairK_replayed HE.out HT.out (PPQ.out _ QD.out) FW.out (j.pos : Int) (j.n : Int) (j.ver : Int) (by have := JN.out; omega)).mono ?_; rintro e w1 ⟨rfl, q1⟩; have Q1 := Lib.hid (Qt.trans QD.out q1); clear q1))
    go_wp2
    go_ret
    exact FIN.out _ Q1.out
set_option maxHeartbeats 3200000 in
theorem stepJ_ask (hE : Errs ad w0) (hT : Tab w0) (h : Pl w0 w I pb b c f d jv qv) (hf2 : f ≤ 1000000000) (i n v size fill : Int) (ka : Option Addr) (kc : Nat) (ft : FT) (hz : size ≤ 9223372036854775807) :
    Calls Tryd.prog 12 #[.pointer (some ⟨pb, 0, none⟩), OpJ.val ⟨5, i, n, v, size, fill, .slice ka ft.kept.length kc, ft⟩] w (StepJ w0 pb b c f) := by
  obtain ⟨WA, hWA, PA0, BA0⟩ := plJ_start h ⟨5, i, n, v, size, fill, .slice ka ft.kept.length kc, ft⟩
  have HWA := Lib.hid hWA
  simp only at HWA
  have PA := Lib.hid PA0
  have BA := Lib.hid BA0
  have HE := Lib.hid hE
  have HT := Lib.hid hT
  have HF2 := Lib.hid hf2
  have OBI := Lib.hid (show (fun k => I k ∨ k = w.heap.size) w.heap.size from .inr rfl)
  obtain ⟨c0, c1, c2, c3, c4, c5, c6, c7, c8⟩ := BA0.cells
  obtain ⟨x0, x1, x2, x3⟩ := PA0.box.cells
  simp only at c0 c1 c2 c3 c4 c5 c6 c7 c8
  have KC := Lib.hid (fun (W : World) (o : OpBox W w.heap.size ⟨5, i, n, v, size, fill, .slice ka ft.kept.length kc, ft⟩) => o.cells)
  simp only at KC
  have KP := Lib.hid (fun (W : World) (o : PrBox W pb b c jv qv) => o.cells)
  have OBW := Lib.hid (fun (W : World) (k : Qt WA W) => (show OpBox W w.heap.size ⟨5, i, n, v, size, fill, .slice ka ft.kept.length kc, ft⟩ from (k.block w.heap.size (lt_of_block BA0) (fun e => e)).trans BA0))
  clear h hWA PA0 BA0 hE hT hf2
  generalize hI : (fun k => I k ∨ k = w.heap.size) = I' at *
  clear hI
  have hwa := HWA.out
  clear HWA
  subst hwa
  unfold OpJ.val OpJ.list
  have HZ := Lib.hid hz
  clear hz
  rcases PA.out.jrns with ⟨hj, hq⟩ | ⟨qj, qr, j, hj, hq, i1, i2, i3, i4, i5, jC, jR, jF⟩
  · subst hj
    have FIN := Lib.hid PA.out.step
    go_enter Tryd.func12, Tryd.ntmps12
    go_wp2
    go_ret
    exact FIN.out
  · subst hj
    subst hq
    have JN := Lib.hid (show j.n ≤ 65536 from Nat.le_trans (Nat.le_trans (Nat.le_add_left _ _) jF.fit) PA.out.pair.ref.2.2.le)
    have JU := Lib.hid jF.used
    have CJQ := Lib.hid (fun W (q : Qt (w.alloc (.cells #[.int .i64 5, .int .i64 i, .int .i64 n, .int .i64 v, .int .i64 size, .int .i64 fill, .slice ka ft.kept.length kc, .int .i64 ft.torn, .int .i64 ft.bytes] 42)) W) => jC.kept q (fun e => e))
    have RJQ := Lib.hid (fun W (q : Qt (w.alloc (.cells #[.int .i64 5, .int .i64 i, .int .i64 n, .int .i64 v, .int .i64 size, .int .i64 fill, .slice ka ft.kept.length kc, .int .i64 ft.torn, .int .i64 ft.bytes] 42)) W) => jR.kept q (fun e => e))
    clear jC jR i1 i2 i3 i4 i5 jF
    have PAs := PA.out
    have FIN := Lib.hid (fun W (q : Qt (w.alloc (.cells #[.int .i64 5, .int .i64 i, .int .i64 n, .int .i64 v, .int .i64 size, .int .i64 fill, .slice ka ft.kept.length kc, .int .i64 ft.torn, .int .i64 ft.bytes] 42)) W) => (show StepJ w0 pb b c f (.returned (.bool true)) W from (PAs.qt q).step))
    have PPQ := Lib.hid (fun W (q : Qt (w.alloc (.cells #[.int .i64 5, .int .i64 i, .int .i64 n, .int .i64 v, .int .i64 size, .int .i64 fill, .slice ka ft.kept.length kc, .int .i64 ft.torn, .int .i64 ft.bytes] 42)) W) => (PAs.pair.qt q).pair PAs.mine)
    have FW := Lib.hid (show d.Few from PAs.few.few (Nat.le_trans HF2.out (by decide)))
    have LE := Lib.hid (show d.dur.length ≤ 65536 from PAs.pair.ref.2.2.le)
    have PBQ := Lib.hid (fun W (q : Qt (w.alloc (.cells #[.int .i64 5, .int .i64 i, .int .i64 n, .int .i64 v, .int .i64 size, .int .i64 fill, .slice ka ft.kept.length kc, .int .i64 ft.torn, .int .i64 ft.bytes] 42)) W) => (show PrBox W pb b c (some ⟨qj, 0, none⟩) (some ⟨qr, 0, none⟩) from (PAs.qt q).box).cells)
    have OBQ := Lib.hid (fun W (q : Qt (w.alloc (.cells #[.int .i64 5, .int .i64 i, .int .i64 n, .int .i64 v, .int .i64 size, .int .i64 fill, .slice ka ft.kept.length kc, .int .i64 ft.torn, .int .i64 ft.bytes] 42)) W) => KC.out _ (OBW.out W q))
    have QD := Lib.hid (Keeps.drew (Qt.refl (w.alloc (.cells #[.int .i64 5, .int .i64 i, .int .i64 n, .int .i64 v, .int .i64 size, .int .i64 fill, .slice ka ft.kept.length kc, .int .i64 ft.torn, .int .i64 ft.bytes] 42))))
    clear PAs PA KP KC OBW BA
    have RQ := Lib.hid (fun W (q : Qt (w.alloc (.cells #[.int .i64 5, .int .i64 i, .int .i64 n, .int .i64 v, .int .i64 size, .int .i64 fill, .slice ka ft.kept.length kc, .int .i64 ft.torn, .int .i64 ft.bytes] 42)) W) => (show W.cell? ⟨qr, 4, none⟩ = some (.int .i64 (j.used : Int)) from (RJQ.out W q).cell 4 _ rfl))
    have JFT := fun W (q : Qt (w.alloc (.cells #[.int .i64 5, .int .i64 i, .int .i64 n, .int .i64 v, .int .i64 size, .int .i64 fill, .slice ka ft.kept.length kc, .int .i64 ft.torn, .int .i64 ft.bytes] 42)) W) => jfits_any (CJQ.out W q) JU.out JN.out size HZ.out
    have RFT := fun W (q : Qt (w.alloc (.cells #[.int .i64 5, .int .i64 i, .int .i64 n, .int .i64 v, .int .i64 size, .int .i64 fill, .slice ka ft.kept.length kc, .int .i64 ft.torn, .int .i64 ft.bytes] 42)) W) => rfits_any (RJQ.out W q) JU.out JN.out size HZ.out
    generalize j.fits size = fb at JFT RFT
    have JFT := Lib.hid JFT
    have RFT := Lib.hid RFT
    clear RJQ
    have EQ : ((j.used : Int) == (j.used : Int)) = true := beq_self_eq_true _
    clear c1 c2 c3 c5 c6 c7 c8 x0 x1
    cases fb
    all_goals
      go_enter Tryd.func12, Tryd.ntmps12
      go_wp2_with fail
      clear c0 c4 x2 x3
      go_region_held3 (fun W => W.cell? ⟨pb, 2, none⟩ = some (.pointer (some ⟨qj, 0, none⟩)) ∧ W.cell? ⟨pb, 3, none⟩ = some (.pointer (some ⟨qr, 0, none⟩)) ∧ W.cell? ⟨w.heap.size, 4, none⟩ = some (.int .i64 size) ∧ W.cell? ⟨qr, 4, none⟩ = some (.int .i64 (j.used : Int)))
        (first | exact ⟨(PBQ.out _ (Hid.out (by assumption))).2.2.1, (PBQ.out _ (Hid.out (by assumption))).2.2.2, (OBQ.out _ (Hid.out (by assumption))).2.2.2.2.1, RQ.out _ (Hid.out (by assumption))⟩)
        (first
          | (go_at_call 24; refine (JFT.out _ QD.out).mono ?_; rintro e w1 ⟨rfl, q1⟩; have Q1 := Lib.hid (Qt.trans QD.out q1); clear q1)
          | (go_at_call 44; refine (RFT.out _ Q1.out).mono ?_; rintro e w2 ⟨rfl, q2⟩; have Q2 := Lib.hid (Qt.trans Q1.out q2); clear q2)
          | (go_at_call 28; refine (jused_any (CJQ.out _ Q2.out)).mono ?_; rintro e w3 ⟨rfl, e3⟩; have Q3 := Lib.hid (show Qt _ w3 from e3 ▸ Q2.out); clear e3))
      go_wp2
      go_ret
      first | exact FIN.out _ Q3.out | exact FIN.out _ Q2.out
end
end Go.Proofs.YtggogaaooacooaaDoor
