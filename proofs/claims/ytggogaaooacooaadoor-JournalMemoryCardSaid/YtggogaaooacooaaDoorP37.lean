/-
  Life, told.
  The contracts of journal's Begin, down, Used, Fits and Sync.
  The contracts of journal.Each and journal.Begin.
-/
import Derived.Test.YtggogaaooacooaaDoorP18
import Derived.Test.YtggogaaooacooaaDoorP28
import Derived.Test.YtggogaaooacooaaDoorP21
import Derived.Test.YtggogaaooacooaaDoorP36
import Derived.Test.YtggogaaooacooaaDoorP11
import Derived.Deep.RegionHeld3
namespace Go.Proofs.YtggogaaooacooaaDoor
open Go.RowKit Go.WideShapes
set_option maxRecDepth 100000

section
variable {w : World} {b gd mb : Nat} {uv : Value} {d : DS} {S : Nat → Prop}
theorem life_p (h : DiskP w b gd mb uv d) : Calls Tryd.prog 51 #[.pointer (some ⟨b, 0, none⟩)] w fun e w' => e = .returned (.int .i64 d.cr) ∧ w = w' := by
  have c0 := h.cell 7 _ rfl
  clear h
  go_enter Tryd.func51, Tryd.ntmps51
  go_wp2
  go_ret
  exact ⟨rfl, rfl⟩

theorem life_any (h : DiskAt w b d S) : Calls Tryd.prog 51 #[.pointer (some ⟨b, 0, none⟩)] w fun e w' => e = .returned (.int .i64 d.cr) ∧ w = w' := by
  obtain ⟨gd, mb, uv, h, hS⟩ := h; exact life_p h
end
end Go.Proofs.YtggogaaooacooaaDoor
namespace Go.Proofs.YtggogaaooacooaaDoor
open Go.RowKit Go.WideShapes
set_option maxRecDepth 100000

/-- The journal in block q. -/
def cjCells (b : Nat) (j : J.JS) : Array Value := #[.pointer (some ⟨b, 0, none⟩), .int .i64 (j.pos : Int), .int .i64 (j.n : Int), .int .i64 (j.ver : Int), .int .i64 (j.used : Int), .int .i64 (j.life : Int)]
def CJ (w : World) (q b : Nat) (j : J.JS) : Prop := w.heap[q]? = some (.cells (cjCells b j) 110 (0, 0))
theorem CJ.cell {w : World} {q b : Nat} {j : J.JS} (h : CJ w q b j) (i : Nat) (v : Value) (hi : (cjCells b j)[i]? = some v) : w.cell? ⟨q, i, none⟩ = some v := by
  rw [cell_of_row _ _ _ _ _ _ h]; exact hi
theorem CJ.kept {w w' : World} {q b : Nat} {j : J.JS} {S : Nat → Prop} (h : CJ w q b j) (K : Keeps S w w') (hS : ¬ S q) : CJ w' q b j := (K.block q (lt_of_block h) hS).trans h
theorem CJ.qt {w w' : World} {q b : Nat} {j : J.JS} (h : CJ w q b j) (K : Qt w w') : CJ w' q b j := h.kept K (fun e => e)
theorem CJ.lt {w : World} {q b : Nat} {j : J.JS} (h : CJ w q b j) : q < w.heap.size := lt_of_block h
theorem CJ.dead {w : World} {q b : Nat} {j : J.JS} (h : CJ w q b j) (x : Bool) : CJ w q b { j with dead := x } := h
theorem CJ.used' {w : World} {q b : Nat} {j : J.JS} (h : CJ w q b j) (m : Nat) : CJ (w.setCell ⟨q, 4, none⟩ (.int .i64 (m : Int))) q b { j with used := m } := by
  unfold CJ at h ⊢
  simp only [World.setCell, Array.getElem?_modify, h, if_true, Option.map_some]
  rfl

section
variable {w : World} {b q : Nat} {d : DS} {j : J.JS} {S : Nat → Prop}
theorem life_same (h : DiskAt w b d S) : Calls Tryd.prog 51 #[.pointer (some ⟨b, 0, none⟩)] w fun e w' => e = .returned (.int .i64 d.cr) ∧ w' = w := (life_any h).mono fun _ _ ⟨h1, h2⟩ => ⟨h1, h2.symm⟩
theorem jdown_any (h : DiskAt w b d S) (hC : CJ w q b j) : Calls Tryd.prog 52 #[.pointer (some ⟨q, 0, none⟩)] w fun e w' => e = .returned (.bool (j.gone d)) ∧ Qt w w' := by
  have d0 : w.cell? ⟨q, 0, none⟩ = some (.pointer (some ⟨b, 0, none⟩)) := hC.cell 0 _ rfl
  have d5 : w.cell? ⟨q, 5, none⟩ = some (.int .i64 (j.life : Int)) := hC.cell 5 _ rfl
  have OF := Lib.hid (fun W (k : Qt w W) => off_same (DiskAt.qt h k))
  have LF := Lib.hid (fun W (k : Qt w W) => life_same (DiskAt.qt h k))
  clear h hC
  cases ho : d.off with
  | true =>
    have FIN := Lib.hid (show j.gone d = true by unfold J.JS.gone; rw [ho]; rfl)
    rw [ho] at OF
    clear ho LF d5
    go_enter Tryd.func52, Tryd.ntmps52
    go_wp2
    go_quiet ((go_at_call 56; with_reducible exact Calls.quiet_of_same (OF.out _ (Keeps.drewN (Qt.refl w) _))))
    go_wp2
    go_ret
    exact ⟨by rw [FIN.out]; rfl, Keeps.drewN (Qt.refl w) _⟩
  | false =>
    obtain ⟨B, hB⟩ : ∃ B, ((d.cr : Int) != (j.life : Int)) = B := ⟨_, rfl⟩
    have FIN := Lib.hid (show j.gone d = B by
      unfold J.JS.gone
      rw [ho, ← hB, Bool.false_or]
      by_cases hc : d.cr = j.life
      · rw [decide_eq_false (fun k => k hc), hc]; simp
      · rw [decide_eq_true hc]
        exact (bne_iff_ne.2 (by omega)).symm)
    rw [ho] at OF
    clear ho
    go_enter Tryd.func52, Tryd.ntmps52
    go_wp2
    go_quiet ((first | (go_at_call 56; with_reducible exact Calls.quiet_of_same (OF.out _ (Keeps.drewN (Qt.refl w) _))) | (go_at_call 51; with_reducible exact Calls.quiet_of_same (LF.out _ (Keeps.drewN (Qt.refl w) _)))))
    go_wp2
    go_ret
    exact ⟨by rw [FIN.out]; rfl, Keeps.drewN (Qt.refl w) _⟩
theorem jused_any (hC : CJ w q b j) : Calls Tryd.prog 28 #[.pointer (some ⟨q, 0, none⟩)] w fun e w' => e = .returned (.int .i64 (j.used : Int)) ∧ w' = w := by
  have d4 : w.cell? ⟨q, 4, none⟩ = some (.int .i64 (j.used : Int)) := hC.cell 4 _ rfl
  clear hC
  go_enter Tryd.func28, Tryd.ntmps28
  go_wp2
  go_ret
  exact ⟨rfl, rfl⟩
theorem jfits_any (hC : CJ w q b j) (hu : j.used ≤ j.n) (hn : j.n ≤ 65536) (z : Int) (hz : z ≤ 9223372036854775807) :
    Calls Tryd.prog 24 #[.pointer (some ⟨q, 0, none⟩), .int .i64 z] w fun e w' => e = .returned (.bool (j.fits z)) ∧ Qt w w' := by
  have d2 : w.cell? ⟨q, 2, none⟩ = some (.int .i64 (j.n : Int)) := hC.cell 2 _ rfl
  have d4 : w.cell? ⟨q, 4, none⟩ = some (.int .i64 (j.used : Int)) := hC.cell 4 _ rfl
  clear hC
  by_cases h0 : 0 ≤ z
  · obtain ⟨k, rfl⟩ := Int.eq_ofNat_of_zero_le h0
    have y0 : decide (0 ≤ (k : Int)) = true := decide_eq_true h0
    have CO := fun W => jcost_nat k (by omega) W
    have wz : wrap64 ((j.n : Int) - (j.used : Int)) = (j.n : Int) - (j.used : Int) := by unfold wrap64; omega
    have FIN := Lib.hid (show decide (((J.cost k : Nat) : Int) ≤ (j.n : Int) - (j.used : Int)) = j.fits (k : Int) from by
      unfold J.JS.fits
      rw [Int.toNat_natCast]
      by_cases hc : j.used + J.cost k ≤ j.n
      · rw [decide_eq_true (show ((J.cost k : Nat) : Int) ≤ (j.n : Int) - (j.used : Int) by omega), decide_eq_true ⟨h0, hc⟩]
      · rw [decide_eq_false (show ¬ ((J.cost k : Nat) : Int) ≤ (j.n : Int) - (j.used : Int) by omega), decide_eq_false (fun k => hc k.2)])
    obtain ⟨B, hB⟩ : ∃ B, decide (((J.cost k : Nat) : Int) ≤ (j.n : Int) - (j.used : Int)) = B := ⟨_, rfl⟩
    rw [hB] at FIN
    generalize J.cost k = C at *
    clear hz hu hn
    go_enter Tryd.func24, Tryd.ntmps24
    go_wp2
    go_quiet ((go_at_call 19; with_reducible exact Calls.quiet_of_same (CO _)))
    go_wp2
    go_ret
    exact ⟨by rw [← FIN.out]; rfl, Keeps.drewN (Qt.refl w) _⟩
  · have y0 : decide (0 ≤ z) = false := decide_eq_false h0
    have FIN := Lib.hid (show j.fits z = false from decide_eq_false (fun k => h0 k.1))
    clear hz
    go_enter Tryd.func24, Tryd.ntmps24
    go_wp2
    go_quiet (fail)
    go_wp2
    go_ret
    exact ⟨by rw [FIN.out]; rfl, Keeps.drewN (Qt.refl w) _⟩
end

/-- A journal apart from its disk: what may turn is S, and its own block. -/
theorem Room.step {ad : Nat → Addr} {S : Nat → Prop} {q : Nat} {w0 w : World} (R : Room ad (fun k => S k ∨ k = q) w0) (K : Keeps (fun k => S k ∨ k = q) w0 w) (hq : q < w.heap.size) : Room ad S w :=
  ⟨R.errs' K, R.tab' K, R.off.mono (fun _ e => .inl e), fun e => R.offTab (.inl e), fun k hk => (R.up k (Nat.le_trans K.size hk)).resolve_right (by omega)⟩
/-- What a call over a journal leaves. -/
def JP (ad : Nat → Addr) (S : Nat → Prop) (w : World) (b q : Nat) (r : Nat × J.JS × DS) (e : Ending) (w' : World) : Prop :=
  e = .returned (errV ad r.1) ∧ DiskAt w' b r.2.2 S ∧ CJ w' q b r.2.1 ∧ Keeps (fun k => S k ∨ k = q) w w'
section
variable {ad : Nat → Addr} {S : Nat → Prop} {w : World} {b q : Nat} {d : DS} {j : J.JS}
theorem Errs.down {ad : Nat → Addr} {w : World} (h : Errs ad w) : w.cell? ⟨2, 0, none⟩ = some (.iface 168 (.pointer (some (ad 12)))) := h.cells 11 _ rfl
theorem Errs.full {ad : Nat → Addr} {w : World} (h : Errs ad w) : w.cell? ⟨3, 0, none⟩ = some (.iface 168 (.pointer (some (ad 17)))) := h.cells 16 _ rfl
theorem jsync_any (R : Room ad S w) (h : DiskAt w b d S) (hf : d.Few) (hq : ¬ S q) (hC : CJ w q b j) (hF : J.Fine j d) :
    Calls Tryd.prog 42 #[.pointer (some ⟨q, 0, none⟩)] w (JP ad S w b q (j.sync d)) := by
  have DN := jdown_any h hC
  rw [← hF.down] at DN
  cases hd : j.down d with
  | true =>
    have FIN := Lib.hid (show j.sync d = (12, { j with dead := true }, d) from if_pos hd)
    rw [hd] at DN
    have HE := Lib.hid R.errs
    have HD := Lib.hid h
    have HC := Lib.hid hC
    clear R h hf hq hC hF hd
    go_enter Tryd.func42, Tryd.ntmps42
    go_wp2_with fail
    refine DN.mono ?_
    rintro e w1 ⟨rfl, q1⟩
    have e12 := (HE.out.kept q1 (OffErrs.none ad)).down
    have Q1 := Lib.hid q1
    clear q1 DN
    go_wp2
    go_ret
    rw [FIN.out]
    exact ⟨rfl, DiskAt.qt HD.out Q1.out, HC.out.qt Q1.out, Q1.out.mono (fun _ _ e => e.elim)⟩
  | false =>
    rw [hd] at DN
    have FIN := Lib.hid (show (j.sync d).1 = d.flushE ∧ (j.sync d).2.2 = d.flushD ∧ ∀ W, CJ W q b j → CJ W q b (j.sync d).2.1 from by
      unfold J.JS.sync
      rw [if_neg (by rw [hd]; simp)]
      split
      · exact ⟨rfl, rfl, fun W h => h⟩
      · rename_i he
        exact ⟨(Decidable.not_not.1 he).symm, rfl, fun W h => h⟩)
    have HR := Lib.hid R
    have HD := Lib.hid h
    have HF := Lib.hid hf
    have HQ := Lib.hid hq
    have HC := Lib.hid hC
    clear R h hf hq hC hF hd
    go_enter Tryd.func42, Tryd.ntmps42
    go_wp2_with fail
    refine DN.mono ?_
    rintro e w1 ⟨rfl, q1⟩
    have FL := room_flush HR.out (keeps_qt (Keeps.refl S w) q1) (DiskAt.qt HD.out q1) HF.out
    have C1 := Lib.hid (HC.out.qt q1)
    have HK := Lib.hid q1
    have d0 : w1.cell? ⟨q, 0, none⟩ = some (.pointer (some ⟨b, 0, none⟩)) := C1.out.cell 0 _ rfl
    clear q1 DN
    go_wp2_with fail
    refine FL.mono ?_
    rintro e w2 ⟨rfl, p2, k2⟩
    have FM := Lib.hid (show JP ad S w b q (j.sync d) (.returned (errV ad d.flushE)) w2 from ⟨by rw [FIN.out.1], by rw [FIN.out.2.1]; exact p2, FIN.out.2.2 _ (HC.out.kept k2 HQ.out), k2.mono (fun _ _ e => .inl e)⟩)
    clear p2 k2 FL
    go_wp2
    go_ret
    exact FM.out

/-- Begin. -/
def JBeginP (ad : Nat → Addr) (w : World) (b : Nat) (d : DS) (i n v : Int) (e : Ending) (w' : World) : Prop :=
  Qt w w' ∧ if J.refE d i n v = 0 then ∃ q, w.heap.size ≤ q ∧ e = .returned (.tuple #[.pointer (some ⟨q, 0, none⟩), .nilIface]) ∧ CJ w' q b ⟨i.toNat, n.toNat, v.toNat, 0, false, d.cr⟩ else e = .returned (.tuple #[.pointer none, errV ad (J.refE d i n v)])
end
end Go.Proofs.YtggogaaooacooaaDoor
namespace Go.Proofs.YtggogaaooacooaaDoor
open Go.RowKit Go.WideShapes
set_option maxRecDepth 100000

set_option maxHeartbeats 800000 in
theorem jeach_any (ad : Nat → Addr) {w : World} {b : Nat} {d : DS} {S : Nat → Prop} (hE : Errs ad w) (hT : Tab w) (h : DiskAt w b d S) (i n v : Int) (hn : n ≤ 9223372036854775807) :
    Calls Tryd.prog 31 #[.pointer (some ⟨b, 0, none⟩), .int .i64 i, .int .i64 n, .int .i64 v] w fun e w' => ∃ fv, e = .returned fv ∧ EachV w' fv (J.replay d i n v).1 ∧ Qt w w' := by
  have RP := jreplay_any ad hE hT h i n v hn
  have HL := Lib.hid (show (J.replay d i n v).1.length ≤ 70000 from Nat.le_trans (J.replay_len d i n v) (by decide))
  generalize J.replay d i n v = r at *
  clear hE hT h hn
  go_enter Tryd.func31, Tryd.ntmps31
  go_wp2_with fail
  refine RP.mono ?_
  rintro e w1 ⟨l, rfl, hN⟩
  obtain ⟨la, lc, rfl⟩ := hN.shape
  have HN := Lib.hid hN
  obtain ⟨ev, hev⟩ : ∃ ev, errV ad r.2 = ev := ⟨_, rfl⟩
  rw [hev]
  clear hN RP hev
  go_wp2
  go_ret
  have q2 := (Qt.refl w1).alloc (.cells #[.slice la r.1.length lc] 66)
  exact ⟨_, rfl, jeach_stops (HN.out.quiet q2) HL.out (by rw [cell_of_row _ _ _ _ _ _ (heap_alloc_new w1 (.cells #[.slice la r.1.length lc] 66))]; rfl), Qt.trans HN.out.qt q2⟩

set_option maxHeartbeats 800000 in
theorem jbegin_any (ad : Nat → Addr) {w : World} {b : Nat} {d : DS} {S : Nat → Prop} (hE : Errs ad w) (h : DiskAt w b d S) (i n v : Int) (hn : n ≤ 9223372036854775807) :
    Calls Tryd.prog 23 #[.pointer (some ⟨b, 0, none⟩), .int .i64 i, .int .i64 n, .int .i64 v] w (JBeginP ad w b d i n v) := by
  obtain ⟨WA, hWA, QA, hb⟩ := place_new w b i n v
  have R1 := jrefuse_any ad (hE.kept QA (OffErrs.none ad)) (DiskAt.qt h QA) i n v hn
  have HWA := Lib.hid hWA
  have HQA := Lib.hid QA
  have HB := Lib.hid hb
  obtain ⟨d0, d1, d2, d3⟩ := place_cells hb
  have LF := Lib.hid (fun W (k : Qt WA W) => life_same (DiskAt.qt h (Qt.trans QA k)))
  unfold placeV at R1
  by_cases hr : J.refE d i n v = 0
  · have hm : J.may d i n v := by
      unfold J.refE at hr
      split at hr
      · omega
      · rename_i h1
        exact Decidable.not_not.1 h1
    obtain ⟨i, n, v, rfl, rfl, rfl, _, _, _, _⟩ := may_yes hm
    have FIN := Lib.hid (fun (e : Ending) (w' : World) (q : Nat) (hq : w.heap.size ≤ q) (he : e = .returned (.tuple #[.pointer (some ⟨q, 0, none⟩), .nilIface])) (k : Qt w w') (hc : CJ w' q b ⟨(i : Int).toNat, (n : Int).toNat, (v : Int).toNat, 0, false, d.cr⟩) => (show JBeginP ad w b d i n v e w' from ⟨k, by rw [if_pos hr]; exact ⟨q, hq, he, hc⟩⟩))
    rw [hr, errV_zero] at R1
    clear hE h hr hm hWA QA hb hn
    go_enter Tryd.func23, Tryd.ntmps23
    go_wp2_with fail
    rw [HWA.out]
    refine R1.mono ?_
    rintro e w1 ⟨rfl, q1⟩
    have Q1 := Lib.hid q1
    clear d0 d1 d2 d3 R1
    obtain ⟨d0, d1, d2, d3⟩ := place_cells (place_qt HB.out q1)
    clear q1
    have QD := Lib.hid (Keeps.drew Q1.out)
    have KC := Lib.hid (fun (W : World) (q : Qt WA W) => place_cells (place_qt HB.out q))
    go_wp2_with fail
    go_region_held3 (fun W' => W'.cell? ⟨w.heap.size, 0, none⟩ = some (.pointer (some ⟨b, 0, none⟩)) ∧ W'.cell? ⟨w.heap.size, 1, none⟩ = some (.int .i64 (i : Int)) ∧ W'.cell? ⟨w.heap.size, 2, none⟩ = some (.int .i64 (n : Int)) ∧ W'.cell? ⟨w.heap.size, 3, none⟩ = some (.int .i64 (v : Int)))
      (first | exact KC.out _ QD.out | exact KC.out _ (Keeps.drew (Keeps.alloc Q1.out _)) | exact KC.out _ (Keeps.alloc QD.out _))
      (first
        | (go_at_call 51; refine (LF.out _ QD.out).mono ?_; rintro e w2 ⟨rfl, rfl⟩))
    go_wp2
    go_ret2
    exact FIN.out _ _ w1.heap.size (Nat.le_trans HQA.out.size Q1.out.size) rfl (Keeps.drew (Keeps.alloc (Qt.trans HQA.out Q1.out) _)) (heap_alloc_new w1 _)
  · have FIN := Lib.hid (fun (e : Ending) (w' : World) (he : e = .returned (.tuple #[.pointer none, .iface 168 (.pointer (some (ad (J.refE d i n v))))])) (k : Qt w w') => (show JBeginP ad w b d i n v e w' from ⟨k, by rw [if_neg hr, errV_pos ad (Nat.pos_of_ne_zero hr)]; exact he⟩))
    rw [errV_pos ad (Nat.pos_of_ne_zero hr)] at R1
    clear hE h hr hWA QA hb hn
    generalize J.refE d i n v = x at *
    go_enter Tryd.func23, Tryd.ntmps23
    go_wp2_with fail
    rw [HWA.out]
    refine R1.mono ?_
    rintro e w1 ⟨rfl, q1⟩
    have Q1 := Lib.hid (Qt.trans HQA.out q1)
    clear d0 d1 d2 d3 R1 q1
    go_wp2
    go_ret2
    exact FIN.out _ _ rfl Q1.out
end Go.Proofs.YtggogaaooacooaaDoor
