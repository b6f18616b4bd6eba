/-
  The contract of remitnum.Num.
  Num, beside a disk of the law's own.
  The contracts of journal's Cost, Largest, bounds and refuse.
-/
import Derived.Test.YtggogaaooacooaaDoorP09
import Derived.Test.YtggogaaooacooaaDoorP12
import Derived.LaidEql
import Derived.LoopTactic
import Derived.Test.YtggogaaooacooaaDoorP21
import Derived.Test.YtggogaaooacooaaDoorP26
import Derived.Test.YtggogaaooacooaaDoorP27
import Derived.Test.YtggogaaooacooaaDoorP07
import Derived.Test.YtggogaaooacooaaDoorP18
import Derived.BigQuiet
namespace Go.Proofs.YtggogaaooacooaaDoor
open Go.RowKit
set_option maxRecDepth 100000

theorem errArr_get (ad : Nat → Addr) {k : Nat} (hk : k < 37) : (errArr ad)[k]? = some (.iface 168 (.pointer (some (ad (k + 1))))) := by
  simp [errArr, hk]

theorem run_index_errs (ad : Nat → Addr) {k : Nat} (hk : k < 37) (w : World) : (Instr.index 85 (.agg (errArr ad)) (.int .i64 k)).run Tryd.prog w = .ok (.iface 168 (.pointer (some (ad (k + 1))))) w := by
  have h1 : Tryd.prog.underlying 85 = some (.array 37 26) := Tryd.underlying85
  have hg := errArr_get ad hk
  simp [Instr.index, run_underlying h1, asIntOf, hk, part, hg]

theorem num_nil (w : World) : Calls Tryd.prog 11 #[.nilIface] w fun e w' => e = .returned (.int .i64 0) ∧ w = w' := by
  go_enter Tryd.func11, Tryd.ntmps11
  go_wp2
  go_ret
  exact ⟨rfl, rfl⟩

set_option maxHeartbeats 400000 in
theorem num_pos (ad : Nat → Addr) (n : Nat) (w : World) (hE : Errs ad w) (h1 : n < 37) :
    Calls Tryd.prog 11 #[.iface 168 (.pointer (some (ad (n + 1))))] w fun e w' => e = .returned (.int .i64 ((n + 1 : Nat) : Int)) ∧ Keeps (fun _ => False) w w' := by
  obtain ⟨i, hi, hcmp⟩ := Option.map_eq_some_iff.1 compErr
  obtain ⟨j, hj, hjs⟩ := Option.map_eq_some_iff.1 sizeErr
  go_enter Tryd.func11, Tryd.ntmps11
  go_wp2_with fail
  refine (list_any ad w hE).mono ?_
  rintro e w1 ⟨rfl, hk⟩
  have hE1 := Lib.hid (hE.kept hk (OffErrs.none ad))
  have hk' := Lib.hid hk; clear hk hE
  have hidx := Lib.hid (fun (k : Nat) (hk : k < 37) => run_index_errs ad hk w1)
  generalize errArr ad = L at *
  go_wp2
  go_loop [3, 4, 8] (fun _ _ x => ∃ k : Nat, k ≤ n ∧ x = .int .i64 k) (fun _ _ x => 37 - (intOf x).toNat)
  case atStart => exact ⟨0, Nat.zero_le _, rfl⟩
  case round =>
    obtain ⟨k, hk, rfl⟩ := hrel
    have hk37 : k < 37 := by omega
    have hix := hidx.out k hk37
    obtain ⟨ca, ta, hca⟩ := hE1.out.blk n h1
    obtain ⟨cb, tb, hcb⟩ := hE1.out.blk k hk37
    by_cases he : k = n
    · subst he
      have heq := run_eql_iface_ptr_same (P := Tryd.prog) w1 (ad (k + 1)) Tryd.underlying26 Tryd.underlying168 hi hcmp hj
      go_wp2
      go_ret
      exact ⟨by simp, hk'.out⟩
    · have hne : ad (n + 1) ≠ ad (k + 1) := fun e => he (hE1.out.apart n k h1 hk37 e).symm
      have heq := run_eql_iface_ptr_other (P := Tryd.prog) w1 Tryd.underlying26 Tryd.underlying168 hi hcmp hj (by rw [hjs]; decide) hne hca hcb
      have hkn : k < n := by omega
      clear hne he hca hcb
      go_wp2
      go_round
      case rel => exact ⟨k + 1, by omega, by go_num⟩
      case measure => simp [intOf]; omega

theorem num_any (ad : Nat → Addr) (n : Nat) (w : World) (hE : Errs ad w) (h : n ≤ 37) :
    Calls Tryd.prog 11 #[errV ad n] w fun e w' => e = .returned (.int .i64 n) ∧ Keeps (fun _ => False) w w' := by
  cases n with
  | zero => exact (num_nil w).mono fun _ _ ⟨he, hw⟩ => ⟨he, hw ▸ Keeps.refl _ _⟩
  | succ n =>
    rw [errV_pos ad (by omega)]
    exact num_pos ad n w hE (by omega)
end Go.Proofs.YtggogaaooacooaaDoor
namespace Go.Proofs.YtggogaaooacooaaDoor
open Go.RowKit Go.WideShapes
set_option maxRecDepth 100000

section
variable {ad : Nat → Addr} {w0 w : World} {b : Nat} {d : DS}
theorem own_num (hE : Errs ad w0) (hS : Since w0.heap.size w0 w) (h : Own w0.heap.size w b d) (n : Nat) (hn : n ≤ 37) :
    Calls Tryd.prog 11 #[errV ad n] w fun e w' => e = .returned (.int .i64 n) ∧ Own w0.heap.size w' b d ∧ Since w0.heap.size w0 w' ∧ Qt w w' := by
  refine (num_any ad n w (errs_since hE hS) hn).mono ?_
  rintro e w' ⟨he, hQ⟩
  exact ⟨he, h.qt hQ, hS.step hQ (fun _ h => h.elim), hQ⟩
end
end Go.Proofs.YtggogaaooacooaaDoor
namespace Go.Proofs.YtggogaaooacooaaDoor
open Go.RowKit Go.WideShapes
set_option maxRecDepth 100000

theorem jcost_any (z : Int) (hz : z ≤ 9223372036854775807) (w : World) : Calls Tryd.prog 19 #[.int .i64 z] w fun e w' => e = .returned (.int .i64 (costZ z)) ∧ w' = w := by
  by_cases h0 : z < 0
  · have FIN := Lib.hid (show costZ z = 0 from if_pos h0)
    go_enter Tryd.func19, Tryd.ntmps19
    go_wp2
    go_ret
    exact ⟨by rw [FIN.out]; rfl, rfl⟩
  · have z0 : decide (z < 0) = false := decide_eq_false h0
    by_cases h1 : z ≤ 229
    · have FIN := Lib.hid (costZ_one (z := z) (by omega) h1)
      go_enter Tryd.func19, Tryd.ntmps19
      go_wp2
      go_ret
      exact ⟨by rw [FIN.out]; rfl, rfl⟩
    · have FIN := Lib.hid (show costZ z = 2 + (z - 229 - 1) / 233 by rw [costZ_more h1, show z - 229 - 1 = z - 230 by omega])
      have z1 : decide (z ≤ 229) = false := decide_eq_false h1
      have w0 : wrap64 (z - 229) = z - 229 := by unfold wrap64; omega
      have w1 : wrap64 (z - 229 - 1) = z - 229 - 1 := by unfold wrap64; omega
      have w2 : (z - 229 - 1).tdiv 233 = (z - 229 - 1) / 233 := Int.tdiv_eq_ediv_of_nonneg (by omega)
      have w3 : wrap64 (2 + (z - 229 - 1) / 233) = 2 + (z - 229 - 1) / 233 := by unfold wrap64; omega
      go_enter Tryd.func19, Tryd.ntmps19
      go_wp2
      go_ret
      exact ⟨by rw [FIN.out]; rfl, rfl⟩
theorem jcost_nat (z : Nat) (hz : z ≤ 9223372036854775807) (w : World) : Calls Tryd.prog 19 #[.int .i64 z] w fun e w' => e = .returned (.int .i64 ((J.cost z : Nat) : Int)) ∧ w' = w := by
  have h := jcost_any (z : Int) (by omega) w
  rw [costZ_nat] at h
  exact h
theorem jlargest_any (n : Int) (hn : n ≤ 9223372036854775807) (w : World) : Calls Tryd.prog 21 #[.int .i64 n] w fun e w' => e = .returned (.int .i64 (largestZ n)) ∧ w' = w := by
  by_cases h0 : n < 1
  · have FIN := Lib.hid (show largestZ n = -1 from if_pos h0)
    go_enter Tryd.func21, Tryd.ntmps21
    go_wp2
    go_ret
    exact ⟨by rw [FIN.out]; rfl, rfl⟩
  · have z0 : decide (n < 1) = false := decide_eq_false h0
    have w1 : wrap64 (n - 1) = n - 1 := by unfold wrap64; omega
    have w2 := wrap_wrap 229 (233 * (n - 1))
    have FIN := Lib.hid (show largestZ n = wrap64 (229 + 233 * (n - 1)) from if_neg h0)
    go_enter Tryd.func21, Tryd.ntmps21
    go_wp2
    go_ret
    exact ⟨by rw [FIN.out]; rfl, rfl⟩
theorem largest_ends (k : Nat) (hk : k ≤ 65536) : max (largestZ (k : Int)) 0 = ((J.ends k : Nat) : Int) ∧ largestZ ((k : Int) + 1) = ((J.ends (k + 1) : Nat) : Int) := by
  refine ⟨?_, ?_⟩
  · cases k with
    | zero => rfl
    | succ k =>
      have e : largestZ ((k + 1 : Nat) : Int) = 229 + 233 * (k : Int) := by
        unfold largestZ
        rw [if_neg (by omega), show 229 + 233 * (((k + 1 : Nat) : Int) - 1) = 229 + 233 * (k : Int) by omega]
        unfold wrap64
        omega
      rw [e]
      show _ = ((229 + 233 * k : Nat) : Int)
      omega
  · have e : largestZ ((k : Int) + 1) = 229 + 233 * (k : Int) := by
      unfold largestZ
      rw [if_neg (by omega), show 229 + 233 * ((k : Int) + 1 - 1) = 229 + 233 * (k : Int) by omega]
      unfold wrap64
      omega
    rw [e]
    show _ = ((229 + 233 * k : Nat) : Int)
    omega
theorem jbounds_any (z k : Nat) (hk : k ≤ 65536) (w : World) : Calls Tryd.prog 53 #[.int .i64 z, .int .i64 k] w fun e w' => e = .returned (.tuple #[.int .i64 ((J.ends k : Nat) : Int), .int .i64 ((J.upto z k : Nat) : Int)]) ∧ w' = w := by
  have L1 := jlargest_any (k : Int) (by omega)
  have L2 := jlargest_any ((k : Int) + 1) (by omega)
  obtain ⟨e1, e2⟩ := largest_ends k hk
  rw [e2] at L2
  have e3 : min ((J.ends (k + 1) : Nat) : Int) (z : Int) = ((J.upto z k : Nat) : Int) := by unfold J.upto; omega
  have wk : wrap64 ((k : Int) + 1) = (k : Int) + 1 := by unfold wrap64; omega
  have F1 := Lib.hid e1
  have F3 := Lib.hid e3
  generalize largestZ (k : Int) = x at *
  generalize J.ends (k + 1) = y at *
  clear e1 e2 e3 hk
  go_enter Tryd.func53, Tryd.ntmps53
  go_wp2_with fail
  refine (L1 _).mono ?_
  rintro e w1 ⟨rfl, rfl⟩
  go_wp2_with fail
  refine (L2 _).mono ?_
  rintro e w2 ⟨rfl, rfl⟩
  go_wp2
  go_ret2
  refine ⟨?_, rfl⟩
  rw [← F1.out, ← F3.out]
  rfl

section
variable {w : World} {b : Nat} {d : DS} {S : Nat → Prop}
theorem size_same (h : DiskAt w b d S) : Calls Tryd.prog 74 #[.pointer (some ⟨b, 0, none⟩)] w fun e w' => e = .returned (.int .i64 d.dur.length) ∧ w' = w := (size_any h).mono fun _ _ ⟨h1, h2⟩ => ⟨h1, h2.symm⟩
theorem off_same (h : DiskAt w b d S) : Calls Tryd.prog 56 #[.pointer (some ⟨b, 0, none⟩)] w fun e w' => e = .returned (.bool d.off) ∧ w' = w := (off_any h).mono fun _ _ ⟨h1, h2⟩ => ⟨h1, h2.symm⟩
end
/-- The place of a log, as a value. -/
def placeV (b : Nat) (i n v : Int) : Value := .agg #[.pointer (some ⟨b, 0, none⟩), .int .i64 i, .int .i64 n, .int .i64 v]
def placeCells (b : Nat) (i n v : Int) : Array Value := #[.pointer (some ⟨b, 0, none⟩), .int .i64 i, .int .i64 n, .int .i64 v]
theorem place_new (w : World) (b : Nat) (i n v : Int) : ∃ W, w.alloc (.cells #[.pointer (some ⟨b, 0, none⟩), .int .i64 i, .int .i64 n, .int .i64 v] 108) = W ∧ Qt w W ∧ W.heap[w.heap.size]? = some (.cells (placeCells b i n v) 108 (0, 0)) := ⟨_, rfl, (Qt.refl w).alloc _, heap_alloc_new w _⟩
theorem place_cells {W : World} {g b : Nat} {i n v : Int} (h : W.heap[g]? = some (.cells (placeCells b i n v) 108 (0, 0))) : W.cell? ⟨g, 0, none⟩ = some (.pointer (some ⟨b, 0, none⟩)) ∧ W.cell? ⟨g, 1, none⟩ = some (.int .i64 i) ∧ W.cell? ⟨g, 2, none⟩ = some (.int .i64 n) ∧ W.cell? ⟨g, 3, none⟩ = some (.int .i64 v) := by
  have hc : ∀ (k : Nat) (x : Value), (placeCells b i n v)[k]? = some x → W.cell? ⟨g, k, none⟩ = some x := fun k x hx => by rw [cell_of_row _ _ _ _ _ _ h]; exact hx
  exact ⟨hc 0 _ rfl, hc 1 _ rfl, hc 2 _ rfl, hc 3 _ rfl⟩
theorem place_kept {W W' : World} {g b : Nat} {i n v : Int} {S : Nat → Prop} (h : W.heap[g]? = some (.cells (placeCells b i n v) 108 (0, 0))) (K : Keeps S W W') (hS : ¬ S g) : W'.heap[g]? = some (.cells (placeCells b i n v) 108 (0, 0)) := (K.block g (lt_of_block h) hS).trans h
theorem place_qt {W W' : World} {g b : Nat} {i n v : Int} (h : W.heap[g]? = some (.cells (placeCells b i n v) 108 (0, 0))) (K : Qt W W') : W'.heap[g]? = some (.cells (placeCells b i n v) 108 (0, 0)) := place_kept h K (fun e => e)

set_option maxHeartbeats 800000 in
theorem jrefuse_any (ad : Nat → Addr) {w : World} {b : Nat} {d : DS} {S : Nat → Prop} (hE : Errs ad w) (h : DiskAt w b d S) (i n v : Int) (hn : n ≤ 9223372036854775807) :
    Calls Tryd.prog 50 #[placeV b i n v] w fun e w' => e = .returned (errV ad (J.refE d i n v)) ∧ Qt w w' := by
  obtain ⟨WA, hWA, QA, hb⟩ := place_new w b i n v
  have HWA := Lib.hid hWA
  have HQA := Lib.hid QA
  have SZ := Lib.hid (fun W (q : Qt WA W) => size_same (DiskAt.qt h (Qt.trans QA q)))
  have OF := Lib.hid (fun W (q : Qt WA W) => off_same (DiskAt.qt h (Qt.trans QA q)))
  have hl : d.dur.length ≤ 65536 := by obtain ⟨gd, mb, uv, P, _⟩ := h; exact P.ok.le
  have HB := Lib.hid (fun W (q : Qt WA W) => place_cells (place_qt hb q))
  have HE6 := Lib.hid (fun W (q : Qt WA W) => (show W.cell? ⟨0, 0, none⟩ = some (.iface 168 (.pointer (some (ad 6)))) from (hE.kept (Qt.trans QA q) (OffErrs.none ad)).cells 5 _ rfl))
  have HE12 := Lib.hid (fun W (q : Qt WA W) => (show W.cell? ⟨2, 0, none⟩ = some (.iface 168 (.pointer (some (ad 12)))) from (hE.kept (Qt.trans QA q) (OffErrs.none ad)).cells 11 _ rfl))
  obtain ⟨d0, d1, d2, d3⟩ := place_cells hb
  clear h hE hWA QA hb
  unfold placeV
  by_cases c0 : i < 0
  · have FIN := Lib.hid (show J.refE d i n v = 6 from if_pos (fun k => by have q := k.1; omega))
    have y0 : decide (i < 0) = true := decide_eq_true c0
    clear hl hn
    have SZ1 := SZ.out WA (Qt.refl WA)
    generalize d.dur.length = L at *
    go_enter Tryd.func50, Tryd.ntmps50
    go_wp2
    rw [HWA.out]
    go_quiet ((go_at_call 74; with_reducible exact Calls.quiet_of_same (SZ.out _ (Keeps.drewN (Qt.refl WA) _))))
    have QN := Keeps.drewN (Qt.refl WA) nq
    have e6 := HE6.out _ QN
    have FQ := Lib.hid (Qt.trans HQA.out QN)
    clear QN
    go_wp2
    go_ret
    exact ⟨by rw [FIN.out]; rfl, FQ.out⟩
  · skip
    have y0 : decide (i < 0) = false := decide_eq_false c0
    by_cases c1 : n < 0
    · have FIN := Lib.hid (show J.refE d i n v = 6 from if_pos (fun k => by have q := k.2.1; omega))
      have y1 : decide (n < 0) = true := decide_eq_true c1
      clear hl hn
      have SZ1 := SZ.out WA (Qt.refl WA)
      generalize d.dur.length = L at *
      go_enter Tryd.func50, Tryd.ntmps50
      go_wp2
      rw [HWA.out]
      go_quiet ((go_at_call 74; with_reducible exact Calls.quiet_of_same (SZ.out _ (Keeps.drewN (Qt.refl WA) _))))
      have QN := Keeps.drewN (Qt.refl WA) nq
      have e6 := HE6.out _ QN
      have FQ := Lib.hid (Qt.trans HQA.out QN)
      clear QN
      go_wp2
      go_ret
      exact ⟨by rw [FIN.out]; rfl, FQ.out⟩
    · skip
      have y1 : decide (n < 0) = false := decide_eq_false c1
      have w2 : wrap64 ((d.dur.length : Int) - n) = (d.dur.length : Int) - n := by unfold wrap64; omega
      by_cases c2 : (d.dur.length : Int) - n < i
      · have FIN := Lib.hid (show J.refE d i n v = 6 from if_pos (fun k => by have q := k.2.2.2.1; omega))
        have y2 : decide ((d.dur.length : Int) - n < i) = true := decide_eq_true c2
        clear hl hn
        have SZ1 := SZ.out WA (Qt.refl WA)
        generalize d.dur.length = L at *
        go_enter Tryd.func50, Tryd.ntmps50
        go_wp2
        rw [HWA.out]
        go_quiet ((go_at_call 74; with_reducible exact Calls.quiet_of_same (SZ.out _ (Keeps.drewN (Qt.refl WA) _))))
        have QN := Keeps.drewN (Qt.refl WA) nq
        have e6 := HE6.out _ QN
        have FQ := Lib.hid (Qt.trans HQA.out QN)
        clear QN
        go_wp2
        go_ret
        exact ⟨by rw [FIN.out]; rfl, FQ.out⟩
      · skip
        have y2 : decide ((d.dur.length : Int) - n < i) = false := decide_eq_false c2
        by_cases c3 : v < 1
        · have FIN := Lib.hid (show J.refE d i n v = 6 from if_pos (fun k => by have q := k.2.2.2.2.2.1; omega))
          have y3 : decide (v < 1) = true := decide_eq_true c3
          clear hl hn
          have SZ1 := SZ.out WA (Qt.refl WA)
          generalize d.dur.length = L at *
          go_enter Tryd.func50, Tryd.ntmps50
          go_wp2
          rw [HWA.out]
          go_quiet ((go_at_call 74; with_reducible exact Calls.quiet_of_same (SZ.out _ (Keeps.drewN (Qt.refl WA) _))))
          have QN := Keeps.drewN (Qt.refl WA) nq
          have e6 := HE6.out _ QN
          have FQ := Lib.hid (Qt.trans HQA.out QN)
          clear QN
          go_wp2
          go_ret
          exact ⟨by rw [FIN.out]; rfl, FQ.out⟩
        · skip
          have y3 : decide (v < 1) = false := decide_eq_false c3
          by_cases c4 : 1099511627776 < v
          · have FIN := Lib.hid (show J.refE d i n v = 6 from if_pos (fun k => by have q := k.2.2.2.2.2.2; omega))
            have y4 : decide (1099511627776 < v) = true := decide_eq_true c4
            clear hl hn
            have SZ1 := SZ.out WA (Qt.refl WA)
            generalize d.dur.length = L at *
            go_enter Tryd.func50, Tryd.ntmps50
            go_wp2
            rw [HWA.out]
            go_quiet ((go_at_call 74; with_reducible exact Calls.quiet_of_same (SZ.out _ (Keeps.drewN (Qt.refl WA) _))))
            have QN := Keeps.drewN (Qt.refl WA) nq
            have e6 := HE6.out _ QN
            have FQ := Lib.hid (Qt.trans HQA.out QN)
            clear QN
            go_wp2
            go_ret
            exact ⟨by rw [FIN.out]; rfl, FQ.out⟩
          · skip
            have y4 : decide (1099511627776 < v) = false := decide_eq_false c4
            have hm : J.may d i n v := ⟨by omega, by omega, by omega, by omega, by omega, by omega, by omega⟩
            cases c6 : d.off with
            | true =>
              have FIN := Lib.hid (show J.refE d i n v = 12 from (if_neg (fun k => k hm)).trans (if_pos c6))
              rw [c6] at OF
              clear hl hn hm c6
              generalize d.dur.length = L at *
              go_enter Tryd.func50, Tryd.ntmps50
              go_wp2
              rw [HWA.out]
              go_quiet ((go_at_call 74; with_reducible exact Calls.quiet_of_same (SZ.out _ (Keeps.drewN (Qt.refl WA) _))))
              have QN := Keeps.drewN (Qt.refl WA) nq
              obtain ⟨x0, x1, x2, x3⟩ := HB.out _ QN
              have e12 := HE12.out _ QN
              have OF1 := Lib.hid (OF.out _ QN)
              have FQ := Lib.hid (Qt.trans HQA.out QN)
              clear QN d0 d1 d2 d3
              go_wp2_with fail
              refine OF1.out.mono ?_
              rintro e w1 ⟨rfl, rfl⟩
              go_wp2
              go_ret
              exact ⟨by rw [FIN.out]; rfl, FQ.out⟩
            | false =>
              have FIN := Lib.hid (show J.refE d i n v = 0 from (if_neg (fun k => k hm)).trans (if_neg (by rw [c6]; simp)))
              rw [c6] at OF
              clear hl hn hm c6
              generalize d.dur.length = L at *
              go_enter Tryd.func50, Tryd.ntmps50
              go_wp2
              rw [HWA.out]
              go_quiet ((go_at_call 74; with_reducible exact Calls.quiet_of_same (SZ.out _ (Keeps.drewN (Qt.refl WA) _))))
              have QN := Keeps.drewN (Qt.refl WA) nq
              obtain ⟨x0, x1, x2, x3⟩ := HB.out _ QN
              have OF1 := Lib.hid (OF.out _ QN)
              have FQ := Lib.hid (Qt.trans HQA.out QN)
              clear QN d0 d1 d2 d3
              go_wp2_with fail
              refine OF1.out.mono ?_
              rintro e w1 ⟨rfl, rfl⟩
              go_wp2
              go_ret
              exact ⟨by rw [FIN.out]; rfl, FQ.out⟩
end Go.Proofs.YtggogaaooacooaaDoor
