/-
  The contract of journal.Each: a function over just the records that Replay told.
  Life, told.
  The contracts of journal's Begin, down, Used, Fits and Sync.
-/
import Derived.Test.YtggogaaooacooaaDoorP29
import Derived.RangeFuncKeeps
import Derived.Test.YtggogaaooacooaaDoorP14
import Derived.Test.YtggogaaooacooaaDoorP25
import Derived.Test.YtggogaaooacooaaDoorP17
namespace Go.Proofs.YtggogaaooacooaaDoor
open Go.RowKit Go.Shelf
attribute [local go_sem] Oper.semAt_some
set_option maxRecDepth 100000

/-- What has come when k rounds are over. -/
def enumTo (l : List (List UInt8)) (k : Nat) : List (Nat × List UInt8) := (List.range k).map fun j => (j, l.getD j [])
theorem enumTo_succ (l : List (List UInt8)) (k : Nat) : enumTo l (k + 1) = enumTo l k ++ [(k, l.getD k [])] := by simp [enumTo, List.range_succ]
theorem enumTo_length (l : List (List UInt8)) (k : Nat) : (enumTo l k).length = k := by simp [enumTo]
theorem enumTo_prefix (l : List (List UInt8)) {k : Nat} (h : k ≤ l.length) : enumTo l k <+: enumT l := by
  refine ⟨((List.range l.length).drop k).map fun j => (j, l.getD j []), ?_⟩
  unfold enumTo enumT
  rw [← List.map_append]
  congr 1
  rw [← List.take_append_drop k (List.range l.length)]
  congr 1
  · rw [List.take_range, Nat.min_eq_left h]
  · rw [List.take_append_drop]

set_option maxHeartbeats 2000000 in
theorem jeach1_in (F : Fence) (n : Nat) (h8 : F.fn 58) (hro : F.round = none) (hn : 1 ≤ n) (l Bs n₀ b cap : Nat) (ts : List (List UInt8)) (hreach : ts.length ≤ 70000) (hb : b < n₀) (J Jx : List (Nat × List UInt8) → World → Prop)
    (hY : ∀ pre x W, J pre W → pre.length < ts.length → YieldAt F (n - 1) Tryd.prog l (encT x) W fun e W' =>
      (e = .returned (.bool true) ∧ J (pre ++ [x]) W' ∧ Below n₀ W W') ∨ (e = .returned (.bool false) ∧ Jx (pre ++ [x]) W'))
    (W : World) (hBs : W.cell? ⟨Bs, 0, none⟩ = some (.slice (some ⟨b, 0, none⟩) ts.length cap)) (hc : ∀ j, j < ts.length → W.cell? ⟨b, j, none⟩ = some (strV (ts.getD j []))) (h0 : J [] W) :
    CallsIn F n Tryd.prog 58 #[.func (.yield l) #[] #[], .pointer (some ⟨Bs, 0, none⟩)] W fun e W' => (∃ v, e = .returned v) ∧
      ((∃ ys, ys = enumTo ts ts.length ∧ J ys W') ∨ (∃ pre, (∃ k, k ≤ ts.length ∧ pre = enumTo ts k) ∧ Jx pre W')) := by
  refine callsIn_of_wp Tryd.func58 rfl h8 ?_ hro
  simp only [Tryd.ntmps58, List.size_toArray, List.length_cons, List.length_nil, Nat.reduceAdd, Nat.reduceSub, Array.replicate_succ, Array.replicate_zero, List.push_toArray, List.append_toArray, List.nil_append, List.cons_append]
  gi_wp2
  gi_loopw [7] (fun i wr => ∃ k : Nat, k ≤ ts.length ∧ i = .int .i64 k ∧ J (enumTo ts k) wr ∧ Below n₀ W wr)
    (fun i _ => ts.length - (intOf i).toNat)
  case atStart => exact ⟨0, Nat.zero_le _, rfl, h0, Below.refl _ _⟩
  case round =>
    obtain ⟨k, hk, rfl, hJs, hnx⟩ := hrel
    by_cases hlt : k < ts.length
    · have hcx : wr.cell? ⟨b, k, none⟩ = some (strV (ts.getD k [])) := (hnx.cell (p := ⟨b, k, none⟩) hb).trans (hc k hlt)
      obtain ⟨fn, tmps, assign, body, hy, hR⟩ := hY _ (k, ts.getD k []) wr hJs (by rw [enumTo_length]; exact hlt)
      unfold encT at hy
      dsimp only at hy
      have HX := Lib.hid (enumTo_succ ts k)
      generalize ts.getD k [] = t at *
      obtain ⟨s, hs⟩ : ∃ s : ByteArray, strV t = .string s := ⟨_, rfl⟩
      rw [hs] at hcx hy
      gi_wp2
      refine hR.mono ?_
      rintro e W3 (⟨rfl, hJ3, hk3⟩ | ⟨rfl, hJx3⟩)
      · gi_wp2
        go_roundw
        case rel => exact ⟨k + 1, by omega, by simp, by rw [HX.out]; exact hJ3, hnx.trans hk3⟩
        case measure => simp [intOf]; omega
      · gi_wp2
        refine bodyPost_ret (results_none rfl _ _ _) rfl ?_
        exact ⟨⟨_, rfl⟩, .inr ⟨_, ⟨k + 1, by omega, HX.out.symm⟩, hJx3⟩⟩
    · obtain rfl : k = ts.length := by omega
      gi_wp2
      go_end0
      exact ⟨⟨_, rfl⟩, .inl ⟨_, rfl, hJs⟩⟩
set_option maxHeartbeats 1000000 in
theorem jeach0_in (F : Fence) (n : Nat) (h8 : F.fn 58) (hro : F.round = none) (l Bs : Nat) (J : List (Nat × List UInt8) → World → Prop) (W : World) (hBs : W.cell? ⟨Bs, 0, none⟩ = some (.slice none 0 0)) (h0 : J [] W) :
    CallsIn F n Tryd.prog 58 #[.func (.yield l) #[] #[], .pointer (some ⟨Bs, 0, none⟩)] W fun e W' => (∃ v, e = .returned v) ∧ J [] W' := by
  refine callsIn_of_wp Tryd.func58 rfl h8 ?_ hro
  simp only [Tryd.ntmps58, List.size_toArray, List.length_cons, List.length_nil, Nat.reduceAdd, Nat.reduceSub, Array.replicate_succ, Array.replicate_zero, List.push_toArray, List.append_toArray, List.nil_append, List.cons_append]
  gi_wp2
  gi_loopw [7] (fun i wr => i = .int .i64 0 ∧ J [] wr) (fun _ _ => 0)
  case atStart => exact ⟨rfl, h0⟩
  case round =>
    obtain ⟨rfl, hJs⟩ := hrel
    gi_wp2
    go_end0
    exact ⟨⟨_, rfl⟩, hJs⟩

/-- The closure over a box that holds these texts goes over just them. -/
theorem jeach_stops {w0 w : World} {v : Value} {ts : List (List UInt8)} {Bs : Nat} (hN : NewT w0 w v ts) (hl : ts.length ≤ 70000) (hBs : w.cell? ⟨Bs, 0, none⟩ = some v) : EachV w (.func (.func 58) #[] #[.pointer (some ⟨Bs, 0, none⟩)]) ts := by
  have hB := World.block_lt_of_cell? w _ hBs
  refine ⟨58, _, rfl, fun args W => enters_of Tryd.func58 (by kernel_rfl) rfl args W, fun n hn W q => ?_⟩
  intro l J Jx W2 hW _ _ hY h0
  have hz := q.size
  have hc' : W2.cell? ⟨Bs, 0, none⟩ = some v := (hW.cell (p := ⟨Bs, 0, none⟩) (by simp only at hB ⊢; omega)).trans (q.cellv hBs)
  by_cases hne : ts = []
  · subst hne
    rcases hN.own.2 with ⟨e, _⟩ | ⟨g, cap, cur, e, _⟩
    · rw [e] at hc'
      exact (jeach0_in Fence.wide n trivial rfl l Bs J W2 hc' h0).mono fun e W' ⟨he, hj⟩ => ⟨he, .inl ⟨_, rfl, hj⟩⟩
    · rw [e] at hc'
      refine (jeach1_in Fence.wide n trivial rfl hn l Bs w.heap.size g cap [] hl ?_ J Jx hY W2 hc' (fun j hj => by simp at hj) h0).mono ?_
      · exact (ownsRow_lt hN.own (by rw [e]; rfl))
      · rintro e W' ⟨he, ⟨ys, rfl, hj⟩ | ⟨pre, ⟨k, hk, rfl⟩, hj⟩⟩
        · exact ⟨he, .inl ⟨_, rfl, hj⟩⟩
        · exact ⟨he, .inr ⟨_, enumTo_prefix [] hk, hj⟩⟩
  · obtain ⟨a, c, e⟩ := hN.shape
    subst e
    have hpos : 0 < ts.length := List.length_pos_iff.2 hne
    obtain ⟨g, rfl, _⟩ := newT_cell hN (show ts[0]? = some (ts.getD 0 []) by simp [List.getD, List.getElem?_eq_getElem hpos])
    have hg := ownsRow_lt hN.own (k := g) rfl
    refine (jeach1_in Fence.wide n trivial rfl hn l Bs w.heap.size g c ts hl hg J Jx hY W2 hc' (fun j hj => ?_) h0).mono ?_
    · obtain ⟨g', e, hcell⟩ := newT_cell hN (show ts[j]? = some (ts.getD j []) by simp [List.getD, List.getElem?_eq_getElem hj])
      injection e with e
      injection e with e
      subst e
      exact (hW.cell (p := ⟨g, j, none⟩) (by simp only; omega)).trans (q.cellv hcell)
    · rintro e W' ⟨he, ⟨ys, rfl, hj⟩ | ⟨pre, ⟨k, hk, rfl⟩, hj⟩⟩
      · exact ⟨he, .inl ⟨_, rfl, hj⟩⟩
      · exact ⟨he, .inr ⟨_, enumTo_prefix ts hk, hj⟩⟩
end Go.Proofs.YtggogaaooacooaaDoor
namespace Go.Proofs.YtggogaaooacooaaDoor
open Go.RowKit Go.WideShapes
set_option maxRecDepth 100000

section
variable {w : World} {b gd mb : Nat} {uv : Value} {d : DS} {S : Nat → Prop}
theorem life_p (h : DiskP w b gd mb uv d) : Calls Tryd.prog 51 #[.pointer (some ⟨b, 0, none⟩)] w fun e w' => e = .returned (.int .i64 d.cr) ∧ w = w' := by
  have c0 := h.cell 7 _ rfl
  clear h
  go_enter Tryd.func51, Tryd.ntmps51
  go_wp2
  go_ret
  exact ⟨rfl, rfl⟩

theorem life_any (h : DiskAt w b d S) : Calls Tryd.prog 51 #[.pointer (some ⟨b, 0, none⟩)] w fun e w' => e = .returned (.int .i64 d.cr) ∧ w = w' := by
  obtain ⟨gd, mb, uv, h, hS⟩ := h; exact life_p h
end
end Go.Proofs.YtggogaaooacooaaDoor
namespace Go.Proofs.YtggogaaooacooaaDoor
open Go.RowKit Go.WideShapes
set_option maxRecDepth 100000

/-- The journal in block q. -/
def cjCells (b : Nat) (j : J.JS) : Array Value := #[.pointer (some ⟨b, 0, none⟩), .int .i64 (j.pos : Int), .int .i64 (j.n : Int), .int .i64 (j.ver : Int), .int .i64 (j.used : Int), .int .i64 (j.life : Int)]
def CJ (w : World) (q b : Nat) (j : J.JS) : Prop := w.heap[q]? = some (.cells (cjCells b j) 110 (0, 0))
theorem CJ.cell {w : World} {q b : Nat} {j : J.JS} (h : CJ w q b j) (i : Nat) (v : Value) (hi : (cjCells b j)[i]? = some v) : w.cell? ⟨q, i, none⟩ = some v := by
  rw [cell_of_row _ _ _ _ _ _ h]; exact hi
theorem CJ.kept {w w' : World} {q b : Nat} {j : J.JS} {S : Nat → Prop} (h : CJ w q b j) (K : Keeps S w w') (hS : ¬ S q) : CJ w' q b j := (K.block q (lt_of_block h) hS).trans h
theorem CJ.qt {w w' : World} {q b : Nat} {j : J.JS} (h : CJ w q b j) (K : Qt w w') : CJ w' q b j := h.kept K (fun e => e)
theorem CJ.lt {w : World} {q b : Nat} {j : J.JS} (h : CJ w q b j) : q < w.heap.size := lt_of_block h
theorem CJ.dead {w : World} {q b : Nat} {j : J.JS} (h : CJ w q b j) (x : Bool) : CJ w q b { j with dead := x } := h
theorem CJ.used' {w : World} {q b : Nat} {j : J.JS} (h : CJ w q b j) (m : Nat) : CJ (w.setCell ⟨q, 4, none⟩ (.int .i64 (m : Int))) q b { j with used := m } := by
  unfold CJ at h ⊢
  simp only [World.setCell, Array.getElem?_modify, h, if_true, Option.map_some]
  rfl

section
variable {w : World} {b q : Nat} {d : DS} {j : J.JS} {S : Nat → Prop}
theorem life_same (h : DiskAt w b d S) : Calls Tryd.prog 51 #[.pointer (some ⟨b, 0, none⟩)] w fun e w' => e = .returned (.int .i64 d.cr) ∧ w' = w := (life_any h).mono fun _ _ ⟨h1, h2⟩ => ⟨h1, h2.symm⟩
theorem jdown_any (h : DiskAt w b d S) (hC : CJ w q b j) : Calls Tryd.prog 52 #[.pointer (some ⟨q, 0, none⟩)] w fun e w' => e = .returned (.bool (j.gone d)) ∧ Qt w w' := by
  have d0 : w.cell? ⟨q, 0, none⟩ = some (.pointer (some ⟨b, 0, none⟩)) := hC.cell 0 _ rfl
  have d5 : w.cell? ⟨q, 5, none⟩ = some (.int .i64 (j.life : Int)) := hC.cell 5 _ rfl
  have OF := Lib.hid (fun W (k : Qt w W) => off_same (DiskAt.qt h k))
  have LF := Lib.hid (fun W (k : Qt w W) => life_same (DiskAt.qt h k))
  clear h hC
  cases ho : d.off with
  | true =>
    have FIN := Lib.hid (show j.gone d = true by unfold J.JS.gone; rw [ho]; rfl)
    rw [ho] at OF
    clear ho LF d5
    go_enter Tryd.func52, Tryd.ntmps52
    go_wp2
    go_quiet ((go_at_call 56; with_reducible exact Calls.quiet_of_same (OF.out _ (Keeps.drewN (Qt.refl w) _))))
    go_wp2
    go_ret
    exact ⟨by rw [FIN.out]; rfl, Keeps.drewN (Qt.refl w) _⟩
  | false =>
    obtain ⟨B, hB⟩ : ∃ B, ((d.cr : Int) != (j.life : Int)) = B := ⟨_, rfl⟩
    have FIN := Lib.hid (show j.gone d = B by
      unfold J.JS.gone
      rw [ho, ← hB, Bool.false_or]
      by_cases hc : d.cr = j.life
      · rw [decide_eq_false (fun k => k hc), hc]; simp
      · rw [decide_eq_true hc]
        exact (bne_iff_ne.2 (by omega)).symm)
    rw [ho] at OF
    clear ho
    go_enter Tryd.func52, Tryd.ntmps52
    go_wp2
    go_quiet ((first | (go_at_call 56; with_reducible exact Calls.quiet_of_same (OF.out _ (Keeps.drewN (Qt.refl w) _))) | (go_at_call 51; with_reducible exact Calls.quiet_of_same (LF.out _ (Keeps.drewN (Qt.refl w) _)))))
    go_wp2
    go_ret
    exact ⟨by rw [FIN.out]; rfl, Keeps.drewN (Qt.refl w) _⟩
theorem jused_any (hC : CJ w q b j) : Calls Tryd.prog 28 #[.pointer (some ⟨q, 0, none⟩)] w fun e w' => e = .returned (.int .i64 (j.used : Int)) ∧ w' = w := by
  have d4 : w.cell? ⟨q, 4, none⟩ = some (.int .i64 (j.used : Int)) := hC.cell 4 _ rfl
  clear hC
  go_enter Tryd.func28, Tryd.ntmps28
  go_wp2
  go_ret
  exact ⟨rfl, rfl⟩
theorem jfits_any (hC : CJ w q b j) (hu : j.used ≤ j.n) (hn : j.n ≤ 65536) (z : Int) (hz : z ≤ 9223372036854775807) :
    Calls Tryd.prog 24 #[.pointer (some ⟨q, 0, none⟩), .int .i64 z] w fun e w' => e = .returned (.bool (j.fits z)) ∧ Qt w w' := by
  have d2 : w.cell? ⟨q, 2, none⟩ = some (.int .i64 (j.n : Int)) := hC.cell 2 _ rfl
  have d4 : w.cell? ⟨q, 4, none⟩ = some (.int .i64 (j.used : Int)) := hC.cell 4 _ rfl
  clear hC
  by_cases h0 : 0 ≤ z
  · obtain ⟨k, rfl⟩ := Int.eq_ofNat_of_zero_le h0
    have y0 : decide (0 ≤ (k : Int)) = true := decide_eq_true h0
    have CO := fun W => jcost_nat k (by omega) W
    have wz : wrap64 ((j.n : Int) - (j.used : Int)) = (j.n : Int) - (j.used : Int) := by unfold wrap64; omega
    have FIN := Lib.hid (show decide (((J.cost k : Nat) : Int) ≤ (j.n : Int) - (j.used : Int)) = j.fits (k : Int) from by
      unfold J.JS.fits
      rw [Int.toNat_natCast]
      by_cases hc : j.used + J.cost k ≤ j.n
      · rw [decide_eq_true (show ((J.cost k : Nat) : Int) ≤ (j.n : Int) - (j.used : Int) by omega), decide_eq_true ⟨h0, hc⟩]
      · rw [decide_eq_false (show ¬ ((J.cost k : Nat) : Int) ≤ (j.n : Int) - (j.used : Int) by omega), decide_eq_false (fun k => hc k.2)])
    obtain ⟨B, hB⟩ : ∃ B, decide (((J.cost k : Nat) : Int) ≤ (j.n : Int) - (j.used : Int)) = B := ⟨_, rfl⟩
    rw [hB] at FIN
    generalize J.cost k = C at *
    clear hz hu hn
    go_enter Tryd.func24, Tryd.ntmps24
    go_wp2
    go_quiet ((go_at_call 19; with_reducible exact Calls.quiet_of_same (CO _)))
    go_wp2
    go_ret
    exact ⟨by rw [← FIN.out]; rfl, Keeps.drewN (Qt.refl w) _⟩
  · have y0 : decide (0 ≤ z) = false := decide_eq_false h0
    have FIN := Lib.hid (show j.fits z = false from decide_eq_false (fun k => h0 k.1))
    clear hz
    go_enter Tryd.func24, Tryd.ntmps24
    go_wp2
    go_quiet (fail)
    go_wp2
    go_ret
    exact ⟨by rw [FIN.out]; rfl, Keeps.drewN (Qt.refl w) _⟩
end

/-- A journal apart from its disk: what may turn is S, and its own block. -/
theorem Room.step {ad : Nat → Addr} {S : Nat → Prop} {q : Nat} {w0 w : World} (R : Room ad (fun k => S k ∨ k = q) w0) (K : Keeps (fun k => S k ∨ k = q) w0 w) (hq : q < w.heap.size) : Room ad S w :=
  ⟨R.errs' K, R.tab' K, R.off.mono (fun _ e => .inl e), fun e => R.offTab (.inl e), fun k hk => (R.up k (Nat.le_trans K.size hk)).resolve_right (by omega)⟩
/-- What a call over a journal leaves. -/
def JP (ad : Nat → Addr) (S : Nat → Prop) (w : World) (b q : Nat) (r : Nat × J.JS × DS) (e : Ending) (w' : World) : Prop :=
  e = .returned (errV ad r.1) ∧ DiskAt w' b r.2.2 S ∧ CJ w' q b r.2.1 ∧ Keeps (fun k => S k ∨ k = q) w w'
section
variable {ad : Nat → Addr} {S : Nat → Prop} {w : World} {b q : Nat} {d : DS} {j : J.JS}
theorem Errs.down {ad : Nat → Addr} {w : World} (h : Errs ad w) : w.cell? ⟨2, 0, none⟩ = some (.iface 168 (.pointer (some (ad 12)))) := h.cells 11 _ rfl
theorem Errs.full {ad : Nat → Addr} {w : World} (h : Errs ad w) : w.cell? ⟨3, 0, none⟩ = some (.iface 168 (.pointer (some (ad 17)))) := h.cells 16 _ rfl
theorem jsync_any (R : Room ad S w) (h : DiskAt w b d S) (hf : d.Few) (hq : ¬ S q) (hC : CJ w q b j) (hF : J.Fine j d) :
    Calls Tryd.prog 42 #[.pointer (some ⟨q, 0, none⟩)] w (JP ad S w b q (j.sync d)) := by
  have DN := jdown_any h hC
  rw [← hF.down] at DN
  cases hd : j.down d with
  | true =>
    have FIN := Lib.hid (show j.sync d = (12, { j with dead := true }, d) from if_pos hd)
    rw [hd] at DN
    have HE := Lib.hid R.errs
    have HD := Lib.hid h
    have HC := Lib.hid hC
    clear R h hf hq hC hF hd
    go_enter Tryd.func42, Tryd.ntmps42
    go_wp2_with fail
    refine DN.mono ?_
    rintro e w1 ⟨rfl, q1⟩
    have e12 := (HE.out.kept q1 (OffErrs.none ad)).down
    have Q1 := Lib.hid q1
    clear q1 DN
    go_wp2
    go_ret
    rw [FIN.out]
    exact ⟨rfl, DiskAt.qt HD.out Q1.out, HC.out.qt Q1.out, Q1.out.mono (fun _ _ e => e.elim)⟩
  | false =>
    rw [hd] at DN
    have FIN := Lib.hid (show (j.sync d).1 = d.flushE ∧ (j.sync d).2.2 = d.flushD ∧ ∀ W, CJ W q b j → CJ W q b (j.sync d).2.1 from by
      unfold J.JS.sync
      rw [if_neg (by rw [hd]; simp)]
      split
      · exact ⟨rfl, rfl, fun W h => h⟩
      · rename_i he
        exact ⟨(Decidable.not_not.1 he).symm, rfl, fun W h => h⟩)
    have HR := Lib.hid R
    have HD := Lib.hid h
    have HF := Lib.hid hf
    have HQ := Lib.hid hq
    have HC := Lib.hid hC
    clear R h hf hq hC hF hd
    go_enter Tryd.func42, Tryd.ntmps42
    go_wp2_with fail
    refine DN.mono ?_
    rintro e w1 ⟨rfl, q1⟩
    have FL := room_flush HR.out (keeps_qt (Keeps.refl S w) q1) (DiskAt.qt HD.out q1) HF.out
    have C1 := Lib.hid (HC.out.qt q1)
    have HK := Lib.hid q1
    have d0 : w1.cell? ⟨q, 0, none⟩ = some (.pointer (some ⟨b, 0, none⟩)) := C1.out.cell 0 _ rfl
    clear q1 DN
    go_wp2_with fail
    refine FL.mono ?_
    rintro e w2 ⟨rfl, p2, k2⟩
    have FM := Lib.hid (show JP ad S w b q (j.sync d) (.returned (errV ad d.flushE)) w2 from ⟨by rw [FIN.out.1], by rw [FIN.out.2.1]; exact p2, FIN.out.2.2 _ (HC.out.kept k2 HQ.out), k2.mono (fun _ _ e => .inl e)⟩)
    clear p2 k2 FL
    go_wp2
    go_ret
    exact FM.out

/-- Begin. -/
def JBeginP (ad : Nat → Addr) (w : World) (b : Nat) (d : DS) (i n v : Int) (e : Ending) (w' : World) : Prop :=
  Qt w w' ∧ if J.refE d i n v = 0 then ∃ q, w.heap.size ≤ q ∧ e = .returned (.tuple #[.pointer (some ⟨q, 0, none⟩), .nilIface]) ∧ CJ w' q b ⟨i.toNat, n.toNat, v.toNat, 0, false, d.cr⟩ else e = .returned (.tuple #[.pointer none, errV ad (J.refE d i n v)])
end
end Go.Proofs.YtggogaaooacooaaDoor
