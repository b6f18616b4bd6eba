/-
  A disk's contracts by its blocks.
  A sector of zeros, made and converted.
  The document's own disk (remitref06), in memory; its small calls.
-/
import Derived.Test.YtggogaaooacooaaDoorP17
import Derived.Test.YtggogaaooacooaaDoorP10
import Derived.Test.YtggogaaooacooaaDoorP12
import Derived.Test.YtggogaaooacooaaDoorP14
namespace Go.Proofs.YtggogaaooacooaaDoor
open Go.RowKit Go.WideShapes
set_option maxRecDepth 100000

section
variable {w : World} {b : Nat} {d : DS} {S : Nat → Prop}
theorem off_any (h : DiskAt w b d S) : Calls Tryd.prog 56 #[.pointer (some ⟨b, 0, none⟩)] w fun e w' => e = .returned (.bool d.off) ∧ w = w' := by
  obtain ⟨gd, mb, uv, h, hS⟩ := h; exact off_p h
theorem size_any (h : DiskAt w b d S) : Calls Tryd.prog 74 #[.pointer (some ⟨b, 0, none⟩)] w fun e w' => e = .returned (.int .i64 d.dur.length) ∧ w = w' := by
  obtain ⟨gd, mb, uv, h, hS⟩ := h; exact size_p h
theorem pending_any (h : DiskAt w b d S) : Calls Tryd.prog 18 #[.pointer (some ⟨b, 0, none⟩)] w fun e w' => e = .returned (.int .i64 d.ways.length) ∧ w = w' := by
  obtain ⟨gd, mb, uv, h, hS⟩ := h; exact pending_p h
theorem counts_any (h : DiskAt w b d S) : Calls Tryd.prog 27 #[.pointer (some ⟨b, 0, none⟩)] w fun e w' => e = .returned (.tuple #[.int .i64 d.wr, .int .i64 d.fl]) ∧ Qt w w' := by
  obtain ⟨gd, mb, uv, h, hS⟩ := h
  refine (counts_p h).mono ?_
  rintro e w' ⟨he, n, rfl⟩
  exact ⟨he, (Qt.refl w).drewN n⟩
theorem arm_any (h : DiskAt w b d S) (k : Int) (hk : k ≤ 9223372036854775807) : Calls Tryd.prog 36 #[.pointer (some ⟨b, 0, none⟩), .int .i64 k] w fun e w' => e = .returned (.tuple #[]) ∧ DiskAt w' b (d.armD k) (Grow S w w') ∧ Keeps S w w' := by
  obtain ⟨gd, mb, uv, h, hS⟩ := h
  refine (arm_p h k hk).mono ?_
  rintro e w' ⟨he, hP, hK⟩
  exact ⟨he, ⟨gd, mb, uv, hP, fun j hj => .inl (hS j hj)⟩, hK.mono (fun j _ e => by subst e; exact hS j (.inl rfl))⟩
end

/-- A disk of the call's own: all its blocks are new since B. -/
def Own (B : Nat) (w : World) (b : Nat) (d : DS) : Prop := DiskAt w b d (fun k => B ≤ k)
theorem Own.grow {B : Nat} {w w' : World} {b : Nat} {d : DS} {S : Nat → Prop} (hB : B ≤ w.heap.size) (hS : ∀ k, S k → B ≤ k) (h : DiskAt w' b d (Grow S w w')) : Own B w' b d := h.mono (fun k hk => by rcases hk with hk | ⟨hk, _⟩; exact hS k hk; omega)
theorem Own.qt {B : Nat} {w w' : World} {b : Nat} {d : DS} (h : Own B w b d) (q : Qt w w') : Own B w' b d := DiskAt.qt h q
end Go.Proofs.YtggogaaooacooaaDoor
namespace Go.Proofs.YtggogaaooacooaaDoor
open Go.RowKit Go.WideShapes
set_option maxRecDepth 100000

theorem make_bytes (W : World) : (Instr.makeSlice 75 (.int .i64 256) (.int .i64 256)).run Tryd.prog W = .ok (.slice (some ⟨W.heap.size, 0, none⟩) 256 256) (W.alloc (.cells (madeCells #[Value.int .u8 0] 256) 5)) := by
  obtain ⟨i, hi, hz, hs, hb⟩ := info_parts infoByte3
  have hr := run_make (P := Tryd.prog) W 75 5 i _ Tryd.underlying75 hi hz .i64 .i64 256 256 (by omega) (by omega) (by rw [hb]; omega) (by omega)
  rw [hs] at hr
  exact hr
theorem made_zero {j : Nat} (h : j < 256) : (madeCells #[Value.int .u8 0] 256)[j]? = some (.int .u8 0) := by
  unfold madeCells
  rw [Array.getElem?_map, Array.getElem?_range, if_pos h]
  simp [Nat.mod_one]
theorem zero_range {W : World} {g : Nat} (h : W.heap[g]? = some (.cells (madeCells #[Value.int .u8 0] 256) 5 (0, 0))) : W.rangeAt g 0 (Lib.byteCells zeros) := by
  intro j v hj
  have hj2 : j < 256 := by have := (List.getElem?_eq_some_iff.1 hj).1; rw [Lib.byteCells_length] at this; simpa [zeros] using this
  have hb : Lib.byteCells zeros = List.replicate 256 (.int .u8 0) := by simp only [Lib.byteCells, zeros, List.map_replicate]; rfl
  rw [hb, List.getElem?_replicate, if_pos hj2] at hj
  rw [cell_of_row W g _ _ _ _ h, Nat.zero_add, made_zero hj2]
  exact hj
theorem conv_zero {W : World} {g : Nat} (h : W.heap[g]? = some (.cells (madeCells #[Value.int .u8 0] 256) 5 (0, 0))) : (convert 75 9 (.slice (some ⟨g, 0, none⟩) 256 256)).run Tryd.prog W = .ok (.string ⟨zeros.toArray⟩) W :=
  conv_at (zero_range h) 256 256 (by simp [zeros])
theorem conv_kept (W W' : World) (k : Qt (W.alloc (.cells (madeCells #[Value.int .u8 0] 256) 5)) W') : (convert 75 9 (.slice (some ⟨W.heap.size, 0, none⟩) 256 256)).run Tryd.prog W' = .ok (.string ⟨zeros.toArray⟩) W' :=
  conv_zero ((k.block _ (by simp) (fun e => e)).trans (heap_alloc_new W _))
theorem strL_mk (l : List UInt8) : strL ⟨l.toArray⟩ = l := rfl
end Go.Proofs.YtggogaaooacooaaDoor
namespace Go.Proofs.YtggogaaooacooaaDoor
open Go.RowKit Go.WideShapes
set_option maxRecDepth 100000

def wayR (x : Nat × List UInt8) : List Value := [.int .i64 x.1, strV x.2]
def refCells (sv wv : Value) (d : DS) : Array Value := #[sv, wv, .bool d.off, .bool (decide (0 ≤ d.armed)), .int .i64 (max d.armed 0), .int .i64 d.wr, .int .i64 d.fl, .int .i64 d.cr]

structure RefP (W : World) (b : Nat) (sv wv : Value) (d : DS) : Prop where
  ok : d.Ok
  cells : W.heap[b]? = some (.cells (refCells sv wv d) 84 (0, 0))
  secs : W.ownsRow 0 9 1 sv d.dur.length (d.dur.map strV)
  ways : W.ownsRow 0 121 2 wv d.ways.length (d.ways.flatMap wayR)

def rfoot (b : Nat) (sv wv : Value) (k : Nat) : Prop := k = b ∨ sv.ownBlock = some k ∨ wv.ownBlock = some k
def RefAt (W : World) (b : Nat) (d : DS) (S : Nat → Prop) : Prop := ∃ sv wv, RefP W b sv wv d ∧ ∀ k, rfoot b sv wv k → S k

theorem RefP.lt {W : World} {b : Nat} {sv wv : Value} {d : DS} (h : RefP W b sv wv d) : ∀ k, rfoot b sv wv k → k < W.heap.size := by
  rintro k (rfl | hk | hk)
  · exact lt_of_block h.cells
  · exact ownsRow_lt h.secs hk
  · exact ownsRow_lt h.ways hk
theorem RefP.kept {S : Nat → Prop} {W W' : World} {b : Nat} {sv wv : Value} {d : DS} (h : RefP W b sv wv d) (hk : Keeps S W W') (hS : ∀ k, rfoot b sv wv k → ¬ S k) : RefP W' b sv wv d :=
  ⟨h.ok, (hk.block b (lt_of_block h.cells) (hS b (.inl rfl))).trans h.cells, ownsRow_kept h.secs hk (fun k e => hS k (.inr (.inl e))), ownsRow_kept h.ways hk (fun k e => hS k (.inr (.inr e)))⟩
theorem RefAt.kept {S T : Nat → Prop} {W W' : World} {b : Nat} {d : DS} (h : RefAt W b d S) (hk : Keeps T W W') (hS : ∀ k, S k → ¬ T k) : RefAt W' b d S := by
  obtain ⟨sv, wv, h, hf⟩ := h
  exact ⟨sv, wv, h.kept hk (fun k e => hS k (hf k e)), hf⟩
theorem RefAt.qt {S : Nat → Prop} {W W' : World} {b : Nat} {d : DS} (h : RefAt W b d S) (hk : Qt W W') : RefAt W' b d S := h.kept hk (fun _ _ e => e)
theorem RefAt.mono {W : World} {b : Nat} {d : DS} {S T : Nat → Prop} (h : RefAt W b d S) (hT : ∀ k, S k → T k) : RefAt W b d T := by
  obtain ⟨sv, wv, h, hS⟩ := h
  exact ⟨sv, wv, h, fun k hk => hT k (hS k hk)⟩
theorem RefAt.there {W : World} {b : Nat} {d : DS} {S : Nat → Prop} (h : RefAt W b d S) : RefAt W b d (fun k => S k ∧ k < W.heap.size) := by
  obtain ⟨sv, wv, h, hS⟩ := h
  exact ⟨sv, wv, h, fun k hk => ⟨hS k hk, h.lt k hk⟩⟩

/-- The blocks lie apart: their types are unlike. -/
theorem RefP.apart {W : World} {b : Nat} {sv wv : Value} {d : DS} (h : RefP W b sv wv d) : sv.ownBlock ≠ some b ∧ wv.ownBlock ≠ some b ∧ (∀ k, sv.ownBlock = some k → wv.ownBlock ≠ some k) := by
  have hb := h.cells
  have hu : ∀ (e : TypeId) (m n : Nat) (v : Value) (xs : List Value), W.ownsRow 0 e m v n xs → ∀ k, v.ownBlock = some k → ∃ cur, W.heap[k]? = some (.cells cur e (0, 0)) := by
    intro e m n v xs ho k hk
    rcases ho.2 with ⟨e, _⟩ | ⟨g, cap, cur, e, _, hg, _⟩
    · rw [e] at hk; cases hk
    · rw [e] at hk
      have : g = k := by simpa [Value.ownBlock] using hk
      subst this
      exact ⟨cur, hg⟩
  refine ⟨?_, ?_, ?_⟩
  · intro e; obtain ⟨cur, hc⟩ := hu _ _ _ _ _ h.secs b e; rw [hc] at hb; injection hb with hb; injection hb with _ e; cases e
  · intro e; obtain ⟨cur, hc⟩ := hu _ _ _ _ _ h.ways b e; rw [hc] at hb; injection hb with hb; injection hb with _ e; cases e
  · intro k e1 e2
    obtain ⟨cur, hc⟩ := hu _ _ _ _ _ h.secs k e1
    obtain ⟨cur', hc'⟩ := hu _ _ _ _ _ h.ways k e2
    rw [hc] at hc'; injection hc' with hc'; injection hc' with _ e; cases e

theorem RefP.cell {W : World} {b : Nat} {sv wv : Value} {d : DS} (h : RefP W b sv wv d) (i : Nat) (v : Value) (hi : (refCells sv wv d)[i]? = some v) : W.cell? ⟨b, i, none⟩ = some v := by
  rw [cell_of_row W b i _ _ _ h.cells]; exact hi

/-- The disk's own cells turned, nothing else of it. -/
theorem RefP.turn {W W' : World} {b : Nat} {sv wv : Value} {d d' : DS} (h : RefP W b sv wv d) (hk : Keeps (fun k => k = b) W W') (hc : W'.heap[b]? = some (.cells (refCells sv wv d') 84 (0, 0))) (ho : d'.Ok) (h1 : d'.dur = d.dur) (h2 : d'.ways = d.ways) : RefP W' b sv wv d' := by
  obtain ⟨a1, a2, _⟩ := h.apart
  refine ⟨ho, hc, ?_, ?_⟩
  · rw [h1]; exact ownsRow_kept h.secs hk (fun k e1 e2 => by subst e2; exact a1 e1)
  · rw [h2]; exact ownsRow_kept h.ways hk (fun k e1 e2 => by subst e2; exact a2 e1)

section
variable {w : World} {b : Nat} {sv wv : Value} {d : DS}

theorem ref_arm (h : RefP w b sv wv d) (k : Int) (hk : k ≤ 9223372036854775807) : Calls Tryd.prog 37 #[.pointer (some ⟨b, 0, none⟩), .int .i64 k] w fun e w' => e = .returned (.tuple #[]) ∧ RefP w' b sv wv (d.armD k) ∧ Keeps (fun k => k = b) w w' := by
  have c3 : w.cell? ⟨b, 3, none⟩ = some (.bool (decide (0 ≤ d.armed))) := h.cell 3 _ rfl
  have c4 : w.cell? ⟨b, 4, none⟩ = some (.int .i64 (max d.armed 0)) := h.cell 4 _ rfl
  have f3 := frozen_of_row h.cells 3
  have f4 := frozen_of_row h.cells 4
  have H := Lib.hid h
  have HK := Lib.hid hk
  clear h hk
  go_enter Tryd.func37, Tryd.ntmps37
  go_wp2
  go_end0
  have kS := Keeps.trans (keeps_setCell w b 3 (.bool (decide (0 ≤ k)))) (keeps_setCell _ b 4 (.int .i64 (max k 0))) (fun _ _ e => e)
  refine ⟨rfl, H.out.turn kS ?_ (H.out.ok.arm HK.out) rfl rfl, kS⟩
  rw [setCell_row (setCell_row H.out.cells 3 _) 4 _]
  have e1 : decide (0 ≤ max k (-1)) = decide (0 ≤ k) := by
    by_cases q : 0 ≤ k
    · rw [decide_eq_true q, decide_eq_true (by omega)]
    · rw [decide_eq_false q, decide_eq_false (by omega)]
  have e2 : max (max k (-1)) 0 = max k 0 := by omega
  simp [refCells, DS.armD, e2]
  exact e1.symm

theorem ref_goes (h : RefP w b sv wv d) (ho : d.off = false) : Calls Tryd.prog 64 #[.pointer (some ⟨b, 0, none⟩)] w fun e w' => e = .returned (.bool (decide (d.armed = 0))) ∧ RefP w' b sv wv d.goes ∧ Keeps (fun k => k = b) w w' := by
  have c2 : w.cell? ⟨b, 2, none⟩ = some (.bool d.off) := h.cell 2 _ rfl
  have c3 : w.cell? ⟨b, 3, none⟩ = some (.bool (decide (0 ≤ d.armed))) := h.cell 3 _ rfl
  have c4 : w.cell? ⟨b, 4, none⟩ = some (.int .i64 (max d.armed 0)) := h.cell 4 _ rfl
  have f2 := frozen_of_row h.cells 2
  have f4 := frozen_of_row h.cells 4
  have a1 := h.ok.a1
  have hok := Lib.hid h.ok.goes
  have a0 := h.ok.a0
  have H := Lib.hid h
  clear h
  by_cases h0 : 0 ≤ d.armed
  · rw [decide_eq_true h0] at c3
    by_cases hz : d.armed = 0
    · have hm : max d.armed 0 = 0 := by omega
      rw [hm] at c4
      have HZ := Lib.hid hz
      clear hz h0 a1 a0
      go_enter Tryd.func64, Tryd.ntmps64
      go_wp2
      go_ret
      have hk := keeps_setCell w b 2 (.bool true)
      have fin : d.goes = { d with off := true } := if_pos HZ.out
      refine ⟨by rw [decide_eq_true HZ.out]; rfl, H.out.turn hk ?_ hok.out (by rw [fin]) (by rw [fin]), hk⟩
      rw [setCell_row H.out.cells, fin]
      rfl
    · obtain ⟨a, ha⟩ := Int.eq_ofNat_of_zero_le h0
      have hm : max d.armed 0 = (a : Int) := by omega
      rw [hm] at c4
      have g1 : decide ((0 : Int) < (a : Int)) = true := decide_eq_true (by omega)
      have apos : 1 ≤ a := by omega
      have ale : a ≤ 9223372036854775807 := by omega
      have HA := Lib.hid ha
      have HZ := Lib.hid hz
      clear hz h0 a1 a0 ha hm
      go_enter Tryd.func64, Tryd.ntmps64
      go_wp2
      go_ret
      have hk := keeps_setCell w b 4 (.int .i64 ((a : Int) - 1))
      have fin : d.goes = { d with armed := dec d.armed } := if_neg HZ.out
      refine ⟨by rw [decide_eq_false HZ.out]; rfl, H.out.turn hk ?_ hok.out (by rw [fin]) (by rw [fin]), hk⟩
      rw [setCell_row H.out.cells, fin]
      have e0 : dec d.armed = (a : Int) - 1 := by unfold dec; rw [HA.out, if_pos (by omega)]
      have e2 : max ((a : Int) - 1) 0 = (a : Int) - 1 := by omega
      simp [refCells, e0, e2]
      rw [HA.out]
      omega
  · rw [decide_eq_false h0] at c3
    have HN := Lib.hid h0
    clear h0 a1
    go_enter Tryd.func64, Tryd.ntmps64
    go_wp2
    go_ret
    have fin : d.goes = d := by
      unfold DS.goes dec
      have := HN.out
      rw [if_neg (by omega), if_neg (by omega)]
    exact ⟨by rw [decide_eq_false (by have := HN.out; omega)]; rfl, by rw [fin]; exact H.out, Keeps.refl _ _⟩
end
end Go.Proofs.YtggogaaooacooaaDoor
