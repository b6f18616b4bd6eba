/-
  The document's own disk (remitref06), in memory; its small calls.
  The contracts of remitref06's Read and Image.
  The contract of remitref06's Image.
-/
import Derived.Test.YtggogaaooacooaaDoorP07
import Derived.Test.YtggogaaooacooaaDoorP08
import Derived.Test.YtggogaaooacooaaDoorP15
import Derived.Test.YtggogaaooacooaaDoorP11
import Derived.Test.YtggogaaooacooaaDoorP10
namespace Go.Proofs.YtggogaaooacooaaDoor
open Go.RowKit Go.WideShapes
set_option maxRecDepth 100000

def wayR (x : Nat × List UInt8) : List Value := [.int .i64 x.1, strV x.2]
def refCells (sv wv : Value) (d : DS) : Array Value := #[sv, wv, .bool d.off, .bool (decide (0 ≤ d.armed)), .int .i64 (max d.armed 0), .int .i64 d.wr, .int .i64 d.fl, .int .i64 d.cr]

structure RefP (W : World) (b : Nat) (sv wv : Value) (d : DS) : Prop where
  ok : d.Ok
  cells : W.heap[b]? = some (.cells (refCells sv wv d) 84 (0, 0))
  secs : W.ownsRow 0 9 1 sv d.dur.length (d.dur.map strV)
  ways : W.ownsRow 0 121 2 wv d.ways.length (d.ways.flatMap wayR)

def rfoot (b : Nat) (sv wv : Value) (k : Nat) : Prop := k = b ∨ sv.ownBlock = some k ∨ wv.ownBlock = some k
def RefAt (W : World) (b : Nat) (d : DS) (S : Nat → Prop) : Prop := ∃ sv wv, RefP W b sv wv d ∧ ∀ k, rfoot b sv wv k → S k

theorem RefP.lt {W : World} {b : Nat} {sv wv : Value} {d : DS} (h : RefP W b sv wv d) : ∀ k, rfoot b sv wv k → k < W.heap.size := by
  rintro k (rfl | hk | hk)
  · exact lt_of_block h.cells
  · exact ownsRow_lt h.secs hk
  · exact ownsRow_lt h.ways hk
theorem RefP.kept {S : Nat → Prop} {W W' : World} {b : Nat} {sv wv : Value} {d : DS} (h : RefP W b sv wv d) (hk : Keeps S W W') (hS : ∀ k, rfoot b sv wv k → ¬ S k) : RefP W' b sv wv d :=
  ⟨h.ok, (hk.block b (lt_of_block h.cells) (hS b (.inl rfl))).trans h.cells, ownsRow_kept h.secs hk (fun k e => hS k (.inr (.inl e))), ownsRow_kept h.ways hk (fun k e => hS k (.inr (.inr e)))⟩
theorem RefAt.kept {S T : Nat → Prop} {W W' : World} {b : Nat} {d : DS} (h : RefAt W b d S) (hk : Keeps T W W') (hS : ∀ k, S k → ¬ T k) : RefAt W' b d S := by
  obtain ⟨sv, wv, h, hf⟩ := h
  exact ⟨sv, wv, h.kept hk (fun k e => hS k (hf k e)), hf⟩
theorem RefAt.qt {S : Nat → Prop} {W W' : World} {b : Nat} {d : DS} (h : RefAt W b d S) (hk : Qt W W') : RefAt W' b d S := h.kept hk (fun _ _ e => e)
theorem RefAt.mono {W : World} {b : Nat} {d : DS} {S T : Nat → Prop} (h : RefAt W b d S) (hT : ∀ k, S k → T k) : RefAt W b d T := by
  obtain ⟨sv, wv, h, hS⟩ := h
  exact ⟨sv, wv, h, fun k hk => hT k (hS k hk)⟩
theorem RefAt.there {W : World} {b : Nat} {d : DS} {S : Nat → Prop} (h : RefAt W b d S) : RefAt W b d (fun k => S k ∧ k < W.heap.size) := by
  obtain ⟨sv, wv, h, hS⟩ := h
  exact ⟨sv, wv, h, fun k hk => ⟨hS k hk, h.lt k hk⟩⟩

/-- The blocks lie apart: their types are unlike. -/
theorem RefP.apart {W : World} {b : Nat} {sv wv : Value} {d : DS} (h : RefP W b sv wv d) : sv.ownBlock ≠ some b ∧ wv.ownBlock ≠ some b ∧ (∀ k, sv.ownBlock = some k → wv.ownBlock ≠ some k) := by
  have hb := h.cells
  have hu : ∀ (e : TypeId) (m n : Nat) (v : Value) (xs : List Value), W.ownsRow 0 e m v n xs → ∀ k, v.ownBlock = some k → ∃ cur, W.heap[k]? = some (.cells cur e (0, 0)) := by
    intro e m n v xs ho k hk
    rcases ho.2 with ⟨e, _⟩ | ⟨g, cap, cur, e, _, hg, _⟩
    · rw [e] at hk; cases hk
    · rw [e] at hk
      have : g = k := by simpa [Value.ownBlock] using hk
      subst this
      exact ⟨cur, hg⟩
  refine ⟨?_, ?_, ?_⟩
  · intro e; obtain ⟨cur, hc⟩ := hu _ _ _ _ _ h.secs b e; rw [hc] at hb; injection hb with hb; injection hb with _ e; cases e
  · intro e; obtain ⟨cur, hc⟩ := hu _ _ _ _ _ h.ways b e; rw [hc] at hb; injection hb with hb; injection hb with _ e; cases e
  · intro k e1 e2
    obtain ⟨cur, hc⟩ := hu _ _ _ _ _ h.secs k e1
    obtain ⟨cur', hc'⟩ := hu _ _ _ _ _ h.ways k e2
    rw [hc] at hc'; injection hc' with hc'; injection hc' with _ e; cases e

theorem RefP.cell {W : World} {b : Nat} {sv wv : Value} {d : DS} (h : RefP W b sv wv d) (i : Nat) (v : Value) (hi : (refCells sv wv d)[i]? = some v) : W.cell? ⟨b, i, none⟩ = some v := by
  rw [cell_of_row W b i _ _ _ h.cells]; exact hi

/-- The disk's own cells turned, nothing else of it. -/
theorem RefP.turn {W W' : World} {b : Nat} {sv wv : Value} {d d' : DS} (h : RefP W b sv wv d) (hk : Keeps (fun k => k = b) W W') (hc : W'.heap[b]? = some (.cells (refCells sv wv d') 84 (0, 0))) (ho : d'.Ok) (h1 : d'.dur = d.dur) (h2 : d'.ways = d.ways) : RefP W' b sv wv d' := by
  obtain ⟨a1, a2, _⟩ := h.apart
  refine ⟨ho, hc, ?_, ?_⟩
  · rw [h1]; exact ownsRow_kept h.secs hk (fun k e1 e2 => by subst e2; exact a1 e1)
  · rw [h2]; exact ownsRow_kept h.ways hk (fun k e1 e2 => by subst e2; exact a2 e1)

section
variable {w : World} {b : Nat} {sv wv : Value} {d : DS}

theorem ref_arm (h : RefP w b sv wv d) (k : Int) (hk : k ≤ 9223372036854775807) : Calls Tryd.prog 37 #[.pointer (some ⟨b, 0, none⟩), .int .i64 k] w fun e w' => e = .returned (.tuple #[]) ∧ RefP w' b sv wv (d.armD k) ∧ Keeps (fun k => k = b) w w' := by
  have c3 : w.cell? ⟨b, 3, none⟩ = some (.bool (decide (0 ≤ d.armed))) := h.cell 3 _ rfl
  have c4 : w.cell? ⟨b, 4, none⟩ = some (.int .i64 (max d.armed 0)) := h.cell 4 _ rfl
  have f3 := frozen_of_row h.cells 3
  have f4 := frozen_of_row h.cells 4
  have H := Lib.hid h
  have HK := Lib.hid hk
  clear h hk
  go_enter Tryd.func37, Tryd.ntmps37
  go_wp2
  go_end0
  have kS := Keeps.trans (keeps_setCell w b 3 (.bool (decide (0 ≤ k)))) (keeps_setCell _ b 4 (.int .i64 (max k 0))) (fun _ _ e => e)
  refine ⟨rfl, H.out.turn kS ?_ (H.out.ok.arm HK.out) rfl rfl, kS⟩
  rw [setCell_row (setCell_row H.out.cells 3 _) 4 _]
  have e1 : decide (0 ≤ max k (-1)) = decide (0 ≤ k) := by
    by_cases q : 0 ≤ k
    · rw [decide_eq_true q, decide_eq_true (by omega)]
    · rw [decide_eq_false q, decide_eq_false (by omega)]
  have e2 : max (max k (-1)) 0 = max k 0 := by omega
  simp [refCells, DS.armD, e2]
  exact e1.symm

theorem ref_goes (h : RefP w b sv wv d) (ho : d.off = false) : Calls Tryd.prog 64 #[.pointer (some ⟨b, 0, none⟩)] w fun e w' => e = .returned (.bool (decide (d.armed = 0))) ∧ RefP w' b sv wv d.goes ∧ Keeps (fun k => k = b) w w' := by
  have c2 : w.cell? ⟨b, 2, none⟩ = some (.bool d.off) := h.cell 2 _ rfl
  have c3 : w.cell? ⟨b, 3, none⟩ = some (.bool (decide (0 ≤ d.armed))) := h.cell 3 _ rfl
  have c4 : w.cell? ⟨b, 4, none⟩ = some (.int .i64 (max d.armed 0)) := h.cell 4 _ rfl
  have f2 := frozen_of_row h.cells 2
  have f4 := frozen_of_row h.cells 4
  have a1 := h.ok.a1
  have hok := Lib.hid h.ok.goes
  have a0 := h.ok.a0
  have H := Lib.hid h
  clear h
  by_cases h0 : 0 ≤ d.armed
  · rw [decide_eq_true h0] at c3
    by_cases hz : d.armed = 0
    · have hm : max d.armed 0 = 0 := by omega
      rw [hm] at c4
      have HZ := Lib.hid hz
      clear hz h0 a1 a0
      go_enter Tryd.func64, Tryd.ntmps64
      go_wp2
      go_ret
      have hk := keeps_setCell w b 2 (.bool true)
      have fin : d.goes = { d with off := true } := if_pos HZ.out
      refine ⟨by rw [decide_eq_true HZ.out]; rfl, H.out.turn hk ?_ hok.out (by rw [fin]) (by rw [fin]), hk⟩
      rw [setCell_row H.out.cells, fin]
      rfl
    · obtain ⟨a, ha⟩ := Int.eq_ofNat_of_zero_le h0
      have hm : max d.armed 0 = (a : Int) := by omega
      rw [hm] at c4
      have g1 : decide ((0 : Int) < (a : Int)) = true := decide_eq_true (by omega)
      have apos : 1 ≤ a := by omega
      have ale : a ≤ 9223372036854775807 := by omega
      have HA := Lib.hid ha
      have HZ := Lib.hid hz
      clear hz h0 a1 a0 ha hm
      go_enter Tryd.func64, Tryd.ntmps64
      go_wp2
      go_ret
      have hk := keeps_setCell w b 4 (.int .i64 ((a : Int) - 1))
      have fin : d.goes = { d with armed := dec d.armed } := if_neg HZ.out
      refine ⟨by rw [decide_eq_false HZ.out]; rfl, H.out.turn hk ?_ hok.out (by rw [fin]) (by rw [fin]), hk⟩
      rw [setCell_row H.out.cells, fin]
      have e0 : dec d.armed = (a : Int) - 1 := by unfold dec; rw [HA.out, if_pos (by omega)]
      have e2 : max ((a : Int) - 1) 0 = (a : Int) - 1 := by omega
      simp [refCells, e0, e2]
      rw [HA.out]
      omega
  · rw [decide_eq_false h0] at c3
    have HN := Lib.hid h0
    clear h0 a1
    go_enter Tryd.func64, Tryd.ntmps64
    go_wp2
    go_ret
    have fin : d.goes = d := by
      unfold DS.goes dec
      have := HN.out
      rw [if_neg (by omega), if_neg (by omega)]
    exact ⟨by rw [decide_eq_false (by have := HN.out; omega)]; rfl, by rw [fin]; exact H.out, Keeps.refl _ _⟩
end
end Go.Proofs.YtggogaaooacooaaDoor
namespace Go.Proofs.YtggogaaooacooaaDoor
open Go.RowKit Go.WideShapes
set_option maxRecDepth 100000

theorem wayR_get {ws : List (Nat × List UInt8)} {k : Nat} {x : Nat × List UInt8} (h : ws[k]? = some x) : (ws.flatMap wayR)[k * 2]? = some (.int .i64 x.1) ∧ (ws.flatMap wayR)[k * 2 + 1]? = some (strV x.2) :=
  ⟨flatMap_get wayR 2 ws (fun _ _ _ => rfl) k x h 0 _ rfl, flatMap_get wayR 2 ws (fun _ _ _ => rfl) k x h 1 _ rfl⟩

section
variable {w : World} {b : Nat} {sv wv : Value} {d : DS}

/-- Way k in memory. -/
theorem RefP.way (h : RefP w b sv wv d) {k : Nat} {x : Nat × List UInt8} (hx : d.ways[k]? = some x) : ∃ g c, wv = .slice (some ⟨g, 0, none⟩) d.ways.length c ∧ w.cell? ⟨g, k * 2, none⟩ = some (.int .i64 x.1) ∧ w.cell? ⟨g, k * 2 + 1, none⟩ = some (.string ⟨x.2.toArray⟩) := by
  have hk := (List.getElem?_eq_some_iff.1 hx).1
  rcases h.ways.2 with ⟨e, h0⟩ | ⟨g, cap, cur, e, _⟩
  · omega
  · refine ⟨g, cap, e, ?_, ?_⟩
    · have := (World.ownsRowF_of (e ▸ h.ways)).cells (g := g) rfl (k * 2) _ (wayR_get hx).1
      rwa [add_plain, Nat.zero_add] at this
    · have := (World.ownsRowF_of (e ▸ h.ways)).cells (g := g) rfl (k * 2 + 1) _ (wayR_get hx).2
      rwa [add_plain, Nat.zero_add] at this

/-- Sector p in memory. -/
theorem RefP.sec (h : RefP w b sv wv d) {p : Nat} (hp : p < d.dur.length) : ∃ g c, sv = .slice (some ⟨g, 0, none⟩) d.dur.length c ∧ w.cell? ⟨g, p, none⟩ = some (.string ⟨(d.dur.getD p []).toArray⟩) := by
  rcases h.secs.2 with ⟨e, h0⟩ | ⟨g, cap, cur, e, _⟩
  · omega
  · refine ⟨g, cap, e, ?_⟩
    have := (World.ownsRowF_of (e ▸ h.secs)).cells (g := g) rfl p (strV (d.dur.getD p [])) (by rw [List.getElem?_map, show d.dur[p]? = some (d.dur.getD p []) by simp [List.getD, hp]]; rfl)
    rwa [add_plain, Nat.zero_add] at this

/-- A way laid into a new block. -/
theorem laid_wayR (w : World) (i : Int) (s : ByteArray) : ∃ W, w.alloc (.cells #[.int .i64 i, .string s] 121) = W ∧ Qt w W ∧ W.heap[w.heap.size]? = some (.cells #[.int .i64 i, .string s] 121 (0, 0)) ∧ W.cell? ⟨w.heap.size, 0, none⟩ = some (.int .i64 i) ∧ W.cell? ⟨w.heap.size, 1, none⟩ = some (.string s) := by
  have hb := heap_alloc_new w (.cells #[.int .i64 i, .string s] 121)
  refine ⟨_, rfl, (Qt.refl w).alloc _, hb, ?_, ?_⟩ <;> (rw [cell_of_row _ _ _ _ _ _ hb]; rfl)

/-- The state of Read's loop. -/
def SReadAt (w : World) (d : DS) (p : Nat) (tv iv : Value) (wr : World) : Prop := ∃ k : Nat, k ≤ d.ways.length ∧ iv = .int .i64 k ∧ tv = .string ⟨(readTo d.dur d.ways p k).toArray⟩ ∧ Qt w wr

theorem readTo_succ {D : List (List UInt8)} {ws : List (Nat × List UInt8)} {p k : Nat} {x : Nat × List UInt8} (h : ws[k]? = some x) : readTo D ws p (k + 1) = if x.1 = p then x.2 else readTo D ws p k := by
  rw [readTo, h]

theorem ref_read_ok (h : RefP w b sv wv d) (hf : d.Few) (p : Nat) (ho : d.off = false) (hp : p < d.dur.length) : Calls Tryd.prog 98 #[.pointer (some ⟨b, 0, none⟩), .int .i64 p] w fun e w' => e = .returned (.tuple #[.string ⟨(d.read p).toArray⟩, .int .i64 0]) ∧ Qt w w' := by
  obtain ⟨gs, sc, rfl, cs⟩ := h.sec hp
  obtain ⟨wa, wc, hwv, _⟩ := own_slice h.ways
  subst hwv
  have c0 : w.cell? ⟨b, 0, none⟩ = some (.slice (some ⟨gs, 0, none⟩) d.dur.length sc) := h.cell 0 _ rfl
  have c1 : w.cell? ⟨b, 1, none⟩ = some (.slice wa d.ways.length wc) := h.cell 1 _ rfl
  have c2 : w.cell? ⟨b, 2, none⟩ = some (.bool d.off) := h.cell 2 _ rfl
  rw [ho] at c2
  have g1 : decide ((d.dur.length : Int) ≤ (p : Int)) = false := decide_eq_false (by omega)
  have hwn := hf.ways
  have hdn := h.ok.le
  have HF := Lib.hid (show d.read p = readTo d.dur d.ways p d.ways.length from rfl)
  have H := Lib.hid h
  have HZ := Lib.hid (show readTo d.dur d.ways p 0 = d.dur.getD p [] from rfl)
  have hdz : (⟨(d.dur.getD p []).toArray⟩ : ByteArray) = ⟨(readTo d.dur d.ways p 0).toArray⟩ := rfl
  obtain ⟨X0, hX0⟩ : ∃ X : ByteArray, ⟨(d.dur.getD p []).toArray⟩ = X := ⟨_, rfl⟩
  rw [hX0] at cs hdz
  have HDZ := Lib.hid hdz
  clear h hdz hX0
  go_enter Tryd.func98, Tryd.ntmps98
  go_wp2_with fail
  clear cs
  go_loopw [6, 36] (fun tv iv wr => SReadAt w d p tv iv wr) (fun _ iv _ => d.ways.length - (intOf iv).toNat)
  case atStart => exact ⟨0, Nat.zero_le _, rfl, by rw [HDZ.out], Qt.refl _⟩
  case round =>
    obtain ⟨k, hk, rfl, rfl, q⟩ := hrel
    by_cases hlt : k < d.ways.length
    · obtain ⟨x, hx⟩ : ∃ x, d.ways[k]? = some x := ⟨_, List.getElem?_eq_getElem hlt⟩
      obtain ⟨g, c, hwv, y0, y1⟩ := (H.out.kept q (fun _ _ e => e)).way hx
      injection hwv with hwa _ hwc
      subst hwa hwc
      have hsu := readTo_succ (D := d.dur) (p := p) hx
      obtain ⟨W, hW, qW, _, z0, z1⟩ := laid_wayR wr x.1 ⟨x.2.toArray⟩
      have HW := Lib.hid hW
      have hx1 : x.1 < 9223372036854775807 := by have := (H.out.ok.way k x hx).1; omega
      have FF := Lib.hid (show SReadAt w d p (.string ⟨(readTo d.dur d.ways p (k + 1)).toArray⟩) (.int .i64 ((k : Int) + 1)) W from ⟨k + 1, hlt, by simp, rfl, Qt.trans q qW⟩)
      rw [hsu] at FF
      clear hsu q qW hx hW
      obtain ⟨Y, hY⟩ : ∃ Y : ByteArray, ⟨(readTo d.dur d.ways p k).toArray⟩ = Y := ⟨_, rfl⟩
      by_cases hp1 : x.1 = p
      · have hb : ((x.1 : Int) == (p : Int)) = true := by rw [beq_iff_eq]; omega
        rw [if_pos hp1] at FF
        clear hp1
        go_wp2_with fail
        rw [HW.out]
        go_wp2_with fail
        go_roundw
        case rel => exact FF.out
        case measure => simp [intOf]; omega
      · have hb : ((x.1 : Int) == (p : Int)) = false := by rw [beq_eq_false_iff_ne]; omega
        rw [if_neg hp1] at FF
        clear hp1
        go_wp2_with fail
        rw [HW.out]
        go_wp2_with fail
        go_roundw
        case rel => exact FF.out
        case measure => simp [intOf]; omega
    · obtain rfl : k = d.ways.length := by omega
      have HQ := Lib.hid q
      clear q hlt
      rw [← HF.out]
      go_wp2_with fail
      go_ret2
      exact ⟨rfl, HQ.out⟩

theorem ref_read_no (h : RefP w b sv wv d) (i : Int) (hr : d.reach i ≠ 0) : Calls Tryd.prog 98 #[.pointer (some ⟨b, 0, none⟩), .int .i64 i] w fun e w' => e = .returned (.tuple #[.string ⟨#[]⟩, .int .i64 (d.reach i)]) ∧ Qt w w' := by
  obtain ⟨sa, sc, rfl, _⟩ := own_slice h.secs
  have c0 : w.cell? ⟨b, 0, none⟩ = some (.slice sa d.dur.length sc) := h.cell 0 _ rfl
  have c2 : w.cell? ⟨b, 2, none⟩ = some (.bool d.off) := h.cell 2 _ rfl
  clear h
  by_cases ho : d.off = true
  · rw [ho] at c2
    have e : d.reach i = 12 := by unfold DS.reach; rw [if_pos ho]
    rw [e]
    clear hr e ho
    go_enter Tryd.func98, Tryd.ntmps98
    go_wp2
    go_ret2
    exact ⟨rfl, Qt.refl _⟩
  · have ho' : d.off = false := by simpa using ho
    rw [ho'] at c2
    have hrg : i < 0 ∨ (d.dur.length : Int) ≤ i := by
      unfold DS.reach at hr
      rw [if_neg ho] at hr
      by_cases q : i < 0 ∨ (d.dur.length : Int) ≤ i
      · exact q
      · rw [if_neg q] at hr; exact absurd rfl hr
    have e : d.reach i = 6 := by unfold DS.reach; rw [if_neg ho, if_pos hrg]
    rw [e]
    clear hr e ho ho'
    by_cases h0 : i < 0
    · have g0 : decide (i < 0) = true := decide_eq_true h0
      clear hrg
      go_enter Tryd.func98, Tryd.ntmps98
      go_wp2
      go_ret2
      exact ⟨rfl, Qt.refl _⟩
    · have g0 : decide (i < 0) = false := decide_eq_false h0
      have g1 : decide ((d.dur.length : Int) ≤ i) = true := decide_eq_true (by omega)
      clear hrg
      go_enter Tryd.func98, Tryd.ntmps98
      go_wp2
      go_ret2
      exact ⟨rfl, Qt.refl _⟩

theorem ref_read (h : RefP w b sv wv d) (hf : d.Few) (i : Int) : Calls Tryd.prog 98 #[.pointer (some ⟨b, 0, none⟩), .int .i64 i] w fun e w' => e = .returned (.tuple #[.string ⟨(d.readE i).toArray⟩, .int .i64 (d.reach i)]) ∧ Qt w w' := by
  by_cases hr : d.reach i = 0
  · obtain ⟨ho, h0, h1⟩ := DS.reach_zero hr
    obtain ⟨p, rfl⟩ := Int.eq_ofNat_of_zero_le h0
    have e : d.readE (p : Int) = d.read p := by unfold DS.readE; rw [if_pos hr]; rfl
    rw [e, hr]
    exact ref_read_ok h hf p ho (by omega)
  · have e : d.readE i = [] := by unfold DS.readE; rw [if_neg hr]
    rw [e]
    exact ref_read_no h i hr
end
end Go.Proofs.YtggogaaooacooaaDoor
namespace Go.Proofs.YtggogaaooacooaaDoor
open Go.RowKit Go.WideShapes
set_option maxRecDepth 100000

theorem infoU8s : (Tryd.prog.info? 5).map (fun i => (i.zero, i.size, i.bytes)) = some (some (.int .u8 0), 1, 1) := by kernel_rfl
theorem strCells_mk (l : List UInt8) : Lib.strCells ⟨l.toArray⟩ = Lib.byteCells l := by
  unfold Lib.strCells Lib.byteCells
  simp

/-- The state of Image's loop. -/
def SImgAt (w : World) (d : DS) (vo iv : Value) (wr : World) : Prop :=
  ∃ k : Nat, k ≤ d.dur.length ∧ iv = .int .i64 k ∧ wr.ownsRowF 0 5 1 vo (k * 256) (Lib.byteCells (d.dur.take k).flatten) ∧ (∀ q, vo.ownBlock = some q → w.heap.size ≤ q) ∧ Qt w wr

theorem SImgAt.more {w wr w2 : World} {d : DS} {k : Nat} {v v' : Value} (hk : k < d.dur.length) (hn : ∀ q, v.ownBlock = some q → w.heap.size ≤ q) (q : Qt w wr)
    (ho : w2.ownsRowF 0 5 1 v' (k * 256 + 256) (Lib.byteCells (d.dur.take k).flatten ++ Lib.byteCells (d.dur.getD k []))) (hg : wr.grownBy w2 v.ownBlock) (hl : Later wr v.ownBlock v'.ownBlock) : SImgAt w d v' (.int .i64 ((k : Int) + 1)) w2 := by
  refine ⟨k + 1, hk, by simp, ?_, ?_, ?_⟩
  · rw [flat_succ (show d.dur[k]? = some (d.dur.getD k []) by simp [List.getD, hk]), Lib.byteCells_append, Nat.succ_mul]
    exact ho
  · intro p hp
    rcases hl with e | ⟨g, e, hg'⟩
    · exact hn p (e ▸ hp)
    · rw [hp] at e
      injection e with e
      subst e
      exact Nat.le_trans q.size hg'
  · exact Keeps.grown q hg (fun p hp e => by have := hn p e.symm; omega)

theorem ref_image {w : World} {b : Nat} {sv wv : Value} {d : DS} (h : RefP w b sv wv d) : Calls Tryd.prog 14 #[.pointer (some ⟨b, 0, none⟩)] w fun e w' => e = .returned (.string ⟨d.image.toArray⟩) ∧ Qt w w' := by
  obtain ⟨gs, sc, rfl, _⟩ := h.sec (p := 0) (by have := h.ok.pos; omega)
  have hle := h.ok.le
  have H := Lib.hid h
  have HD := Lib.hid h.ok.each
  obtain ⟨i0, hi, hz0, hz1, hz2⟩ := info_parts infoU8s
  have ow := World.ownsRow_made (base := 0) (e := 5) (size := 1) w #[] 0 (Nat.zero_le _) (Nat.zero_le _) rfl
  have q1 : Qt w (w.alloc (.cells #[] 5)) := (Qt.refl w).alloc _
  obtain ⟨w1, hw1⟩ : ∃ W, w.alloc (.cells #[] 5) = W := ⟨_, rfl⟩
  rw [hw1] at ow q1
  have A0 := Lib.hid (show SImgAt w d (.slice (some ⟨w.heap.size, 0, none⟩) 0 0) (.int .i64 0) w1 from ⟨0, Nat.zero_le _, rfl, World.ownsRowF_of ow, fun q e => by have : w.heap.size = q := by { simpa [Value.ownBlock] using e }; omega, q1⟩)
  have c0 : (w.alloc (.cells #[] 5)).cell? ⟨b, 0, none⟩ = some (.slice (some ⟨gs, 0, none⟩) d.dur.length sc) := by rw [hw1]; exact q1.cellv (h.cell 0 _ rfl)
  have HW1 := Lib.hid hw1
  clear h ow q1 hw1
  go_enter Tryd.func14, Tryd.ntmps14
  go_wp2_with fail
  rw [HW1.out]
  clear c0
  go_loopw [3, 12] (fun vo iv wr => SImgAt w d vo iv wr) (fun _ iv _ => d.dur.length - (intOf iv).toNat)
  case atStart => exact A0.out
  case round =>
    obtain ⟨k, hk, rfl, ho, hn, q⟩ := hrel
    obtain ⟨va, vc, hvo⟩ : ∃ a c, u3 = .slice a (k * 256) c := by
      rcases ho.2 with ⟨e, h0⟩ | ⟨g, cap, cur, fz, e, _⟩
      · exact ⟨none, 0, by rw [e, h0]⟩
      · exact ⟨_, _, e⟩
    subst hvo
    by_cases hlt : k < d.dur.length
    · obtain ⟨g, c, hsv, y⟩ := (H.out.kept q (fun _ _ e => e)).sec hlt
      injection hsv with hsa _ hsc
      injection hsa with hsa
      injection hsa with hsa
      subst hsa hsc
      have hl256 := getD_length HD.out hlt
      have hysz : (⟨(d.dur.getD k []).toArray⟩ : ByteArray).size = 256 := (List.size_toArray ..).trans hl256
      have HM := Lib.hid (fun (v' : Value) (w2 : World) => SImgAt.more (w := w) (wr := wr) (w2 := w2) (v' := v') hlt hn q)
      have HST := Lib.hid (strCells_mk (d.dur.getD k []))
      have HOW := Lib.hid ho
      clear hn q ho hl256
      obtain ⟨Y, hY⟩ : ∃ Y : ByteArray, ⟨(d.dur.getD k []).toArray⟩ = Y := ⟨_, rfl⟩
      rw [hY] at y hysz HST
      have hbd : k * 256 + Y.size ≤ 140737488355328 := by omega
      clear hY
      go_wp2_with (refine wpList_append_strF _ rfl _ _ 75 9 rfl 5 i0 Tryd.underlying75 Tryd.underlying9 hi hz0 hz1 hz2 (.slice va (k * 256) vc) (k * 256) (Lib.byteCells (d.dur.take k).flatten) rfl HOW.out Y rfl (by unfold maxLen; omega) (by omega) ?_; intro v' w2 hown hg hl _)
      refine ⟨HM.out v' w2 ?_ hg hl, by simp [intOf]; omega⟩
      rw [hysz, HST.out] at hown
      exact hown
    · obtain rfl : k = d.dur.length := by omega
      have hl := flat_len HD.out d.dur.length (Nat.le_refl _)
      rw [List.take_length] at hl ho
      have hpos := H.out.ok.pos
      have hcv : (convert 75 9 (.slice va (d.dur.length * 256) vc)).run Tryd.prog wr = .ok (.string ⟨d.image.toArray⟩) wr := by
        rcases ho.2 with ⟨e, h0⟩ | ⟨g, cap, cur, fz, e, _⟩
        · omega
        · injection e with e1 _ e3
          subst e1 e3
          refine conv_at (fun j u hj => ?_) _ _ hl
          have := ho.cells (g := g) rfl j u hj
          rw [add_plain, Nat.zero_add] at this
          rw [Nat.zero_add]
          exact this
      have HQ := Lib.hid q
      clear ho hn q hlt hl
      obtain ⟨I, hI⟩ : ∃ I : ByteArray, ⟨d.image.toArray⟩ = I := ⟨_, rfl⟩
      rw [hI] at hcv
      go_wp2_with fail
      go_ret
      exact ⟨by rw [hI]; rfl, HQ.out⟩
end Go.Proofs.YtggogaaooacooaaDoor
