/-
  The small contracts of a disk: what it tells, reach, powerGoes, forget, Arm, doneBytes.
-/
import Derived.Test.YtnnkibhlildojaaDoorDAt
import Derived.Deep.QuietTactic
import Derived.BigQuiet
import Derived.IntWalk
import Derived.Outline
namespace Go.Proofs.YtnnkibhlildojaaDoor
open Go.RowKit
set_option maxRecDepth 100000

section
variable {w : World} {b gd mb : Nat} {uv : Value} {d : DS}

theorem off_p (h : DiskP w b gd mb uv d) : Calls Tryd.prog 18 #[.pointer (some ⟨b, 0, none⟩)] w fun e w' => e = .returned (.bool d.off) ∧ w = w' := by
  have c4 := h.cell 4 _ rfl
  clear h
  go_enter Tryd.func18, Tryd.ntmps18
  go_wp2
  go_ret
  exact ⟨rfl, rfl⟩

theorem size_p (h : DiskP w b gd mb uv d) : Calls Tryd.prog 38 #[.pointer (some ⟨b, 0, none⟩)] w fun e w' => e = .returned (.int .i64 d.dur.length) ∧ w = w' := by
  have c0 : w.cell? ⟨b, 0, none⟩ = some (.slice (some ⟨gd, 0, none⟩) d.dur.length d.dur.length) := h.cell 0 _ rfl
  clear h
  go_enter Tryd.func38, Tryd.ntmps38
  go_wp2
  go_ret
  exact ⟨rfl, rfl⟩

theorem own_slice {W : World} {e : TypeId} {m : Nat} {v : Value} {n : Nat} {xs : List Value} (h : W.ownsRow 0 e m v n xs) : ∃ a c, v = .slice a n c ∧ n ≤ c := by
  rcases h.2 with ⟨rfl, h0⟩ | ⟨g, cap, cur, rfl, _, _, hc, _⟩
  · exact ⟨none, 0, by rw [h0], by omega⟩
  · exact ⟨_, cap, rfl, hc⟩

theorem pending_p (h : DiskP w b gd mb uv d) : Calls Tryd.prog 19 #[.pointer (some ⟨b, 0, none⟩)] w fun e w' => e = .returned (.int .i64 d.ways.length) ∧ w = w' := by
  obtain ⟨a, c, rfl, _⟩ := own_slice h.ways
  have c0 : w.cell? ⟨b, 1, none⟩ = some (.slice a d.ways.length c) := h.cell 1 _ rfl
  clear h
  go_enter Tryd.func19, Tryd.ntmps19
  go_wp2
  go_ret
  exact ⟨rfl, rfl⟩

theorem counts_p (h : DiskP w b gd mb uv d) : Calls Tryd.prog 12 #[.pointer (some ⟨b, 0, none⟩)] w fun e w' => e = .returned (.tuple #[.int .i64 d.wr, .int .i64 d.fl]) ∧ ∃ n, w' = w.drewN n := by
  have c5 : w.drew.cell? ⟨b, 5, none⟩ = some (.int .i64 d.wr) := h.cell 5 _ rfl
  have c6 : w.drew.cell? ⟨b, 6, none⟩ = some (.int .i64 d.fl) := h.cell 6 _ rfl
  have e5 := h.cell 5 _ rfl
  have e6 := h.cell 6 _ rfl
  clear h
  go_enter Tryd.func12, Tryd.ntmps12
  go_wp2
  go_quiet (fail)
  go_wp2
  go_ret2
  exact ⟨rfl, _, rfl⟩

theorem reach_p (ad : Nat → Addr) (hE : Errs ad w) (h : DiskP w b gd mb uv d) (i : Int) :
    Calls Tryd.prog 37 #[.pointer (some ⟨b, 0, none⟩), .int .i64 i] w fun e w' => e = .returned (errV ad (d.reach i)) ∧ w = w' := by
  have c0 : w.cell? ⟨b, 0, none⟩ = some (.slice (some ⟨gd, 0, none⟩) d.dur.length d.dur.length) := h.cell 0 _ rfl
  have c4 : w.cell? ⟨b, 4, none⟩ = some (.bool d.off) := h.cell 4 _ rfl
  have e6 : w.cell? ⟨4, 0, none⟩ = some (.iface 104 (.pointer (some (ad 6)))) := hE.cells 5 _ rfl
  have e12 : w.cell? ⟨0, 0, none⟩ = some (.iface 104 (.pointer (some (ad 12)))) := hE.cells 11 _ rfl
  have fin := Lib.hid (show d.reach i = if d.off then 12 else if i < 0 ∨ d.dur.length ≤ i then 6 else 0 from rfl)
  have v6 := Lib.hid (show errV ad 6 = .iface 104 (.pointer (some (ad 6))) from rfl)
  have v12 := Lib.hid (show errV ad 12 = .iface 104 (.pointer (some (ad 12))) from rfl)
  clear h hE
  generalize d.dur.length = n at *
  cases ho : d.off with
  | true =>
    rw [ho] at c4 fin
    clear ho
    go_enter Tryd.func37, Tryd.ntmps37
    go_wp2
    go_ret
    exact ⟨by rw [fin.out]; exact congrArg _ v12.out.symm, rfl⟩
  | false =>
    rw [ho] at c4 fin
    clear ho
    by_cases h0 : i < 0
    · go_enter Tryd.func37, Tryd.ntmps37
      go_wp2
      go_ret
      exact ⟨by rw [fin.out, if_neg (by simp), if_pos (.inl (by assumption))]; exact congrArg _ v6.out.symm, rfl⟩
    · have h0' : decide (i < 0) = false := decide_eq_false h0
      by_cases h1 : (n : Int) ≤ i
      · go_enter Tryd.func37, Tryd.ntmps37
        go_wp2
        go_ret
        exact ⟨by rw [fin.out, if_neg (by simp), if_pos (.inr (by assumption))]; exact congrArg _ v6.out.symm, rfl⟩
      · have h1' : decide ((n : Int) ≤ i) = false := decide_eq_false h1
        go_enter Tryd.func37, Tryd.ntmps37
        go_wp2
        go_ret
        exact ⟨by rw [fin.out, if_neg (by simp), if_neg (by omega)]; rfl, rfl⟩

/-- The disk behind a write or a flush that was counted. -/
def DS.goes (d : DS) : DS := if d.armed = 0 then { d with off := true } else { d with armed := dec d.armed }
theorem DS.Ok.goes {d : DS} (h : d.Ok) : d.goes.Ok := by
  have hd := dec_le h.a0
  have := h.a1
  unfold DS.goes
  split
  · exact ⟨h.pos, h.le, h.each, h.way, h.a0, h.a1⟩
  · exact ⟨h.pos, h.le, h.each, h.way, hd.1, by simp only; omega⟩

set_option maxHeartbeats 800000 in
theorem goes_p (h : DiskP w b gd mb uv d) :
    Calls Tryd.prog 47 #[.pointer (some ⟨b, 0, none⟩)] w fun e w' => e = .returned (.bool (decide (d.armed = 0))) ∧ DiskP w' b gd mb uv d.goes ∧ Keeps (fun k => k = b) w w' := by
  have c3 : w.cell? ⟨b, 3, none⟩ = some (.int .i64 d.armed) := h.cell 3 _ rfl
  have c4 : w.cell? ⟨b, 4, none⟩ = some (.bool d.off) := h.cell 4 _ rfl
  have f3 := frozen_of_row h.cells 3
  have f4 := frozen_of_row h.cells 4
  have hok := h.ok.goes
  have a0 := h.ok.a0
  have a1 := h.ok.a1
  have H := Lib.hid h
  clear h
  by_cases h0 : d.armed = 0
  · have fin := Lib.hid (show d.goes = { d with off := true } from if_pos h0)
    have hb : (d.armed == 0) = true := beq_iff_eq.2 h0
    have K := Lib.hid h0
    clear h0
    go_enter Tryd.func47, Tryd.ntmps47
    go_wp2
    go_ret
    have hk := keeps_setCell w b 4 (.bool true)
    refine ⟨by rw [decide_eq_true K.out]; rfl, ?_, hk⟩
    refine H.out.turn hk ?_ hok (by rw [fin.out]) (by rw [fin.out])
    rw [setCell_row H.out.cells, fin.out]
    rfl
  · have hb : (d.armed == 0) = false := beq_eq_false_iff_ne.2 h0
    by_cases h1 : 0 < d.armed
    · have fin := Lib.hid (show d.goes = { d with armed := d.armed - 1 } by unfold DS.goes dec; rw [if_neg h0, if_pos h1])
      have K := Lib.hid h0
      clear h0
      go_enter Tryd.func47, Tryd.ntmps47
      go_wp2
      go_ret
      have hk := keeps_setCell w b 3 (.int .i64 (d.armed - 1))
      refine ⟨by rw [decide_eq_false K.out]; rfl, ?_, hk⟩
      refine H.out.turn hk ?_ hok (by rw [fin.out]) (by rw [fin.out])
      rw [setCell_row H.out.cells, fin.out]
      rfl
    · have fin := Lib.hid (show d.goes = d by unfold DS.goes dec; rw [if_neg h0, if_neg h1])
      have K := Lib.hid h0
      have h1' : decide (0 < d.armed) = false := decide_eq_false h1
      clear h0
      go_enter Tryd.func47, Tryd.ntmps47
      go_wp2
      go_ret
      refine ⟨by rw [decide_eq_false K.out]; rfl, ?_, Keeps.refl _ _⟩
      rw [fin.out]
      exact H.out

theorem arm_p (h : DiskP w b gd mb uv d) (k : Int) (hk0 : k ≤ 9223372036854775807) :
    Calls Tryd.prog 15 #[.pointer (some ⟨b, 0, none⟩), .int .i64 k] w fun e w' => e = .returned (.tuple #[]) ∧ DiskP w' b gd mb uv (d.armD k) ∧ Keeps (fun k => k = b) w w' := by
  have c3 : w.cell? ⟨b, 3, none⟩ = some (.int .i64 d.armed) := h.cell 3 _ rfl
  have f3 := frozen_of_row h.cells 3
  have H := Lib.hid h
  have hok := Lib.hid (h.ok.arm hk0)
  clear h
  go_enter Tryd.func15, Tryd.ntmps15
  go_wp2
  · go_end0
    have hk := keeps_setCell w b 3 (.int .i64 (-1))
    have e : max k (-1) = -1 := by omega
    refine ⟨rfl, H.out.turn hk ?_ hok.out rfl rfl, hk⟩
    rw [setCell_row H.out.cells]
    simp only [DS.armD, diskCells, e]
    rfl
  · go_end0
    have hk := keeps_setCell w b 3 (.int .i64 k)
    have e : max k (-1) = k := by omega
    refine ⟨rfl, H.out.turn hk ?_ hok.out rfl rfl, hk⟩
    rw [setCell_row H.out.cells]
    simp only [DS.armD, diskCells, e]
    rfl

/-- The disk with nothing under way. -/
def DS.forgot (d : DS) : DS := { d with ways := [] }

theorem forget_p (h : DiskP w b gd mb uv d) :
    Calls Tryd.prog 36 #[.pointer (some ⟨b, 0, none⟩)] w fun e w' => e = .returned (.tuple #[]) ∧ DiskP w' b gd w.heap.size (.slice none 0 0) d.forgot ∧ Keeps (fun k => k = b) w w' := by
  have hmm := @run_makeMap Tryd.prog
  have c1 : w.cell? ⟨b, 1, none⟩ = some uv := h.cell 1 _ rfl
  have c2 : w.cell? ⟨b, 2, none⟩ = some (.map (some mb)) := h.cell 2 _ rfl
  have f1 := frozen_of_row h.cells 1
  have f2 := frozen_of_row h.cells 2
  have hb := lt_of_block h.cells
  have H := Lib.hid h
  clear h
  go_enter Tryd.func36, Tryd.ntmps36
  go_wp2
  go_end0
  have hk := Keeps.trans (keeps_setCell w b 1 (.slice none 0 0)) (keeps_setCell (w.setCell ⟨b, 1, none⟩ (.slice none 0 0)) b 2 (.map (some w.heap.size))) (fun _ _ e => e)
  have hr := setCell_row (setCell_row H.out.cells 1 (.slice none 0 0)) 2 (.map (some w.heap.size))
  have hz : ((w.setCell ⟨b, 1, none⟩ (.slice none 0 0)).setCell ⟨b, 2, none⟩ (.map (some w.heap.size))).heap.size = w.heap.size := by simp [World.setCell]
  generalize (w.setCell ⟨b, 1, none⟩ (.slice none 0 0)).setCell ⟨b, 2, none⟩ (.map (some w.heap.size)) = W2 at *
  have hk2 := hk.alloc (.map #[] 0)
  refine ⟨rfl, ?_, hk2⟩
  obtain ⟨a1, a2, a3, a4, a5, a6⟩ := H.out.apart
  have ho := H.out.ok
  refine ⟨⟨ho.pos, ho.le, ho.each, fun k w hk => by simp [DS.forgot] at hk, ho.a0, ho.a1⟩, ?_, H.out.dur.kept hk2 (fun e => a1 e.symm), World.ownsRow_nil _ 0 _ 257, .map [], ?_, MapsTo.nil⟩
  · rw [Below.heap_alloc _ _ _ (by omega), hr]
    rfl
  · have hm := World.ownsMap_made W2 Tryd.prog 3 (plainElem (H := Unit) Tryd.prog 3)
    rw [hz] at hm
    exact hm

/-- A []bool that came in, or of the call's own. -/
def Bools (W : World) (v : Value) (l : List Bool) : Prop := ∃ a c, v = .slice a l.length c ∧ ∀ (k : Nat) (x : Bool), l[k]? = some x → ∃ g o, a = some ⟨g, o, none⟩ ∧ W.cell? ⟨g, o + k, none⟩ = some (.bool x)

theorem Bools.kept {S : Nat → Prop} {W W' : World} {v : Value} {l : List Bool} (h : Bools W v l) (hk : Keeps S W W') (hS : ∀ a n c, v = .slice (some a) n c → n ≠ 0 → ¬ S a.block) : Bools W' v l := by
  obtain ⟨a, c, rfl, hc⟩ := h
  refine ⟨a, c, rfl, fun k x hx => ?_⟩
  obtain ⟨g, o, rfl, h1⟩ := hc k x hx
  exact ⟨g, o, rfl, hk.cellv (p := ⟨g, o + k, none⟩) h1 (show ¬ S g from hS ⟨g, o, none⟩ _ _ rfl (by have := (List.getElem?_eq_some_iff.1 hx).1; omega))⟩
theorem Bools.qt {W W' : World} {v : Value} {l : List Bool} (h : Bools W v l) (hk : Qt W W') : Bools W' v l := h.kept hk (fun _ _ _ _ _ e => e)
theorem Bools.block {W : World} {v : Value} {l : List Bool} (h : Bools W v l) (a : Addr) (n c : Nat) (e : v = .slice (some a) n c) (hn : n ≠ 0) : a.block < W.heap.size := by
  obtain ⟨a', c', rfl, hc⟩ := h
  injection e with e1 e2 _
  subst e1
  have hl : 0 < l.length := by omega
  obtain ⟨g, o, e3, h1⟩ := hc 0 l[0] (List.getElem?_eq_getElem hl)
  injection e3 with e3
  subst e3
  exact World.block_lt_of_cell? W _ h1

def fateV (v : Value) (f : FT) : Value := .agg #[v, .int .i64 f.torn, .int .i64 f.bytes]

theorem min_max {x : Int} : min (max x 0) 256 = ((min (max x 0) 256).toNat : Int) := by omega

set_option maxHeartbeats 800000 in
theorem done_any (v : Value) (f : FT) (k : Nat) (w : World) (hv : Bools w v f.kept) :
    Calls Tryd.prog 35 #[fateV v f, .int .i64 k] w fun e w' => e = .returned (.int .i64 (f.done k)) ∧ Qt w w' := by
  obtain ⟨a, c, rfl, hc⟩ := hv
  obtain ⟨kept, torn, bytes⟩ := f
  simp only [fateV] at *
  by_cases h0 : (k : Int) = torn
  · have fin := Lib.hid (show FT.done ⟨kept, torn, bytes⟩ k = (min (max bytes 0) 256).toNat from if_pos h0)
    have hb : ((k : Int) == torn) = true := beq_iff_eq.2 h0
    have K := Lib.hid h0
    clear h0 hc
    go_enter Tryd.func35, Tryd.ntmps35
    go_wp2
    all_goals
      go_ret
      rw [fin.out]
      refine ⟨?_, (Qt.refl w).alloc _⟩
      refine congrArg Ending.returned (congrArg (Value.int .i64) ?_)
      omega
  · have hb : ((k : Int) == torn) = false := beq_eq_false_iff_ne.2 h0
    by_cases h1 : k < kept.length
    · obtain ⟨g, o, rfl, hcell⟩ := hc k kept[k] (List.getElem?_eq_getElem h1)
      have fin := Lib.hid (show FT.done ⟨kept, torn, bytes⟩ k = if kept[k] = true then 256 else 0 by unfold FT.done; rw [if_neg h0]; simp [List.getD, h1])
      have K := Lib.hid h0
      clear h0 hc
      have hcell2 : (w.alloc (.cells #[.slice (some ⟨g, o, none⟩) kept.length c, .int .i64 torn, .int .i64 bytes] 46)).cell? ⟨g, o + k, none⟩ = some (.bool kept[k]) := Qt.cellv ((Qt.refl w).alloc _) hcell
      have hlt : decide (k < kept.length) = true := decide_eq_true h1
      generalize kept[k] = x at *
      generalize kept.length = n at *
      clear hcell
      cases x with
      | true =>
        go_enter Tryd.func35, Tryd.ntmps35
        go_wp2
        go_ret
        exact ⟨by rw [fin.out]; rfl, (Qt.refl w).alloc _⟩
      | false =>
        go_enter Tryd.func35, Tryd.ntmps35
        go_wp2
        go_ret
        exact ⟨by rw [fin.out]; rfl, (Qt.refl w).alloc _⟩
    · have fin := Lib.hid (show FT.done ⟨kept, torn, bytes⟩ k = 0 by unfold FT.done; rw [if_neg h0]; simp [List.getD, h1])
      have K := Lib.hid h0
      have hlt : decide (k < kept.length) = false := decide_eq_false h1
      generalize kept.length = n at *
      clear h0 hc
      go_enter Tryd.func35, Tryd.ntmps35
      go_wp2
      go_ret
      exact ⟨by rw [fin.out]; rfl, (Qt.refl w).alloc _⟩
end
end Go.Proofs.YtnnkibhlildojaaDoor
