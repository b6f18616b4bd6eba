/-
  The contract of remitlaw06.sector; an Op in memory.
-/
import Derived.Test.YtbifhnlinnokaaaDoorDAny
namespace Go.Proofs.YtbifhnlinnokaaaDoor
open Go.RowKit Go.WideShapes
set_option maxRecDepth 100000

/-- An Op. -/
structure OpD where
  kind : Int
  i : Int
  s : ByteArray
  fill : UInt8
  kv : Value
  f : FT

def OpD.list (o : OpD) : List Value := [.int .i64 o.kind, .int .i64 o.i, .string o.s, .int .u8 o.fill.toNat, o.kv, .int .i64 o.f.torn, .int .i64 o.f.bytes]
def OpD.val (o : OpD) : Value := .agg #[.int .i64 o.kind, .int .i64 o.i, .string o.s, .int .u8 o.fill.toNat, o.kv, .int .i64 o.f.torn, .int .i64 o.f.bytes]

structure OpD.Ok (o : OpD) : Prop where
  k0 : -9223372036854775808 ≤ o.kind
  k1 : o.kind ≤ 9223372036854775807
  i0 : -9223372036854775808 ≤ o.i
  i1 : o.i ≤ 9223372036854775807
  s : o.s.size ≤ 1048576
  kl : o.f.kept.length ≤ 1048576

def secB (c : UInt8) (k : Nat) : UInt8 := c + (k / 16).toUInt8
def OpD.sector (o : OpD) : List UInt8 := if o.s.size = 0 then (List.range 256).map (secB o.fill) else strL o.s

theorem secB_nat (c : UInt8) (k : Nat) (hk : k < 256) : ((secB c k).toNat : Int) = ((c.toNat : Int) + (k : Int) / 16) % 256 := by
  have h : (secB c k).toNat = (c.toNat + k / 16) % 256 := by
    unfold secB
    rw [UInt8.toNat_add]
    have : (k / 16).toUInt8.toNat = k / 16 := by simp; omega
    rw [this]
  rw [h]; omega

theorem make_bytes (W : World) : (Instr.makeSlice 52 (.int .i64 256) (.int .i64 256)).run Tryd.prog W = .ok (.slice (some ⟨W.heap.size, 0, none⟩) 256 256) (W.alloc (.cells (madeCells #[Value.int .u8 0] 256) 5)) := by
  obtain ⟨i, hi, hz, hs, hb⟩ := info_parts infoByte3
  have hr := run_make (P := Tryd.prog) W 52 5 i _ Tryd.underlying52 hi hz .i64 .i64 256 256 (by omega) (by omega) (by rw [hb]; omega) (by omega)
  rw [hs] at hr
  exact hr

/-- The state of sector's loop. -/
def SecAt (c : UInt8) (w : World) (v : Value) (wr : World) : Prop :=
  ∃ (k : Nat) (C : Array Value), k ≤ 256 ∧ v = .int .i64 k ∧ wr.heap[w.heap.size + 1]? = some (.cells C 5 (0, 0)) ∧ C.size = 256 ∧ (∀ j, j < k → C[j]? = some (.int .u8 (secB c j).toNat)) ∧ Since (w.heap.size + 1) w wr ∧ wr.cell? ⟨w.heap.size, 3, none⟩ = some (.int .u8 c.toNat)

theorem SecAt.more {c : UInt8} {w wr : World} {k : Nat} {C : Array Value} (hk : k < 256) (hC : wr.heap[w.heap.size + 1]? = some (.cells C 5 (0, 0))) (hz : C.size = 256) (hall : ∀ j, j < k → C[j]? = some (.int .u8 (secB c j).toNat)) (hS : Since (w.heap.size + 1) w wr) (h3 : wr.cell? ⟨w.heap.size, 3, none⟩ = some (.int .u8 c.toNat)) :
    SecAt c w (.int .i64 ((k : Int) + 1)) (wr.setCell ⟨w.heap.size + 1, k, none⟩ (.int .u8 (((c.toNat : Int) + (k : Int) / 16) % 256))) := by
  have kS := keeps_setCell wr (w.heap.size + 1) k (.int .u8 (((c.toNat : Int) + (k : Int) / 16) % 256))
  refine ⟨k + 1, _, hk, by simp, setCell_row hC k _, by simp [hz], fun j hj => ?_, hS.step kS (fun j e => by omega), ?_⟩
  · rw [Array.getElem?_setIfInBounds]
    by_cases he : k = j
    · subst he
      rw [if_pos rfl, if_pos (by omega), secB_nat c k hk]
    · rw [if_neg he]
      exact hall j (by omega)
  · exact kS.cellv h3 (by simp)

theorem empty_of {s : ByteArray} (h : s.size = 0) : s.toList.isEmpty = true := by
  rw [Lib.toList_data, List.isEmpty_iff]; exact List.eq_nil_of_length_eq_zero (by rw [Array.length_toList]; exact h)
theorem full_of {s : ByteArray} (h : ¬ s.size = 0) : s.toList.isEmpty = false := by
  rw [Lib.toList_data, Bool.eq_false_iff]; intro e; exact h (by have := List.isEmpty_iff.1 e; have := congrArg List.length this; rw [Array.length_toList] at this; exact this)

theorem sector_text (o : OpD) (w : World) (hs : o.s.size ≠ 0) :
    Calls Tryd.prog 13 #[o.val] w fun e w' => e = .returned (.string ⟨o.sector.toArray⟩) ∧ Qt w w' := by
  have FIN := Lib.hid (show (⟨o.sector.toArray⟩ : ByteArray) = o.s by unfold OpD.sector; rw [if_neg hs]; simp [strL])
  obtain ⟨kind, i, s, fill, kv, f⟩ := o
  have hb := full_of (s := s) hs
  have hb2 : (!s.toList.isEmpty) = true := by rw [hb]; rfl
  clear hs
  unfold OpD.val
  simp only
  go_enter Tryd.func13, Tryd.ntmps13
  go_wp2
  go_ret
  exact ⟨by rw [FIN.out]; rfl, (Qt.refl w).alloc _⟩

set_option maxHeartbeats 800000 in
theorem sector_made (o : OpD) (w : World) (hs : o.s.size = 0) :
    Calls Tryd.prog 13 #[o.val] w fun e w' => e = .returned (.string ⟨o.sector.toArray⟩) ∧ Qt w w' := by
  have FIN := Lib.hid (show o.sector = (List.range 256).map (secB o.fill) by unfold OpD.sector; rw [if_pos hs])
  obtain ⟨kind, i, s, fill, kv, f⟩ := o
  have hb := empty_of (s := s) hs
  have hb2 : (!s.toList.isEmpty) = false := by rw [hb]; rfl
  clear hs
  unfold OpD.val
  simp only at FIN ⊢
  have hmk := fun W => make_bytes W
  have hfl := fill.toNat_lt
  go_enter Tryd.func13, Tryd.ntmps13
  go_wp2
  have START : SecAt fill w (.int .i64 0) ((w.alloc (.cells #[.int .i64 kind, .int .i64 i, .string s, .int .u8 fill.toNat, kv, .int .i64 f.torn, .int .i64 f.bytes] 44)).alloc (.cells (madeCells #[Value.int .u8 0] 256) 5)) := by
    refine ⟨0, madeCells #[Value.int .u8 0] 256, Nat.zero_le _, rfl, ?_, size_madeCells _ _, fun j hj => by omega, Keeps.alloc (Keeps.alloc (Keeps.refl _ _) _) _, ?_⟩
    · have := heap_alloc_new (w.alloc (.cells #[.int .i64 kind, .int .i64 i, .string s, .int .u8 fill.toNat, kv, .int .i64 f.torn, .int .i64 f.bytes] 44)) (.cells (madeCells #[Value.int .u8 0] 256) 5)
      rwa [World.size_alloc] at this
    · refine Qt.cellv ((Qt.refl _).alloc _) ?_
      rw [cell_of_row _ _ _ _ _ _ (heap_alloc_new w _)]; rfl
  have HST := Lib.hid START
  clear START
  go_loopw [13] (fun v wr => SecAt fill w v wr) (fun v _ => 256 - (intOf v).toNat)
  case atStart => exact HST.out
  case round =>
    obtain ⟨k, C, hk, rfl, hC, hz, hall, hS, h3⟩ := hrel
    by_cases hlt : k < 256
    · have hc : wr.cell? ⟨w.heap.size + 1, k, none⟩ = some (C[k]'(by omega)) := by rw [cell_of_row wr _ _ _ _ _ hC]; exact Array.getElem?_eq_getElem (by omega)
      have hf := frozen_of_row hC k
      have HC := Lib.hid hC
      have HZ := Lib.hid hz
      have HA := Lib.hid hall
      have HS := Lib.hid hS
      generalize C[k] = cv at *
      clear hC hz hall hS
      have FIN2 := Lib.hid (SecAt.more (k := k) hlt HC.out HZ.out HA.out HS.out h3)
      go_wp2
      exact ⟨FIN2.out, by simp [intOf]; omega⟩
    · obtain rfl : k = 256 := by omega
      have hrg : wr.rangeAt (w.heap.size + 1) 0 (Lib.byteCells ((List.range 256).map (secB fill))) := by
        intro j v hj
        have hj2 : j < 256 := by have := (List.getElem?_eq_some_iff.1 hj).1; simpa [Lib.byteCells_length] using this
        rw [cell_of_row wr _ _ _ _ _ hC, Nat.zero_add, hall j hj2]
        simp [Lib.byteCells, hj2] at hj
        rw [hj]
      have hcv := conv_at hrg 256 256 (by simp)
      have HQ := Lib.hid (show Qt w wr from Since.qt (Keeps.mono hS (fun j _ e => by omega)))
      generalize (List.range 256).map (secB fill) = L at *
      clear hrg hC hz hall hS hlt
      go_wp2
      go_ret
      exact ⟨by rw [FIN.out]; rfl, HQ.out⟩

theorem sector_any (o : OpD) (w : World) : Calls Tryd.prog 13 #[o.val] w fun e w' => e = .returned (.string ⟨o.sector.toArray⟩) ∧ Qt w w' := by
  by_cases hs : o.s.size = 0
  · exact sector_made o w hs
  · exact sector_text o w hs
end Go.Proofs.YtbifhnlinnokaaaDoor
