/-
  The contract of the reference's form, on: a text.
-/
import Derived.Test.YtfhfbpjhjigbnaaDoorKForm
namespace Go.Proofs.YtfhfbpjhjigbnaaDoor
open Go.RowKit Go.WideShapes
set_option maxRecDepth 100000

/-- The text's loop: k bytes are written. -/
def FTxtAt (s : ByteArray) (W1 : World) (v i : Value) (wr : World) : Prop :=
  ∃ k : Nat, k ≤ s.size ∧ i = .int .i64 k ∧ Bytes W1 v ([2] ++ K.escB (s.data.toList.take k)) wr

theorem esc_snoc (l : List UInt8) (c : UInt8) : K.escB (l ++ [c]) = K.escB l ++ (if c = 0 then [0, 255] else [c]) := by
  rw [K.escB_append, K.escB, K.escB]
theorem take_byte (s : ByteArray) (k : Nat) (h : k < s.size) : s.data.toList.take (k + 1) = s.data.toList.take k ++ [s[k]] := by
  rw [List.take_succ_eq_append_getElem (by simpa using h)]; rfl
theorem byteCells_one (c : UInt8) : Lib.byteCells [c] = [.int .u8 c.toNat] := rfl

theorem FTxtAt.ne {s : ByteArray} {k : Nat} {W1 wr w2 w3 : World} {v v' : Value} (hk : k < s.size) (h : Bytes W1 v ([2] ++ K.escB (s.data.toList.take k)) wr) (h0 : s[k] ≠ 0)
    (k2 : Qt wr w2) (hg : w2.grownBy w3 v.ownBlock) (hl : Later w2 v.ownBlock v'.ownBlock) (hown : w3.ownsRow 0 5 1 v' (([2] ++ K.escB (s.data.toList.take k)).length + 1) (Lib.byteCells ([2] ++ K.escB (s.data.toList.take k)) ++ [.int .u8 (s[k].toNat : Nat)])) : FTxtAt s W1 v' (.int .i64 ((k : Int) + 1)) w3 := by
  refine ⟨k + 1, hk, by simp, ?_⟩
  rw [take_byte s k hk, esc_snoc, if_neg h0, ← List.append_assoc]
  exact h.app k2 hg hl (by rw [byteCells_one]; exact hown)
theorem FTxtAt.zero {s : ByteArray} {k : Nat} {W1 wr w2 w3 w4 w5 : World} {v v' v2 : Value} (hk : k < s.size) (h : Bytes W1 v ([2] ++ K.escB (s.data.toList.take k)) wr) (h0 : s[k] = 0)
    (k2 : Qt wr w2) (hg : w2.grownBy w3 v.ownBlock) (hl : Later w2 v.ownBlock v'.ownBlock) (hown : w3.ownsRow 0 5 1 v' (([2] ++ K.escB (s.data.toList.take k)).length + 1) (Lib.byteCells ([2] ++ K.escB (s.data.toList.take k)) ++ [.int .u8 (s[k].toNat : Nat)]))
    (k4 : Qt w3 w4) (hg2 : w4.grownBy w5 v'.ownBlock) (hl2 : Later w4 v'.ownBlock v2.ownBlock) (hown2 : w5.ownsRow 0 5 1 v2 (([2] ++ K.escB (s.data.toList.take k)).length + 1 + 1) ((Lib.byteCells ([2] ++ K.escB (s.data.toList.take k)) ++ [.int .u8 (s[k].toNat : Nat)]) ++ [.int .u8 255])) : FTxtAt s W1 v2 (.int .i64 ((k : Int) + 1)) w5 := by
  refine ⟨k + 1, hk, by simp, ?_⟩
  rw [take_byte s k hk, esc_snoc, if_pos h0, ← List.append_assoc, show ([0, 255] : List UInt8) = [0] ++ [255] from rfl, ← List.append_assoc]
  rw [h0] at hown hown2
  have q := h.app (m := [0]) k2 hg hl (by rw [byteCells_one]; exact hown)
  refine q.app (m := [255]) k4 hg2 hl2 ?_
  rw [Lib.byteCells_append, byteCells_one, byteCells_one, List.length_append]
  exact hown2
theorem FTxtAt.done {s : ByteArray} {w W1 wr w2 w3 : World} {v v' : Value} (k1 : Qt w W1) (h : Bytes W1 v ([2] ++ K.escB (s.data.toList.take s.size)) wr)
    (k2 : Qt wr w2) (hg : w2.grownBy w3 v.ownBlock) (hl : Later w2 v.ownBlock v'.ownBlock) (hown : w3.ownsRow 0 5 1 v' (([2] ++ K.escB (s.data.toList.take s.size)).length + 2) (Lib.byteCells ([2] ++ K.escB (s.data.toList.take s.size)) ++ [.int .u8 0, .int .u8 1])) : NewBytes w.heap.size w3 v' (K.formB (.txt s.data.toList)) ∧ Qt w w3 := by
  have ht : s.data.toList.take s.size = s.data.toList := List.take_of_length_le (Nat.le_of_eq rfl)
  rw [ht] at h hown
  have hs := k1.size
  have q := h.app (m := [0, 1]) k2 hg hl hown
  rw [← formB_txt] at q
  exact ⟨⟨q.nb.own, fun g hg => by have := q.nb.new g hg; omega⟩, Qt.trans k1 (Since.qt q.since)⟩
theorem txt_len (s : ByteArray) (k : Nat) (h : s.size ≤ 4194304) : ([2] ++ K.escB (s.data.toList.take k)).length ≤ 8388609 := by
  have h1 := K.escB_length_le (s.data.toList.take k)
  have h2 : (s.data.toList.take k).length ≤ s.data.toList.length := List.length_take_le' _ _
  have h3 : s.data.toList.length = s.size := rfl
  simp
  omega

set_option maxHeartbeats 3200000 in
theorem form_txt (n : Int) (s : ByteArray) (w : World) (hs : s.size ≤ 4194304) :
    Calls Tryd.prog 27 #[.agg #[.bool false, .int .i64 n, .string s]] w fun e w' => ∃ v, e = .returned v ∧ NewBytes w.heap.size w' v (K.formB (.txt s.data.toList)) ∧ Qt w w' := by
  obtain ⟨i0, hi, hz0, hz1, hz2⟩ := info_parts infoByte
  have Hm := Lib.hid (fun W : World => NewBytes.made W [2] (by simp) (by simp))
  go_enter Tryd.func27, Tryd.ntmps27
  go_wp2
  have k1 : ∀ o, Qt w (w.alloc o) := fun o => (Keeps.refl (fun _ => False) w).alloc o
  have c1 : (w.alloc (.cells #[Value.bool false, Value.int IntKind.i64 n, Value.string s] 25)).cell? ⟨w.heap.size, 2, none⟩ = some (.string s) := by rw [cell_of_row _ _ _ _ _ _ (heap_alloc_new w _)]; rfl
  have s1 : ∀ o, (w.alloc o).heap.size = w.heap.size + 1 := fun o => by simp
  generalize hW : w.alloc _ = W1
  have K1 := Lib.hid (hW ▸ k1 _)
  have C1 := Lib.hid (hW ▸ c1)
  have S1 := hW ▸ s1 (Obj.cells #[Value.bool false, Value.int IntKind.i64 n, Value.string s] 25)
  have S1' : w.heap.size < W1.heap.size := by omega
  clear k1 s1 hW c1
  rw [← S1]
  clear S1
  have B1 := Lib.hid (show Bytes W1 (.slice (some ⟨W1.heap.size, 0, none⟩) 1 1) ([2] ++ []) (W1.alloc (.cells #[.int .u8 2] 5)) from ⟨Hm.out W1, (Keeps.refl _ _).alloc _⟩)
  go_loopw [6, 7] (fun v i wr => FTxtAt s W1 v i wr) (fun _ i _ => s.size - (intOf i).toNat)
  case atStart => exact ⟨0, Nat.zero_le _, rfl, by simpa [K.escB] using B1.out⟩
  case round =>
    obtain ⟨k, hk, rfl, hb⟩ := hrel
    have hlen := txt_len s k hs
    have cs : wr.cell? ⟨w.heap.size, 2, none⟩ = some (.string s) := hb.since.cellv C1.out (fun e => by simp only at e; omega)
    have hbw : w.heap.size < wr.heap.size := by have := hb.since.size; omega
    have HA := Lib.hid (fun o => (Keeps.refl (fun _ => False) wr).alloc o)
    by_cases hlt : k < s.size
    · have Own := Lib.hid (fun (W : World) (k2 : Qt wr W) => hb.own k2)
      have Fne := Lib.hid (fun (h0 : s[k] ≠ 0) (v' : Value) (w2 w3 : World) (k2 : Qt wr w2) (hg : w2.grownBy w3 _) (hl : Later w2 _ v'.ownBlock) (hown : _) => FTxtAt.ne (w2 := w2) (w3 := w3) (v' := v') hlt hb h0 k2 hg hl hown)
      have Fze := Lib.hid (fun (h0 : s[k] = 0) (v' v2 : Value) (w2 w3 w4 w5 : World) (k2 : Qt wr w2) (hg : w2.grownBy w3 _) (hl : Later w2 _ v'.ownBlock) (hown : _) (k4 : Qt w3 w4) (hg2 : w4.grownBy w5 _) (hl2 : Later w4 _ v2.ownBlock) (hown2 : _) => FTxtAt.zero (w2 := w2) (w3 := w3) (v' := v') (v2 := v2) hlt hb h0 k2 hg hl hown k4 hg2 hl2 hown2)
      have hsk : (s[k].toNat : Int) = 0 ∨ (s[k].toNat : Int) ≠ 0 := by omega
      have Cb := Lib.hid (fun (w2 w3 : World) (k2 : Qt wr w2) (hg : w2.grownBy w3 _) => (Keeps.grown (S := fun b => W1.heap.size ≤ b) (k2.mono (fun _ _ e => e.elim)) hg (fun j hj e => hb.nb.new j e.symm)).cellv cs (fun e => by simp only at e; omega))
      clear hb
      generalize ([2] ++ K.escB (s.data.toList.take k)).length = L at *
      generalize Lib.byteCells ([2] ++ K.escB (s.data.toList.take k)) = C at *
      go_wp2_with (at_builtin; refine wpList_append_cells0 _ rfl _ _ 48 rfl 5 i0 (.int .u8 0) 1 1 Tryd.underlying48 hi hz0 hz1 hz2 rfl (by decide) _ L C rfl (Own.out _ (HA.out _)) ⟨wr.heap.size, 0, none⟩ 1 1 [.int .u8 (s[k].toNat : Nat)] rfl rfl (World.news_of_block (cs := #[.int .u8 (s[k].toNat : Nat)]) (heap_alloc_new wr _)) (by intro u hu; rw [List.mem_singleton.1 hu]; rfl) (by unfold maxLen; omega) (by omega) ?_)
      intro v' w3 hown hg hl _
      have cs3 : w3.cell? ⟨w.heap.size, 2, none⟩ = some (.string s) := Cb.out _ w3 (HA.out _) hg
      have hbw3 := World.block_lt_of_cell? w3 _ cs3
      have Own3 := Lib.hid hown
      have HG := Lib.hid hg
      have HL := Lib.hid hl
      have HA3 := Lib.hid (fun o => (Keeps.refl (fun _ => False) w3).alloc o)
      simp only at hbw3
      clear hown hg hl Own Cb
      by_cases h0 : s[k] = 0
      · have h0b : (((s[k]).toNat : Int) == 0) = true := by rw [h0]; rfl
        have Own4 := Lib.hid (fun o => ownsRow_kept Own3.out (HA3.out o) (fun _ _ e => e))
        have F := Lib.hid (Fze.out h0)
        clear h0 Fne Fze
        go_wp2_with (at_builtin; refine wpList_append_cells0 _ rfl _ _ 48 rfl 5 i0 (.int .u8 0) 1 1 Tryd.underlying48 hi hz0 hz1 hz2 rfl (by decide) _ (L + 1) _ rfl (Own4.out _) ⟨w3.heap.size, 0, none⟩ 1 1 [.int .u8 255] rfl rfl (World.news_of_block (cs := #[.int .u8 255]) (heap_alloc_new w3 _)) (by intro u hu; rw [List.mem_singleton.1 hu]; rfl) (by unfold maxLen; omega) (by omega) ?_)
        intro v2 w5 hown5 hg5 hl5 _
        have fin := Lib.hid (F.out v' v2 _ w3 _ w5 (HA.out _) HG.out HL.out Own3.out (HA3.out _) hg5 hl5 (by rw [List.append_assoc]; exact hown5))
        clear hown5 hg5 hl5 cs3 cs
        go_wp2
        go_roundw
        case rel => exact fin.out
        case measure => simp [intOf]; omega
      · have h0b : (((s[k]).toNat : Int) == 0) = false := by
          rw [beq_eq_false_iff_ne]
          intro e
          exact h0 (UInt8.toNat_inj.1 (by show s[k].toNat = 0; omega))
        have fin := Lib.hid (Fne.out h0 v' _ w3 (HA.out _) HG.out HL.out Own3.out)
        clear h0 Fne Fze
        go_wp2
        go_roundw
        case rel => exact fin.out
        case measure => simp [intOf]; omega
    · obtain rfl : k = s.size := by omega
      have Own := Lib.hid (fun (W : World) (k2 : Qt wr W) => hb.own k2)
      have Fin := Lib.hid (fun (v' : Value) (w2 w3 : World) (k2 : Qt wr w2) (hg : w2.grownBy w3 _) (hl : Later w2 _ v'.ownBlock) (hown : _) => FTxtAt.done (w2 := w2) (w3 := w3) (v' := v') K1.out hb k2 hg hl hown)
      clear hb hlt
      generalize ([2] ++ K.escB (s.data.toList.take s.size)).length = L at *
      generalize Lib.byteCells ([2] ++ K.escB (s.data.toList.take s.size)) = C at *
      go_wp2_with (at_builtin; refine wpList_append_cells0 _ rfl _ _ 48 rfl 5 i0 (.int .u8 0) 1 1 Tryd.underlying48 hi hz0 hz1 hz2 rfl (by decide) _ L C rfl (Own.out _ (HA.out _)) ⟨wr.heap.size, 0, none⟩ 2 2 [.int .u8 0, .int .u8 1] rfl rfl (World.news_of_block (cs := #[.int .u8 0, .int .u8 1]) (heap_alloc_new wr _)) (by intro u hu; simp only [List.mem_cons, List.not_mem_nil, or_false] at hu; rcases hu with rfl | rfl <;> rfl) (by unfold maxLen; omega) (by omega) ?_)
      intro v' w3 hown hg hl _
      have fin := Lib.hid (Fin.out v' _ w3 (HA.out _) hg hl hown)
      clear hown hg hl Own Fin
      go_wp2
      go_ret
      exact ⟨_, rfl, fin.out⟩

theorem form_any (p : PD) (hp : p.Ok) (w : World) : Calls Tryd.prog 27 #[p.val] w fun e w' => ∃ v, e = .returned v ∧ NewBytes w.heap.size w' v (K.formB p.part) ∧ Qt w w' := by
  obtain ⟨b, n, s⟩ := p
  cases b
  · exact form_txt n s w hp.s
  · exact form_num n s w hp.lo hp.hi
end Go.Proofs.YtfhfbpjhjigbnaaDoor
