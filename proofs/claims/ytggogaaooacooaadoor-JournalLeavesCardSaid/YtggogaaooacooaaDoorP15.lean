/-
  The contract of Image.
  A disk's contracts by its blocks.
  A sector of zeros, made and converted.
-/
import Derived.Test.YtggogaaooacooaaDoorP14
namespace Go.Proofs.YtggogaaooacooaaDoor
open Go.RowKit Go.WideShapes
set_option maxRecDepth 100000

theorem infoBuilderS : (Tryd.prog.info? 98).map (·.size) = some 2 := by kernel_rfl
theorem bcheck_used (b : Nat) (w : World) (h0 : w.cell? ⟨b, 0, none⟩ = some (.pointer (some ⟨b, 0, none⟩))) :
    Calls Tryd.prog 71 #[.pointer (some ⟨b, 0, none⟩)] w fun e w' => e = .returned (.tuple #[]) ∧ w = w' := by
  obtain ⟨j, hj, _⟩ := Option.map_eq_some_iff.1 infoBuilderS
  go_enter Tryd.func71, Tryd.ntmps71
  go_wp2
  rw [Lib.run_neq_ptr_same w _ Tryd.underlying96 hj]
  go_wp2
  go_end0
  exact ⟨rfl, rfl⟩

theorem infoByte3 : (Tryd.prog.info? 5).map (fun i => (i.zero, i.size, i.bytes)) = some (some (.int .u8 0), 1, 1) := by kernel_rfl
theorem neBuilder : 98 ≠ 5 := by decide

theorem bwrite_any (B b : Nat) (bs : List Value) (ad : Addr) (m c : Nat) (news : List Value) (w : World) (h : Lib.BuilderAt 98 5 B b (.pointer (some ⟨b, 0, none⟩)) bs w)
    (hl : news.length = m) (hnews : ∀ j u, news[j]? = some u → w.cell? (ad.add j) = some u) (h1 : ∀ u ∈ news, u.oneCell' = true) (hlen : bs.length + m ≤ 140737488355328) (hBw : B ≤ w.heap.size) :
    Calls Tryd.prog 46 #[.pointer (some ⟨b, 0, none⟩), .slice (some ad) m c] w fun e w' => e = .returned (.tuple #[.int .i64 m, .nilIface]) ∧ Lib.BuilderAt 98 5 B b (.pointer (some ⟨b, 0, none⟩)) (bs ++ news) w' ∧ Below B w w' := by
  obtain ⟨i0, hi, hz0, hz1, hz2⟩ := info_parts infoByte3
  obtain ⟨hB, v, hbk, hown, hne⟩ := h
  have c0 : w.cell? ⟨b, 0, none⟩ = some (.pointer (some ⟨b, 0, none⟩)) := by rw [Lib.cell_of_heap hbk]; rfl
  have c1 : w.cell? ⟨b, 1, none⟩ = some v := by rw [Lib.cell_of_heap hbk]; rfl
  go_enter Tryd.func46, Tryd.ntmps46
  go_wp2_with fail
  refine (bcheck_used b w c0).mono ?_
  rintro e w1 ⟨rfl, rfl⟩
  go_wp2_with (at_builtin; refine wpList_append_own _ rfl _ _ 75 rfl B 5 i0 (.int .u8 0) 1 1 Tryd.underlying75 hi hz0 hz1 hz2 rfl (by decide) _ _ _ rfl hown ad m c news rfl (by omega) hnews h1 ?c3 ?c4 ?c5 ?_)
  case c3 => unfold maxLen; omega
  case c4 => omega
  case c5 => omega
  intro v' w2 hown' hgrow _
  have hlt := lt_of_block hbk
  have hb2 : w2.heap[b]? = some (.cells #[.pointer (some ⟨b, 0, none⟩), v] 98 (0, 0)) := by
    rw [hgrow.block b hlt (fun e => hne e.symm)]
    exact hbk
  have d0 : w2.cell? ⟨b, 0, none⟩ = some (.pointer (some ⟨b, 0, none⟩)) := by rw [Lib.cell_of_heap hb2]; rfl
  have d1 : w2.cell? ⟨b, 1, none⟩ = some v := by rw [Lib.cell_of_heap hb2]; rfl
  have f1 : w2.frozen? ⟨b, 1, none⟩ = false := Lib.frozen_of_heap hb2 1
  obtain ⟨ao, n', cap, rfl⟩ : ∃ ao n' cap, v' = .slice ao n' cap := by
    rcases hown'.2 with ⟨hv, _⟩ | ⟨g, cap, cur, hv, _⟩
    · exact ⟨_, _, _, hv⟩
    · exact ⟨_, _, _, hv⟩
  go_wp2
  go_ret2
  refine ⟨rfl, ?_, ?_⟩
  · exact Lib.BuilderAt.put (T := 98) (e := 5) hB hb2 (bs' := bs ++ news) (by simpa [hl] using hown') neBuilder
  · exact ((Below.refl B w).grown hgrow hBw (fun k hk => (hown.lt k hk).1)).setCell (p := ⟨b, 1, none⟩) hB _

/-- The state of Image's loop. -/
def ImageAt (w : World) (D : List (List UInt8)) (v : Value) (wr : World) : Prop :=
  ∃ k : Nat, k ≤ D.length ∧ v = .int .i64 k ∧ Lib.BuilderAt 98 5 w.heap.size w.heap.size (.pointer (some ⟨w.heap.size, 0, none⟩)) (Lib.byteCells (D.take k).flatten) wr ∧ Below w.heap.size w wr

theorem flat_succ {D : List (List UInt8)} {k : Nat} {s : List UInt8} (h : D[k]? = some s) : (D.take (k + 1)).flatten = (D.take k).flatten ++ s := by
  rw [List.take_add_one, h]; simp
theorem flat_len {D : List (List UInt8)} (h : ∀ (i : Nat) (t : List UInt8), D[i]? = some t → t.length = 256) : ∀ k, k ≤ D.length → (D.take k).flatten.length = k * 256
  | 0, _ => by simp
  | k + 1, hk => by
    have hx : D[k]? = some D[k] := List.getElem?_eq_getElem (by omega)
    rw [flat_succ hx, List.length_append, flat_len h k (by omega), h k _ hx]; omega

section
variable {w : World} {b gd mb : Nat} {uv : Value} {d : DS}

set_option maxHeartbeats 1600000 in
theorem image_p (h : DiskP w b gd mb uv d) :
    Calls Tryd.prog 13 #[.pointer (some ⟨b, 0, none⟩)] w fun e w' => e = .returned (.string ⟨d.image.toArray⟩) ∧ Qt w w' := by
  have hle := h.ok.le
  have hpos := h.ok.pos
  have q1 := (Qt.refl w).alloc (.cells #[.pointer none, .slice none 0 0] 98)
  have hbk := heap_alloc_new w (.cells #[.pointer none, .slice none 0 0] 98)
  have c0 : (w.alloc (.cells #[.pointer none, .slice none 0 0] 98)).cell? ⟨b, 0, none⟩ = some (.slice (some ⟨gd, 0, none⟩) d.dur.length d.dur.length) := Qt.cellv q1 (h.cell 0 (.slice (some ⟨gd, 0, none⟩) d.dur.length d.dur.length) rfl)
  have HE := Lib.hid (fun (k : Nat) (hk : k < d.dur.length) => (List.getElem?_eq_getElem hk : d.dur[k]? = some d.dur[k]))
  have HL := Lib.hid (fun k hk => flat_len h.ok.each k hk)
  have H0 := Lib.hid (fun W (B : Below w.heap.size w W) => (h.kept (Qt.of_below B) (fun _ _ e => e)))
  have HC := Lib.hid (fun W (B : Below w.heap.size w W) => ((h.kept (Qt.of_below B) (fun _ _ e => e)).cell 0 (.slice (some ⟨gd, 0, none⟩) d.dur.length d.dur.length) rfl))
  have HI := Lib.hid (show d.image = d.dur.flatten from rfl)
  have HEA := Lib.hid h.ok.each
  have B0 := Lib.hid ((Below.refl w.heap.size w).alloc (Nat.le_refl _) (.cells #[.pointer none, .slice none 0 0] 98))
  have HBK := Lib.hid hbk
  clear q1 h hbk
  go_enter Tryd.func13, Tryd.ntmps13
  go_wp2_with fail
  refine (Tryd.Builder_Grow_fresh w.heap.size w.heap.size (d.dur.length * 256) _ (Nat.le_refl _) HBK.out (by simp) (by omega)).mono ?_
  rintro e w1 ⟨rfl, hb1, hB1⟩
  have hB2 := B0.out.trans hB1
  have c1 := HC.out w1 hB2
  have HB1 := Lib.hid hb1
  have HB2 := Lib.hid hB2
  clear hb1 hB1 hB2 c0
  go_wp2
  go_loopw [17] (fun v wr => ImageAt w d.dur v wr) (fun v _ => d.dur.length - (intOf v).toNat)
  case atStart => exact ⟨0, Nat.zero_le _, rfl, HB1.out, HB2.out⟩
  case round =>
    obtain ⟨k, hk, rfl, hbr, hBr⟩ := hrel
    by_cases hlt : k < d.dur.length
    · have hx := HE.out k hlt
      have hP := H0.out wr hBr
      have c2 := HC.out wr hBr
      have hln := HEA.out k _ hx
      have hrg := hP.dur.rng k _ hx
      have hz := hBr.size
      generalize d.dur[k] = s at *
      have HW := Lib.hid (bwrite_any w.heap.size w.heap.size _ ⟨gd, k * 256, none⟩ 256 256 (Lib.byteCells s) wr hbr (by rw [Lib.byteCells_length]; exact hln) (fun j u hj => by rw [add_plain]; exact hrg j u hj) (byteCells_one1 s) (by rw [Lib.byteCells_length, HL.out k hk]; omega) hz)
      have HX := Lib.hid hx
      have HBR := Lib.hid hBr
      clear hx hP hln hrg hbr hBr
      go_wp2_with fail
      refine HW.out.mono ?_
      rintro e w2 ⟨rfl, hb2, hB2⟩
      have FIN := Lib.hid (show ImageAt w d.dur (.int .i64 ((k : Int) + 1)) w2 from ⟨k + 1, hlt, by simp, by rw [flat_succ HX.out, Lib.byteCells_append]; exact hb2, HBR.out.trans hB2⟩)
      clear hb2 hB2
      go_wp2
      go_roundw
      case rel => exact FIN.out
      case measure => simp [intOf]; omega
    · obtain rfl : k = d.dur.length := by omega
      have hz := hBr.size
      have HS := Lib.hid (Tryd.Builder_String_any w.heap.size w.heap.size _ wr (.inr hbr) hz)
      have HBR := Lib.hid hBr
      clear hbr hBr hlt
      go_wp2_with fail
      refine HS.out.mono ?_
      rintro e w2 ⟨rfl, hB2⟩
      have FIN := Lib.hid (Qt.of_below (HBR.out.trans hB2))
      clear hB2
      go_wp2
      go_ret
      exact ⟨by rw [HI.out]; rfl, FIN.out⟩
end

theorem image_any (w : World) (b : Nat) (d : DS) (S : Nat → Prop) (h : DiskAt w b d S) :
    Calls Tryd.prog 13 #[.pointer (some ⟨b, 0, none⟩)] w fun e w' => e = .returned (.string ⟨d.image.toArray⟩) ∧ Qt w w' := by
  obtain ⟨gd, mb, uv, h, hS⟩ := h
  exact image_p h
end Go.Proofs.YtggogaaooacooaaDoor
namespace Go.Proofs.YtggogaaooacooaaDoor
open Go.RowKit Go.WideShapes
set_option maxRecDepth 100000

section
variable {w : World} {b : Nat} {d : DS} {S : Nat → Prop}
theorem off_any (h : DiskAt w b d S) : Calls Tryd.prog 56 #[.pointer (some ⟨b, 0, none⟩)] w fun e w' => e = .returned (.bool d.off) ∧ w = w' := by
  obtain ⟨gd, mb, uv, h, hS⟩ := h; exact off_p h
theorem size_any (h : DiskAt w b d S) : Calls Tryd.prog 74 #[.pointer (some ⟨b, 0, none⟩)] w fun e w' => e = .returned (.int .i64 d.dur.length) ∧ w = w' := by
  obtain ⟨gd, mb, uv, h, hS⟩ := h; exact size_p h
theorem pending_any (h : DiskAt w b d S) : Calls Tryd.prog 18 #[.pointer (some ⟨b, 0, none⟩)] w fun e w' => e = .returned (.int .i64 d.ways.length) ∧ w = w' := by
  obtain ⟨gd, mb, uv, h, hS⟩ := h; exact pending_p h
theorem counts_any (h : DiskAt w b d S) : Calls Tryd.prog 27 #[.pointer (some ⟨b, 0, none⟩)] w fun e w' => e = .returned (.tuple #[.int .i64 d.wr, .int .i64 d.fl]) ∧ Qt w w' := by
  obtain ⟨gd, mb, uv, h, hS⟩ := h
  refine (counts_p h).mono ?_
  rintro e w' ⟨he, n, rfl⟩
  exact ⟨he, (Qt.refl w).drewN n⟩
theorem arm_any (h : DiskAt w b d S) (k : Int) (hk : k ≤ 9223372036854775807) : Calls Tryd.prog 36 #[.pointer (some ⟨b, 0, none⟩), .int .i64 k] w fun e w' => e = .returned (.tuple #[]) ∧ DiskAt w' b (d.armD k) (Grow S w w') ∧ Keeps S w w' := by
  obtain ⟨gd, mb, uv, h, hS⟩ := h
  refine (arm_p h k hk).mono ?_
  rintro e w' ⟨he, hP, hK⟩
  exact ⟨he, ⟨gd, mb, uv, hP, fun j hj => .inl (hS j hj)⟩, hK.mono (fun j _ e => by subst e; exact hS j (.inl rfl))⟩
end

/-- A disk of the call's own: all its blocks are new since B. -/
def Own (B : Nat) (w : World) (b : Nat) (d : DS) : Prop := DiskAt w b d (fun k => B ≤ k)
theorem Own.grow {B : Nat} {w w' : World} {b : Nat} {d : DS} {S : Nat → Prop} (hB : B ≤ w.heap.size) (hS : ∀ k, S k → B ≤ k) (h : DiskAt w' b d (Grow S w w')) : Own B w' b d := h.mono (fun k hk => by rcases hk with hk | ⟨hk, _⟩; exact hS k hk; omega)
theorem Own.qt {B : Nat} {w w' : World} {b : Nat} {d : DS} (h : Own B w b d) (q : Qt w w') : Own B w' b d := DiskAt.qt h q
end Go.Proofs.YtggogaaooacooaaDoor
namespace Go.Proofs.YtggogaaooacooaaDoor
open Go.RowKit Go.WideShapes
set_option maxRecDepth 100000

theorem make_bytes (W : World) : (Instr.makeSlice 75 (.int .i64 256) (.int .i64 256)).run Tryd.prog W = .ok (.slice (some ⟨W.heap.size, 0, none⟩) 256 256) (W.alloc (.cells (madeCells #[Value.int .u8 0] 256) 5)) := by
  obtain ⟨i, hi, hz, hs, hb⟩ := info_parts infoByte3
  have hr := run_make (P := Tryd.prog) W 75 5 i _ Tryd.underlying75 hi hz .i64 .i64 256 256 (by omega) (by omega) (by rw [hb]; omega) (by omega)
  rw [hs] at hr
  exact hr
theorem made_zero {j : Nat} (h : j < 256) : (madeCells #[Value.int .u8 0] 256)[j]? = some (.int .u8 0) := by
  unfold madeCells
  rw [Array.getElem?_map, Array.getElem?_range, if_pos h]
  simp [Nat.mod_one]
theorem zero_range {W : World} {g : Nat} (h : W.heap[g]? = some (.cells (madeCells #[Value.int .u8 0] 256) 5 (0, 0))) : W.rangeAt g 0 (Lib.byteCells zeros) := by
  intro j v hj
  have hj2 : j < 256 := by have := (List.getElem?_eq_some_iff.1 hj).1; rw [Lib.byteCells_length] at this; simpa [zeros] using this
  have hb : Lib.byteCells zeros = List.replicate 256 (.int .u8 0) := by simp only [Lib.byteCells, zeros, List.map_replicate]; rfl
  rw [hb, List.getElem?_replicate, if_pos hj2] at hj
  rw [cell_of_row W g _ _ _ _ h, Nat.zero_add, made_zero hj2]
  exact hj
theorem conv_zero {W : World} {g : Nat} (h : W.heap[g]? = some (.cells (madeCells #[Value.int .u8 0] 256) 5 (0, 0))) : (convert 75 9 (.slice (some ⟨g, 0, none⟩) 256 256)).run Tryd.prog W = .ok (.string ⟨zeros.toArray⟩) W :=
  conv_at (zero_range h) 256 256 (by simp [zeros])
theorem conv_kept (W W' : World) (k : Qt (W.alloc (.cells (madeCells #[Value.int .u8 0] 256) 5)) W') : (convert 75 9 (.slice (some ⟨W.heap.size, 0, none⟩) 256 256)).run Tryd.prog W' = .ok (.string ⟨zeros.toArray⟩) W' :=
  conv_zero ((k.block _ (by simp) (fun e => e)).trans (heap_alloc_new W _))
theorem strL_mk (l : List UInt8) : strL ⟨l.toArray⟩ = l := rfl
end Go.Proofs.YtggogaaooacooaaDoor
