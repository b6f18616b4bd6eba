/-
  The contract of Image.
-/
import Derived.Test.YtnnkibhlildojaaDoorDNew
import Derived.Test.YtnnkibhlildojaaDoorShelf
namespace Go.Proofs.YtnnkibhlildojaaDoor
open Go.RowKit Go.WideShapes
set_option maxRecDepth 100000

theorem infoBuilderS : (Tryd.prog.info? 73).map (·.size) = some 2 := by kernel_rfl
theorem bcheck_used (b : Nat) (w : World) (h0 : w.cell? ⟨b, 0, none⟩ = some (.pointer (some ⟨b, 0, none⟩))) :
    Calls Tryd.prog 43 #[.pointer (some ⟨b, 0, none⟩)] w fun e w' => e = .returned (.tuple #[]) ∧ w = w' := by
  obtain ⟨j, hj, _⟩ := Option.map_eq_some_iff.1 infoBuilderS
  go_enter Tryd.func43, Tryd.ntmps43
  go_wp2
  rw [Lib.run_neq_ptr_same w _ Tryd.underlying71 hj]
  go_wp2
  go_end0
  exact ⟨rfl, rfl⟩

theorem infoByte3 : (Tryd.prog.info? 5).map (fun i => (i.zero, i.size, i.bytes)) = some (some (.int .u8 0), 1, 1) := by kernel_rfl
theorem neBuilder : 73 ≠ 5 := by decide

theorem bwrite_any (B b : Nat) (bs : List Value) (ad : Addr) (m c : Nat) (news : List Value) (w : World) (h : Lib.BuilderAt 73 5 B b (.pointer (some ⟨b, 0, none⟩)) bs w)
    (hl : news.length = m) (hnews : ∀ j u, news[j]? = some u → w.cell? (ad.add j) = some u) (h1 : ∀ u ∈ news, u.oneCell' = true) (hlen : bs.length + m ≤ 140737488355328) (hBw : B ≤ w.heap.size) :
    Calls Tryd.prog 29 #[.pointer (some ⟨b, 0, none⟩), .slice (some ad) m c] w fun e w' => e = .returned (.tuple #[.int .i64 m, .nilIface]) ∧ Lib.BuilderAt 73 5 B b (.pointer (some ⟨b, 0, none⟩)) (bs ++ news) w' ∧ Below B w w' := by
  obtain ⟨i0, hi, hz0, hz1, hz2⟩ := info_parts infoByte3
  obtain ⟨hB, v, hbk, hown, hne⟩ := h
  have c0 : w.cell? ⟨b, 0, none⟩ = some (.pointer (some ⟨b, 0, none⟩)) := by rw [Lib.cell_of_heap hbk]; rfl
  have c1 : w.cell? ⟨b, 1, none⟩ = some v := by rw [Lib.cell_of_heap hbk]; rfl
  go_enter Tryd.func29, Tryd.ntmps29
  go_wp2_with fail
  refine (bcheck_used b w c0).mono ?_
  rintro e w1 ⟨rfl, rfl⟩
  go_wp2_with (at_builtin; refine wpList_append_own _ rfl _ _ 64 rfl B 5 i0 (.int .u8 0) 1 1 Tryd.underlying64 hi hz0 hz1 hz2 rfl (by decide) _ _ _ rfl hown ad m c news rfl (by omega) hnews h1 ?c3 ?c4 ?c5 ?_)
  case c3 => unfold maxLen; omega
  case c4 => omega
  case c5 => omega
  intro v' w2 hown' hgrow _
  have hlt := lt_of_block hbk
  have hb2 : w2.heap[b]? = some (.cells #[.pointer (some ⟨b, 0, none⟩), v] 73 (0, 0)) := by
    rw [hgrow.block b hlt (fun e => hne e.symm)]
    exact hbk
  have d0 : w2.cell? ⟨b, 0, none⟩ = some (.pointer (some ⟨b, 0, none⟩)) := by rw [Lib.cell_of_heap hb2]; rfl
  have d1 : w2.cell? ⟨b, 1, none⟩ = some v := by rw [Lib.cell_of_heap hb2]; rfl
  have f1 : w2.frozen? ⟨b, 1, none⟩ = false := Lib.frozen_of_heap hb2 1
  obtain ⟨ao, n', cap, rfl⟩ : ∃ ao n' cap, v' = .slice ao n' cap := by
    rcases hown'.2 with ⟨hv, _⟩ | ⟨g, cap, cur, hv, _⟩
    · exact ⟨_, _, _, hv⟩
    · exact ⟨_, _, _, hv⟩
  go_wp2
  go_ret2
  refine ⟨rfl, ?_, ?_⟩
  · exact Lib.BuilderAt.put (T := 73) (e := 5) hB hb2 (bs' := bs ++ news) (by simpa [hl] using hown') neBuilder
  · exact ((Below.refl B w).grown hgrow hBw (fun k hk => (hown.lt k hk).1)).setCell (p := ⟨b, 1, none⟩) hB _

/-- The state of Image's loop. -/
def ImageAt (w : World) (D : List (List UInt8)) (v : Value) (wr : World) : Prop :=
  ∃ k : Nat, k ≤ D.length ∧ v = .int .i64 k ∧ Lib.BuilderAt 73 5 w.heap.size w.heap.size (.pointer (some ⟨w.heap.size, 0, none⟩)) (Lib.byteCells (D.take k).flatten) wr ∧ Below w.heap.size w wr

theorem flat_succ {D : List (List UInt8)} {k : Nat} {s : List UInt8} (h : D[k]? = some s) : (D.take (k + 1)).flatten = (D.take k).flatten ++ s := by
  rw [List.take_add_one, h]; simp
theorem flat_len {D : List (List UInt8)} (h : ∀ (i : Nat) (t : List UInt8), D[i]? = some t → t.length = 256) : ∀ k, k ≤ D.length → (D.take k).flatten.length = k * 256
  | 0, _ => by simp
  | k + 1, hk => by
    have hx : D[k]? = some D[k] := List.getElem?_eq_getElem (by omega)
    rw [flat_succ hx, List.length_append, flat_len h k (by omega), h k _ hx]; omega

section
variable {w : World} {b gd mb : Nat} {uv : Value} {d : DS}

set_option maxHeartbeats 1600000 in
theorem image_p (h : DiskP w b gd mb uv d) :
    Calls Tryd.prog 14 #[.pointer (some ⟨b, 0, none⟩)] w fun e w' => e = .returned (.string ⟨d.image.toArray⟩) ∧ Qt w w' := by
  have hle := h.ok.le
  have hpos := h.ok.pos
  have q1 := (Qt.refl w).alloc (.cells #[.pointer none, .slice none 0 0] 73)
  have hbk := heap_alloc_new w (.cells #[.pointer none, .slice none 0 0] 73)
  have c0 : (w.alloc (.cells #[.pointer none, .slice none 0 0] 73)).cell? ⟨b, 0, none⟩ = some (.slice (some ⟨gd, 0, none⟩) d.dur.length d.dur.length) := Qt.cellv q1 (h.cell 0 (.slice (some ⟨gd, 0, none⟩) d.dur.length d.dur.length) rfl)
  have HE := Lib.hid (fun (k : Nat) (hk : k < d.dur.length) => (List.getElem?_eq_getElem hk : d.dur[k]? = some d.dur[k]))
  have HL := Lib.hid (fun k hk => flat_len h.ok.each k hk)
  have H0 := Lib.hid (fun W (B : Below w.heap.size w W) => (h.kept (Qt.of_below B) (fun _ _ e => e)))
  have HC := Lib.hid (fun W (B : Below w.heap.size w W) => ((h.kept (Qt.of_below B) (fun _ _ e => e)).cell 0 (.slice (some ⟨gd, 0, none⟩) d.dur.length d.dur.length) rfl))
  have HI := Lib.hid (show d.image = d.dur.flatten from rfl)
  have HEA := Lib.hid h.ok.each
  have B0 := Lib.hid ((Below.refl w.heap.size w).alloc (Nat.le_refl _) (.cells #[.pointer none, .slice none 0 0] 73))
  have HBK := Lib.hid hbk
  clear q1 h hbk
  go_enter Tryd.func14, Tryd.ntmps14
  go_wp2_with fail
  refine (Tryd.Builder_Grow_fresh w.heap.size w.heap.size (d.dur.length * 256) _ (Nat.le_refl _) HBK.out (by simp) (by omega)).mono ?_
  rintro e w1 ⟨rfl, hb1, hB1⟩
  have hB2 := B0.out.trans hB1
  have c1 := HC.out w1 hB2
  have HB1 := Lib.hid hb1
  have HB2 := Lib.hid hB2
  clear hb1 hB1 hB2 c0
  go_wp2
  go_loopw [17] (fun v wr => ImageAt w d.dur v wr) (fun v _ => d.dur.length - (intOf v).toNat)
  case atStart => exact ⟨0, Nat.zero_le _, rfl, HB1.out, HB2.out⟩
  case round =>
    obtain ⟨k, hk, rfl, hbr, hBr⟩ := hrel
    by_cases hlt : k < d.dur.length
    · have hx := HE.out k hlt
      have hP := H0.out wr hBr
      have c2 := HC.out wr hBr
      have hln := HEA.out k _ hx
      have hrg := hP.dur.rng k _ hx
      have hz := hBr.size
      generalize d.dur[k] = s at *
      have HW := Lib.hid (bwrite_any w.heap.size w.heap.size _ ⟨gd, k * 256, none⟩ 256 256 (Lib.byteCells s) wr hbr (by rw [Lib.byteCells_length]; exact hln) (fun j u hj => by rw [add_plain]; exact hrg j u hj) (byteCells_one1 s) (by rw [Lib.byteCells_length, HL.out k hk]; omega) hz)
      have HX := Lib.hid hx
      have HBR := Lib.hid hBr
      clear hx hP hln hrg hbr hBr
      go_wp2_with fail
      refine HW.out.mono ?_
      rintro e w2 ⟨rfl, hb2, hB2⟩
      have FIN := Lib.hid (show ImageAt w d.dur (.int .i64 ((k : Int) + 1)) w2 from ⟨k + 1, hlt, by simp, by rw [flat_succ HX.out, Lib.byteCells_append]; exact hb2, HBR.out.trans hB2⟩)
      clear hb2 hB2
      go_wp2
      go_roundw
      case rel => exact FIN.out
      case measure => simp [intOf]; omega
    · obtain rfl : k = d.dur.length := by omega
      have hz := hBr.size
      have HS := Lib.hid (Tryd.Builder_String_any w.heap.size w.heap.size _ wr (.inr hbr) hz)
      have HBR := Lib.hid hBr
      clear hbr hBr hlt
      go_wp2_with fail
      refine HS.out.mono ?_
      rintro e w2 ⟨rfl, hB2⟩
      have FIN := Lib.hid (Qt.of_below (HBR.out.trans hB2))
      clear hB2
      go_wp2
      go_ret
      exact ⟨by rw [HI.out]; rfl, FIN.out⟩
end

theorem image_any (w : World) (b : Nat) (d : DS) (S : Nat → Prop) (h : DiskAt w b d S) :
    Calls Tryd.prog 14 #[.pointer (some ⟨b, 0, none⟩)] w fun e w' => e = .returned (.string ⟨d.image.toArray⟩) ∧ Qt w w' := by
  obtain ⟨gd, mb, uv, h, hS⟩ := h
  exact image_p h
end Go.Proofs.YtnnkibhlildojaaDoor
