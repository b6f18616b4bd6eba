/-
  A new row of bytes (its block may bear a mark), grown by bytes, by texts, by rows; 'string(b)' of it.
  The document's own batch: the contract of number: a varint.
-/
import Derived.Test.YtffjleceogablaaDoorP04
import Derived.Laws.BytesArg
import Derived.WideShapes
import Derived.Test.YtffjleceogablaaDoorP02
import Derived.Test.YtffjleceogablaaDoorP08
import Derived.LoopTactic
namespace Go.Proofs.YtffjleceogablaaDoor
open Go.RowKit Go.WideShapes
set_option maxRecDepth 100000

theorem infoU8F : (Tryd.prog.info? 5).map (fun i => (i.zero, i.size, i.bytes)) = some (some (.int .u8 0), 1, 1) := by kernel_rfl
/-- A row of bytes that holds l, in a block that was not there at w; nothing of w has turned. -/
structure NewF (w wr : World) (v : Value) (l : List UInt8) : Prop where
  own : wr.ownsRowF 0 5 1 v l.length (Lib.byteCells l)
  new : ∀ g, v.ownBlock = some g → w.heap.size ≤ g
  qt : Qt w wr
theorem NewF.nil (w : World) : NewF w w (.slice none 0 0) [] := ⟨World.ownsRowF_nil _ _ _ _, fun g h => by simp [Value.ownBlock] at h, Qt.refl w⟩
theorem NewF.quiet {w wr w2 : World} {v : Value} {l : List UInt8} (h : NewF w wr v l) (k : Qt wr w2) : NewF w w2 v l := ⟨ownsRowF_kept h.own k (fun _ _ e => e), h.new, Qt.trans h.qt k⟩
theorem NewF.turn {w wr w2 : World} {S : Nat → Prop} {v : Value} {l : List UInt8} (h : NewF w wr v l) (k : Keeps S wr w2) (h1 : ∀ g, S g → w.heap.size ≤ g) (h2 : ∀ g, S g → v.ownBlock ≠ some g) : NewF w w2 v l :=
  ⟨ownsRowF_kept h.own k (fun g e s => h2 g s e), h.new, Keeps.trans h.qt k (fun i hi s => by have := h1 i s; omega)⟩
theorem NewF.since {w W y : World} {v : Value} {l : List UInt8} (q : Qt w W) (h : NewF W y v l) : NewF w y v l := ⟨h.own, fun g e => Nat.le_trans q.size (h.new g e), Qt.trans q h.qt⟩
theorem NewF.more {w wr w2 w3 : World} {v v' : Value} {l k : List UInt8} {n : Nat} {xs : List Value} (h : NewF w wr v l) (k2 : Qt wr w2) (hn : n = (l ++ k).length) (hx : xs = Lib.byteCells (l ++ k)) (hown : w3.ownsRowF 0 5 1 v' n xs) (hg : w2.grownBy w3 v.ownBlock) (hl : Later w2 v.ownBlock v'.ownBlock) :
    NewF w w3 v' (l ++ k) ∧ Keeps (fun g => v.ownBlock = some g) wr w3 := by
  have h0 := h.qt.size
  have h2 := k2.size
  refine ⟨⟨by rw [← hn, ← hx]; exact hown, fun g hg' => ?_, Keeps.grown (Qt.trans h.qt k2) hg (fun j hj e => by have := h.new j e.symm; omega)⟩, Keeps.grown (k2.mono (fun _ _ e => e.elim)) hg (fun j _ e => e.symm)⟩
  rcases hl with e | ⟨g', e, hge⟩
  · exact h.new g (e ▸ hg')
  · rw [e] at hg'; injection hg' with hg'; omega
theorem NewF.shape {w wr : World} {v : Value} {l : List UInt8} (h : NewF w wr v l) : ∃ a c, v = .slice a l.length c ∧ (l ≠ [] → ∃ g, a = some ⟨g, 0, none⟩) := by
  rcases h.own.2 with ⟨e, h0⟩ | ⟨g, cap, cur, fz, e, _⟩
  · exact ⟨none, 0, by rw [e, h0], fun hne => absurd (List.eq_nil_of_length_eq_zero h0) hne⟩
  · exact ⟨_, _, e, fun _ => ⟨g, rfl⟩⟩
theorem NewF.shapeN {w wr : World} {v : Value} {l : List UInt8} (h : NewF w wr v l) : ∃ a n c, v = .slice a n c ∧ n = l.length ∧ wr.ownsRowF 0 5 1 v n (Lib.byteCells l) := by
  obtain ⟨a, c, e, _⟩ := h.shape
  exact ⟨a, _, c, e, rfl, h.own⟩
/-- Its cells, as a list to append. -/
theorem NewF.news {w wr : World} {g c : Nat} {l : List UInt8} (h : NewF w wr (.slice (some ⟨g, 0, none⟩) l.length c) l) : ∀ (j : Nat) (u : Value), (Lib.byteCells l)[j]? = some u → wr.cell? ((⟨g, 0, none⟩ : Addr).add j) = some u := h.own.cells (g := g) rfl
theorem byteCells_one (l : List UInt8) : ∀ u ∈ Lib.byteCells l, u.oneCell' = true := by
  intro u hu
  unfold Lib.byteCells at hu
  obtain ⟨b, _, rfl⟩ := List.mem_map.1 hu
  rfl
theorem byteCells_len (l : List UInt8) : (Lib.byteCells l).length = l.length * 1 := by simp [Lib.byteCells]
theorem byteCells_app (l m : List UInt8) : Lib.byteCells (l ++ m) = Lib.byteCells l ++ Lib.byteCells m := by simp [Lib.byteCells]
theorem strCells_of (s : ByteArray) : Lib.strCells s = Lib.byteCells s.data.toList := rfl
theorem strOfNumsF (l : List UInt8) : strOfNums (l.map fun b => ((b.toNat : Nat) : Int)) = ⟨l.toArray⟩ := by
  unfold strOfNums
  rw [List.map_map]
  congr 2
  conv => rhs; rw [← List.map_id l]
  apply List.map_congr_left
  intro b _
  simp
/-- 'string(b)' of it. -/
theorem NewF.conv {w wr : World} {v : Value} {l : List UInt8} (h : NewF w wr v l) : (convert 72 9 v).run Tryd.prog wr = .ok (.string ⟨l.toArray⟩) wr := by
  rcases h.own.2 with ⟨rfl, h0⟩ | ⟨g, cap, cur, fz, rfl, _⟩
  · obtain rfl : l = [] := List.eq_nil_of_length_eq_zero h0
    exact run_convert_bytes_nil (P := Tryd.prog) wr 72 5 Tryd.underlying72 Tryd.underlying5 0 0 9 Tryd.underlying9
  · have h1 := run_convert_bytes_arg (P := Tryd.prog) wr 72 5 Tryd.underlying72 Tryd.underlying5 g 0 l.length cap (l.map fun b => ((b.toNat : Nat) : Int)) (by simp) (fun i hi => by
      have h2 := h.own.cells (g := g) rfl i (.int .u8 (l[i].toNat)) (by simp [Lib.byteCells, hi])
      rw [add_plain] at h2
      rw [h2]
      simp [List.getD, hi]) 9 Tryd.underlying9
    rw [strOfNumsF] at h1
    exact h1
theorem byte_new0 (W : World) : NewF W (W.alloc (.cells #[] 5)) (.slice (some ⟨W.heap.size, 0, none⟩) 0 0) [] :=
  ⟨⟨rfl, .inr ⟨W.heap.size, 0, #[], (0, 0), rfl, Nat.zero_le _, heap_alloc_new W _, Nat.zero_le _, Nat.le_refl _, by decide, rfl, rfl⟩⟩, fun g e => by injection e with e; subst e; exact Nat.le_refl _, (Qt.refl W).alloc _⟩
end Go.Proofs.YtffjleceogablaaDoor
namespace Go.Proofs.YtffjleceogablaaDoor
open Go.RowKit Go.WideShapes
set_option maxRecDepth 100000

def NuAt (w : World) (x : Nat) (xv ov : Value) (wr : World) : Prop := ∃ (y : Nat) (pre : List UInt8), y ≤ x ∧ xv = .int .i64 y ∧ NewF w wr ov pre ∧ Lib.uvarint x = pre ++ Lib.uvarint y
theorem nu_big {x y : Nat} {pre : List UInt8} (h : Lib.uvarint x = pre ++ Lib.uvarint y) (hy : 128 ≤ y) : Lib.uvarint x = (pre ++ [(y % 128 + 128).toUInt8]) ++ Lib.uvarint (y / 128) := by
  rw [h, Lib.uvarint_big hy]
  simp
theorem nu_small {x y : Nat} {pre : List UInt8} (h : Lib.uvarint x = pre ++ Lib.uvarint y) (hy : y < 128) : Lib.uvarint x = pre ++ [y.toUInt8] := by
  rw [h, Lib.uvarint_small hy]
theorem nu_len {x y : Nat} {pre : List UInt8} (h : Lib.uvarint x = pre ++ Lib.uvarint y) (hx : x < 18446744073709551616) : pre.length + 1 ≤ 10 := by
  have h1 := Lib.uvarint_length64 hx
  have h2 : 1 ≤ (Lib.uvarint y).length := by
    by_cases hy : y < 128
    · rw [Lib.uvarint_small hy]; simp
    · rw [Lib.uvarint_big (by omega)]; simp
  rw [h, List.length_append] at h1
  omega
theorem byteCell1 (c : Nat) (h : c < 256) : Lib.byteCells [c.toUInt8] = [.int .u8 (c : Int)] := by
  simp [Lib.byteCells]
  omega
set_option maxHeartbeats 1600000 in
theorem rnumber12_any (x : Nat) (w : World) (hx : x ≤ 9223372036854775807) :
    Calls Tryd.prog 38 #[.int .i64 x] w fun e w' => ∃ v', e = .returned v' ∧ NewF w w' v' (Lib.uvarint x) := by
  obtain ⟨i0, hi0, hz0, hz1, hz2⟩ := info_parts infoU8F
  have START := Lib.hid (show NuAt w x (.int .i64 x) (.slice (some ⟨w.heap.size, 0, none⟩) 0 0) (w.alloc (.cells #[] 5)) from ⟨x, [], Nat.le_refl _, rfl, byte_new0 w, rfl⟩)
  have HX := Lib.hid hx
  clear hx
  go_enter Tryd.func38, Tryd.ntmps38
  go_wp2
  go_loopw [0, 3] (fun xv ov wr => NuAt w x xv ov wr) (fun xv _ _ => (intOf xv).toNat)
  case atStart => exact START.out
  case round =>
    obtain ⟨y, pre, hy, rfl, N, hu⟩ := hrel
    obtain ⟨oa, oc, rfl, nx⟩ := N.shape
    clear nx
    have HN := Lib.hid N
    have HU := Lib.hid hu
    have HL := Lib.hid (nu_len hu (by have := HX.out; omega))
    have hb1 : pre.length + 1 ≤ maxLen := by have := HL.out; unfold maxLen; omega
    have hb2 : (pre.length + 1) * 1 ≤ 140737488355328 := by have := HL.out; omega
    have OW := Lib.hid (fun o => ownsRowF_kept HN.out.own ((Keeps.refl (fun _ => False) wr).alloc o) (fun _ _ e => e))
    clear N hu START
    by_cases hb : 128 ≤ y
    · have zge : decide ((y : Int) ≥ 128) = true := decide_eq_true (by omega)
      have zge' : decide ((128 : Int) ≤ (y : Int)) = true := decide_eq_true (by omega)
      have zge2 : decide (128 ≤ y) = true := decide_eq_true hb
      have HY := Lib.hid hy
      have HB := Lib.hid hb
      have hbc : [Value.int .u8 ((y : Int) % 128 + 128)] = Lib.byteCells [(y % 128 + 128).toUInt8] := by rw [byteCell1 _ (by omega)]; push_cast; rfl
      have HBC := Lib.hid hbc
      clear hb hy hbc
      go_wp2_with (at_builtin; refine wpList_append_cellsF _ rfl _ _ 72 rfl 5 i0 (.int .u8 0) 1 1 Tryd.underlying72 hi0 hz0 hz1 hz2 rfl (by decide) _ pre.length (Lib.byteCells pre) rfl (OW.out _) ⟨wr.heap.size, 0, none⟩ 1 1 [.int .u8 ((y : Int) % 128 + 128)] rfl rfl (newsG wr [.int .u8 ((y : Int) % 128 + 128)] 5) (by intro u hu; simp at hu; subst hu; rfl) hb1 hb2 ?_)
      intro v2 w2 own2 gr2 la2 nx2
      clear nx2
      have FN := Lib.hid (show NuAt w x (.int .i64 ((y / 128 : Nat) : Int)) v2 w2 from ⟨y / 128, pre ++ [(y % 128 + 128).toUInt8], by have := HY.out; omega, rfl, (NewF.more HN.out ((Qt.refl wr).alloc _) (by simp) (by rw [byteCells_app, ← HBC.out]) own2 gr2 la2).1, nu_big HU.out HB.out⟩)
      have HM := Lib.hid (show (intOf (.int .i64 ((y / 128 : Nat) : Int))).toNat < (intOf (.int .i64 (y : Int))).toNat by have := HB.out; simp only [intOf, Int.toNat_natCast]; omega)
      have hwq : wrap64 ((y : Int) / 128) = ((y / 128 : Nat) : Int) := by have := HY.out; have := HX.out; unfold wrap64; omega
      have HWQ := Lib.hid hwq
      clear hwq
      clear own2 gr2 la2 hb1 hb2
      go_wp2
      rw [HWQ.out]
      exact ⟨FN.out, HM.out⟩
    · have zge : decide ((y : Int) ≥ 128) = false := decide_eq_false (by omega)
      have zge' : decide ((128 : Int) ≤ (y : Int)) = false := decide_eq_false (by omega)
      have zge2 : decide (128 ≤ y) = false := decide_eq_false hb
      have hbc : [Value.int .u8 (y : Int)] = Lib.byteCells [y.toUInt8] := (byteCell1 _ (by omega)).symm
      have HBC := Lib.hid hbc
      have hy0 : (0 : Int) ≤ (y : Int) := by omega
      have hy1 : (y : Int) < 256 := by omega
      have HB := Lib.hid (show y < 128 by omega)
      clear hb hy hbc
      go_wp2_with (at_builtin; refine wpList_append_cellsF _ rfl _ _ 72 rfl 5 i0 (.int .u8 0) 1 1 Tryd.underlying72 hi0 hz0 hz1 hz2 rfl (by decide) _ pre.length (Lib.byteCells pre) rfl (OW.out _) ⟨wr.heap.size, 0, none⟩ 1 1 [.int .u8 (y : Int)] rfl rfl (newsG wr [.int .u8 (y : Int)] 5) (by intro u hu; simp at hu; subst hu; rfl) hb1 hb2 ?_)
      intro v2 w2 own2 gr2 la2 nx2
      clear nx2
      have FN := Lib.hid (show NewF w w2 v2 (Lib.uvarint x) from by rw [nu_small HU.out HB.out]; exact (NewF.more HN.out ((Qt.refl wr).alloc _) (by simp) (by rw [byteCells_app, ← HBC.out]) own2 gr2 la2).1)
      clear own2 gr2 la2 hb1 hb2
      go_wp2
      go_ret
      exact ⟨_, rfl, FN.out⟩
end Go.Proofs.YtffjleceogablaaDoor
