/-
  A new row of bytes that grows byte by byte; 'string(b)' of it (XIRow's, of no layer).
-/
import Derived.Test.YtnnkibhlildojaaDoorOwn2
import Derived.Test.YtnnkibhlildojaaDoorQt
import Derived.Laws.BytesArg
import Derived.Laws.OwnMore
import Derived.Laws.MakeOwn
import Derived.Deep.AppendLies
namespace Go.Proofs.YtnnkibhlildojaaDoor
open Go.RowKit Go.WideShapes
set_option maxRecDepth 100000

/-- A row of bytes that holds l, in a block that was not there at w; nothing of w has turned. -/
structure NewB (w wr : World) (v : Value) (l : List UInt8) : Prop where
  own : wr.ownsRow 0 5 1 v l.length (Lib.byteCells l)
  new : ∀ g, v.ownBlock = some g → w.heap.size ≤ g
  since : Since w.heap.size w wr
theorem NewB.ownA {w wr : World} {v : Value} {l : List UInt8} (h : NewB w wr v l) {w2 : World} (k : Qt wr w2) : w2.ownsRow 0 5 1 v l.length (Lib.byteCells l) := ownsRow_kept h.own k (fun _ _ e => e)
theorem byteCell_one (c : UInt8) : Lib.byteCells [c] = [.int .u8 (c.toNat : Int)] := rfl
theorem NewB.more {w wr w2 w3 : World} {v v' : Value} {l : List UInt8} {c : UInt8} (h : NewB w wr v l) (k2 : Qt wr w2) (hg : w2.grownBy w3 v.ownBlock) (hl : Later w2 v.ownBlock v'.ownBlock)
    (hown : w3.ownsRow 0 5 1 v' (l.length + 1) (Lib.byteCells l ++ [.int .u8 (c.toNat : Int)])) : NewB w w3 v' (l ++ [c]) := by
  have h0 := h.since.size
  have h2 := k2.size
  refine ⟨?_, fun g hg' => ?_, Keeps.grown (h.since.step k2 (fun _ e => e.elim)) hg (fun j hj e => h.new j e.symm)⟩
  · rw [List.length_append, Lib.byteCells_append, byteCell_one]; exact hown
  · rcases hl with e | ⟨g', e, hge⟩
    · exact h.new g (e ▸ hg')
    · rw [e] at hg'; injection hg' with hg'; omega
theorem NewB.quiet {w wr w2 : World} {v : Value} {l : List UInt8} (h : NewB w wr v l) (k : Qt wr w2) : NewB w w2 v l := ⟨h.ownA k, h.new, h.since.step k (fun _ e => e.elim)⟩
theorem NewB.made (w : World) (cap : Nat) (cur : Array Value) (hm : cap ≤ maxLen) (hs : cur.size = cap * 1) : NewB w (w.alloc (.cells cur 5)) (.slice (some ⟨w.heap.size, 0, none⟩) 0 cap) [] :=
  ⟨World.ownsRow_made w cur cap (Nat.zero_le _) hm hs, fun g hg => by injection hg with hg; exact Nat.le_of_eq hg, Qt.since ((Qt.refl w).alloc _)⟩
theorem NewB.qt {w wr : World} {v : Value} {l : List UInt8} (h : NewB w wr v l) : Qt w wr := Since.qt h.since

theorem strOfNums_nat (l : List UInt8) : strOfNums (l.map fun b => ((b.toNat : Nat) : Int)) = ⟨l.toArray⟩ := by
  unfold strOfNums
  rw [List.map_map]
  congr 2
  conv => rhs; rw [← List.map_id l]
  apply List.map_congr_left
  intro b _
  simp
/-- 'string(b)' of an owned row. -/
theorem own_conv {w : World} {v : Value} {l : List UInt8} (h : w.ownsRowF 0 5 1 v l.length (Lib.byteCells l)) : (convert 64 9 v).run Tryd.prog w = .ok (.string ⟨l.toArray⟩) w := by
  rcases h.2 with ⟨rfl, h0⟩ | ⟨g, cap, cur, fz, rfl, _⟩
  · obtain rfl : l = [] := List.eq_nil_of_length_eq_zero h0
    exact run_convert_bytes_nil (P := Tryd.prog) w 64 5 Tryd.underlying64 Tryd.underlying5 0 0 9 Tryd.underlying9
  · have h1 := run_convert_bytes_arg (P := Tryd.prog) w 64 5 Tryd.underlying64 Tryd.underlying5 g 0 l.length cap (l.map fun b => ((b.toNat : Nat) : Int)) (by simp) (fun i hi => by
      have h2 := h.cells (g := g) rfl i (.int .u8 (l[i].toNat)) (by simp [Lib.byteCells, hi])
      rw [add_plain] at h2
      rw [h2]
      simp [List.getD, hi]) 9 Tryd.underlying9
    rw [strOfNums_nat] at h1
    exact h1
theorem NewB.conv {w wr : World} {v : Value} {l : List UInt8} (h : NewB w wr v l) : (convert 64 9 v).run Tryd.prog wr = .ok (.string ⟨l.toArray⟩) wr := own_conv (World.ownsRowF_of h.own)
theorem infoU8 : (Tryd.prog.info? 5).map (fun i => (i.zero, i.size, i.bytes)) = some (some (.int .u8 0), 1, 1) := by kernel_rfl
end Go.Proofs.YtnnkibhlildojaaDoor
