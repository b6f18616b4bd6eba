/-
  A new row of bytes that grows byte by byte; 'string(b)' of it (XIRow's, of no layer).
  A row of bytes in memory that is written in place: plain, and its cells; numbers laid into it, the lowest byte first.
  What the contracts of package checks lean on.
-/
import Derived.Test.YtggogaaooacooaaDoorP09
import Derived.Test.YtggogaaooacooaaDoorP10
import Derived.Laws.BytesArg
import Derived.Laws.OwnMore
import Derived.Laws.MakeOwn
import Derived.Deep.AppendLies
import Derived.Test.YtggogaaooacooaaDoorP02
import Derived.Test.YtggogaaooacooaaDoorP13
import Derived.Laws.IdiomCopy
import Derived.Lib.LazyBuf
import Derived.LoopTactic
import Derived.WalkLawsBesides
import Derived.Outline
import Derived.Test.YtggogaaooacooaaDoorP01
import Derived.Laws.BitsAllLaws
namespace Go.Proofs.YtggogaaooacooaaDoor
open Go.RowKit Go.WideShapes
set_option maxRecDepth 100000

/-- A row of bytes that holds l, in a block that was not there at w; nothing of w has turned. -/
structure NewB (w wr : World) (v : Value) (l : List UInt8) : Prop where
  own : wr.ownsRow 0 5 1 v l.length (Lib.byteCells l)
  new : ∀ g, v.ownBlock = some g → w.heap.size ≤ g
  since : Since w.heap.size w wr
theorem NewB.ownA {w wr : World} {v : Value} {l : List UInt8} (h : NewB w wr v l) {w2 : World} (k : Qt wr w2) : w2.ownsRow 0 5 1 v l.length (Lib.byteCells l) := ownsRow_kept h.own k (fun _ _ e => e)
theorem byteCell_one (c : UInt8) : Lib.byteCells [c] = [.int .u8 (c.toNat : Int)] := rfl
theorem NewB.more {w wr w2 w3 : World} {v v' : Value} {l : List UInt8} {c : UInt8} (h : NewB w wr v l) (k2 : Qt wr w2) (hg : w2.grownBy w3 v.ownBlock) (hl : Later w2 v.ownBlock v'.ownBlock)
    (hown : w3.ownsRow 0 5 1 v' (l.length + 1) (Lib.byteCells l ++ [.int .u8 (c.toNat : Int)])) : NewB w w3 v' (l ++ [c]) := by
  have h0 := h.since.size
  have h2 := k2.size
  refine ⟨?_, fun g hg' => ?_, Keeps.grown (h.since.step k2 (fun _ e => e.elim)) hg (fun j hj e => h.new j e.symm)⟩
  · rw [List.length_append, Lib.byteCells_append, byteCell_one]; exact hown
  · rcases hl with e | ⟨g', e, hge⟩
    · exact h.new g (e ▸ hg')
    · rw [e] at hg'; injection hg' with hg'; omega
theorem NewB.quiet {w wr w2 : World} {v : Value} {l : List UInt8} (h : NewB w wr v l) (k : Qt wr w2) : NewB w w2 v l := ⟨h.ownA k, h.new, h.since.step k (fun _ e => e.elim)⟩
theorem NewB.made (w : World) (cap : Nat) (cur : Array Value) (hm : cap ≤ maxLen) (hs : cur.size = cap * 1) : NewB w (w.alloc (.cells cur 5)) (.slice (some ⟨w.heap.size, 0, none⟩) 0 cap) [] :=
  ⟨World.ownsRow_made w cur cap (Nat.zero_le _) hm hs, fun g hg => by injection hg with hg; exact Nat.le_of_eq hg, Qt.since ((Qt.refl w).alloc _)⟩
theorem NewB.qt {w wr : World} {v : Value} {l : List UInt8} (h : NewB w wr v l) : Qt w wr := Since.qt h.since

theorem strOfNums_natN (l : List UInt8) : strOfNums (l.map fun b => ((b.toNat : Nat) : Int)) = ⟨l.toArray⟩ := by
  unfold strOfNums
  rw [List.map_map]
  congr 2
  conv => rhs; rw [← List.map_id l]
  apply List.map_congr_left
  intro b _
  simp
/-- 'string(b)' of an owned row. -/
theorem own_conv {w : World} {v : Value} {l : List UInt8} (h : w.ownsRowF 0 5 1 v l.length (Lib.byteCells l)) : (convert 75 9 v).run Tryd.prog w = .ok (.string ⟨l.toArray⟩) w := by
  rcases h.2 with ⟨rfl, h0⟩ | ⟨g, cap, cur, fz, rfl, _⟩
  · obtain rfl : l = [] := List.eq_nil_of_length_eq_zero h0
    exact run_convert_bytes_nil (P := Tryd.prog) w 75 5 Tryd.underlying75 Tryd.underlying5 0 0 9 Tryd.underlying9
  · have h1 := run_convert_bytes_arg (P := Tryd.prog) w 75 5 Tryd.underlying75 Tryd.underlying5 g 0 l.length cap (l.map fun b => ((b.toNat : Nat) : Int)) (by simp) (fun i hi => by
      have h2 := h.cells (g := g) rfl i (.int .u8 (l[i].toNat)) (by simp [Lib.byteCells, hi])
      rw [add_plain] at h2
      rw [h2]
      simp [List.getD, hi]) 9 Tryd.underlying9
    rw [strOfNums_natN] at h1
    exact h1
theorem NewB.conv {w wr : World} {v : Value} {l : List UInt8} (h : NewB w wr v l) : (convert 75 9 v).run Tryd.prog wr = .ok (.string ⟨l.toArray⟩) wr := own_conv (World.ownsRowF_of h.own)
theorem infoU8 : (Tryd.prog.info? 5).map (fun i => (i.zero, i.size, i.bytes)) = some (some (.int .u8 0), 1, 1) := by kernel_rfl
end Go.Proofs.YtggogaaooacooaaDoor
namespace Go.Proofs.YtggogaaooacooaaDoor
open Go.RowKit Go.WideShapes
set_option maxRecDepth 100000

namespace E
/-- s laid over l, from place o on. -/
def put (l : List UInt8) (o : Nat) (s : List UInt8) : List UInt8 := l.take o ++ (s ++ l.drop (o + s.length))
theorem put_length {l s : List UInt8} {o : Nat} (h : o + s.length ≤ l.length) : (put l o s).length = l.length := by unfold put; simp; omega
theorem put_get {l s : List UInt8} {o : Nat} (h : o + s.length ≤ l.length) (j : Nat) : (put l o s)[j]? = if o ≤ j ∧ j < o + s.length then s[j - o]? else l[j]? := by
  unfold put
  by_cases h1 : j < o
  · rw [if_neg (by omega), List.getElem?_append_left (by simp; omega), List.getElem?_take_of_lt h1]
  · rw [List.getElem?_append_right (by simp; omega)]
    have hl : (l.take o).length = o := by simp; omega
    rw [hl]
    by_cases h2 : j < o + s.length
    · rw [if_pos ⟨by omega, h2⟩, List.getElem?_append_left (by omega)]
    · rw [if_neg (by omega), List.getElem?_append_right (by omega), List.getElem?_drop]
      congr 1; omega
theorem put_nil {l : List UInt8} {o : Nat} (h : o ≤ l.length) : put l o [] = l := by
  apply List.ext_getElem?
  intro j
  rw [put_get (by simpa using h), if_neg (by rw [List.length_nil]; omega)]
theorem put_set {l s : List UInt8} {o : Nat} (h : o + s.length < l.length) (c : UInt8) : (put l o s).set (o + s.length) c = put l o (s ++ [c]) := by
  apply List.ext_getElem?
  intro j
  rw [List.getElem?_set, put_get (by omega), put_get (by simp; omega), put_length (by omega), List.length_append, List.length_singleton]
  by_cases e : o + s.length = j
  · subst e
    rw [if_pos rfl, if_pos h, if_pos ⟨by omega, by omega⟩, List.getElem?_append_right (by omega)]
    simp
  · rw [if_neg e]
    by_cases h1 : o ≤ j ∧ j < o + s.length
    · rw [if_pos h1, if_pos ⟨h1.1, by omega⟩, List.getElem?_append_left (by omega)]
    · rw [if_neg h1, if_neg (by omega)]
theorem low_snoc : ∀ (k x : Nat), low (k + 1) x = low k x ++ [(x / 256 ^ k).toUInt8]
  | 0, x => by rw [low, low, low, Nat.pow_zero, Nat.div_one]; rfl
  | k + 1, x => by
    rw [low, low_snoc k (x / 256), low, List.cons_append, Nat.div_div_eq_div_mul, Nat.pow_succ, Nat.mul_comm 256]
/-- Behind what stands, zeros. -/
theorem put_zeros (a s : List UInt8) {m : Nat} : put (a ++ List.replicate m 0) a.length s = (a ++ s) ++ List.replicate (m - s.length) 0 := by
  unfold put
  rw [List.take_left' rfl, List.drop_append, List.drop_eq_nil_of_le (by omega), List.nil_append, List.drop_replicate]
  simp
end E

/-- Block g holds the bytes of l at its head; they may be written. -/
structure RawAt (w : World) (g : Nat) (l : List UInt8) : Prop where
  at' : ∀ (j : Nat) (c : UInt8), l[j]? = some c → w.cell? ⟨g, j, none⟩ = some (.int .u8 (c.toNat : Int)) ∧ w.frozen? ⟨g, j, none⟩ = false
theorem RawAt.kept {S : Nat → Prop} {w w' : World} {g : Nat} {l : List UInt8} (h : RawAt w g l) (k : Keeps S w w') (hg : ¬ S g) : RawAt w' g l := ⟨fun j c hj => by
  obtain ⟨h1, h2⟩ := h.at' j c hj
  have hlt := World.block_lt_of_cell? w _ h1
  exact ⟨(k.cell hlt hg).trans h1, (k.frozen hlt hg).trans h2⟩⟩
theorem RawAt.drew {w : World} {g : Nat} {l : List UInt8} (h : RawAt w g l) : RawAt w.drew g l := ⟨fun j c hj => h.at' j c hj⟩
theorem RawAt.cell {w : World} {g : Nat} {l : List UInt8} (h : RawAt w g l) {j : Nat} (hj : j < l.length) : ∃ v, w.cell? ⟨g, j, none⟩ = some v ∧ w.frozen? ⟨g, j, none⟩ = false := by
  obtain ⟨h1, h2⟩ := h.at' j l[j] (List.getElem?_eq_getElem hj)
  exact ⟨_, h1, h2⟩
theorem RawAt.lt {w : World} {g : Nat} {l : List UInt8} (h : RawAt w g l) (hl : 0 < l.length) : g < w.heap.size := by
  obtain ⟨v, h1, _⟩ := h.cell hl
  exact World.block_lt_of_cell? w _ h1
theorem RawAt.store {w : World} {g i : Nat} {l : List UInt8} (h : RawAt w g l) (c : UInt8) : RawAt (w.setCell ⟨g, i, none⟩ (.int .u8 (c.toNat : Int))) g (l.set i c) := ⟨fun j d hj => by
  rw [List.getElem?_set] at hj
  rw [World.frozen?_setCell]
  by_cases e : i = j
  · subst e
    rw [if_pos rfl] at hj
    split at hj
    · rename_i hi
      injection hj with hj
      subst hj
      obtain ⟨v, h1, h2⟩ := h.cell hi
      exact ⟨World.cell?_setCell_same _ _ _ h1, h2⟩
    · cases hj
  · rw [if_neg e] at hj
    obtain ⟨h1, h2⟩ := h.at' j d hj
    exact ⟨(World.cell?_setCell_other _ _ _ _ (by intro q; apply e; injection q)).trans h1, h2⟩⟩
theorem keeps_setCell7 (W : World) (b i : Nat) (v : Value) : Keeps (fun k => k = b) W (W.setCell ⟨b, i, none⟩ v) := (Keeps.refl (fun k => k = b) W).setCell (p := ⟨b, i, none⟩) (fun _ => rfl) v
theorem keeps_setCells7 (b : Nat) : ∀ (vs : List Value) (o : Nat) (w : World), Keeps (fun k => k = b) w (w.setCells b o vs)
  | [], _, w => Keeps.refl _ w
  | v :: r, o, w => Keeps.trans (keeps_setCell7 w b o v) (keeps_setCells7 b r (o + 1) _) (fun _ _ e => e)
theorem RawAt.stores {w : World} {g o : Nat} {l : List UInt8} (h : RawAt w g l) {s : List UInt8} (hs : o + s.length ≤ l.length) : RawAt (w.setCells g o (Lib.byteCells s)) g (E.put l o s) := ⟨fun j d hj => by
  rw [E.put_get hs] at hj
  rw [World.frozen?_setCells]
  by_cases e : o ≤ j ∧ j < o + s.length
  · rw [if_pos e] at hj
    obtain ⟨i, rfl⟩ : ∃ i, j = o + i := ⟨j - o, by omega⟩
    rw [show o + i - o = i by omega] at hj
    obtain ⟨v, h1, h2⟩ := h.cell (j := o + i) (by omega)
    have hi : i < (Lib.byteCells s).length := by rw [Lib.byteCells_length]; omega
    have := World.cell?_setCells_in g (Lib.byteCells s) o w (fun q hq => by
      obtain ⟨v, h1, _⟩ := h.cell (j := o + q) (by rw [Lib.byteCells_length] at hq; omega)
      rw [h1]; rfl) i hi
    refine ⟨this.trans ?_, h2⟩
    congr 1
    obtain ⟨q1, q2⟩ := List.getElem?_eq_some_iff.1 hj
    simp [Lib.byteCells, q2]
  · rw [if_neg e] at hj
    obtain ⟨h1, h2⟩ := h.at' j d hj
    refine ⟨(World.cell?_setCells_out g _ o w ⟨g, j, none⟩ (fun _ _ => ?_)).trans h1, h2⟩
    rw [Lib.byteCells_length]
    show j < o ∨ o + s.length ≤ j
    omega⟩

theorem strOfNums_nat7 (l : List UInt8) : strOfNums (l.map fun b => ((b.toNat : Nat) : Int)) = ⟨l.toArray⟩ := by
  unfold strOfNums
  rw [List.map_map]
  congr 2
  conv => rhs; rw [← List.map_id l]
  apply List.map_congr_left
  intro b _
  simp
/-- 'string(b[:n])'. -/
theorem RawAt.conv {w : World} {g : Nat} {l : List UInt8} (h : RawAt w g l) {n : Nat} (hn : n ≤ l.length) (cap : Nat) : (convert 75 9 (.slice (some ⟨g, 0, none⟩) n cap)).run Tryd.prog w = .ok (.string ⟨(l.take n).toArray⟩) w := by
  have hl : (l.take n).length = n := by simp; omega
  have h1 := run_convert_bytes_arg (P := Tryd.prog) w 75 5 Tryd.underlying75 Tryd.underlying5 g 0 (l.take n).length cap ((l.take n).map fun b => ((b.toNat : Nat) : Int)) (by simp) (fun i hi => by
    have hi' : i < l.length := by omega
    rw [Nat.zero_add, (h.at' i l[i] (List.getElem?_eq_getElem hi')).1]
    have : i < n := by omega
    simp [List.getD, this, hi']) 9 Tryd.underlying9
  rw [strOfNums_nat7, hl] at h1
  exact h1
theorem byteSize7 (w : World) : (Go.sizeOf 5).run Tryd.prog w = .ok 1 w := by kernel_rfl
/-- 'copy(b[o:], s)', all of s. -/
theorem RawAt.copy {w : World} {g o : Nat} {l : List UInt8} (h : RawAt w g l) (s : ByteArray) {n : Nat} (hs : s.size ≤ n) (hn : o + n ≤ l.length) (cap : Nat) :
    ∃ W, (Builtin.copy_ #[75, 9] 3 #[.slice (some ⟨g, o, none⟩) n cap, .string s]).run Tryd.prog w = .ok (goInt s.size) W ∧ RawAt W g (E.put l o s.data.toList) ∧ Keeps (fun k => k = g) w W := by
  have hl : s.data.toList.length = s.size := by simp
  have hr := run_copy_string (P := Tryd.prog) w 75 9 3 5 g o n cap s Tryd.underlying75 byteSize7 hs (fun j hj => by
    obtain ⟨v, h1, _⟩ := h.cell (j := o + j) (by omega)
    rw [h1]; rfl) (fun j hj => by
    obtain ⟨v, _, h2⟩ := h.cell (j := o + j) (by omega)
    exact h2)
  exact ⟨_, hr, h.stores (by omega), keeps_setCells7 g _ o w⟩
end Go.Proofs.YtggogaaooacooaaDoor
namespace Go.Proofs.YtggogaaooacooaaDoor
open Go.RowKit Go.WideShapes
set_option maxRecDepth 100000

theorem ret_i {k : IntKind} {a b : Int} (h : a = b) : Ending.returned (.int k a) = .returned (.int k b) := by rw [h]
end Go.Proofs.YtggogaaooacooaaDoor
