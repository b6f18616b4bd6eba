/-
  The contracts of money's Find and the reference's: currencies in memory, the first of a code.
-/
import Derived.Test.YtdoemhlekncjdaaDoorQt
import Derived.LoopTactic
import Derived.Outline
import Derived.WalkSpells
import Derived.Lib.Strings
namespace Go.Proofs.YtdoemhlekncjdaaDoor
open Go.RowKit Go.WideShapes
set_option maxRecDepth 100000

abbrev Cur := ByteArray × Int
/-- v reads as the currencies cs. -/
structure CursAt (w : World) (v : Value) (g off : Nat) (cs : List Cur) : Prop where
  val : ∃ a cap, v = .slice a cs.length cap ∧ (cs ≠ [] → a = some ⟨g, off, none⟩)
  le : cs.length ≤ 17592186044416
  cells : ∀ (i : Nat) (c : Cur), cs[i]? = some c → w.cell? ⟨g, off + i * 2, none⟩ = some (.string c.1) ∧ w.cell? ⟨g, off + i * 2 + 1, none⟩ = some (.int .i64 c.2)
theorem CursAt.qt {w w' : World} {v : Value} {g off : Nat} {cs : List Cur} (h : CursAt w v g off cs) (q : Qt w w') : CursAt w' v g off cs :=
  ⟨h.val, h.le, fun i c hc => ⟨q.cellv (h.cells i c hc).1, q.cellv (h.cells i c hc).2⟩⟩
/-- The first of a code. -/
def findC (code : ByteArray) : List Cur → Option Cur
  | [] => none
  | c :: cs => if c.1 = code then some c else findC code cs
theorem findC_none {code : ByteArray} {cs : List Cur} {k : Nat} {c : Cur} (hc : cs[k]? = some c) (hne : c.1 ≠ code) (h : findC code cs = findC code (cs.drop k)) : findC code cs = findC code (cs.drop (k + 1)) := by
  obtain ⟨hk, rfl⟩ := List.getElem?_eq_some_iff.1 hc
  rw [h, List.drop_eq_getElem_cons hk, findC, if_neg hne]
theorem findC_some {code : ByteArray} {cs : List Cur} {k : Nat} {c : Cur} (hc : cs[k]? = some c) (he : c.1 = code) (h : findC code cs = findC code (cs.drop k)) : findC code cs = some c := by
  obtain ⟨hk, rfl⟩ := List.getElem?_eq_some_iff.1 hc
  rw [h, List.drop_eq_getElem_cons hk, findC, if_pos he]
def findV (code : ByteArray) (cs : List Cur) : Value := match findC code cs with
  | some c => .tuple #[.agg #[.string c.1, .int .i64 c.2], .bool true]
  | none => .tuple #[.agg #[.string ⟨#[]⟩, .int .i64 0], .bool false]
abbrev curO (s : ByteArray) (n : Int) : Obj := .cells #[.string s, .int .i64 n] 25

theorem cur_two {W : World} {g : Nat} {s s0 : ByteArray} {n n0 : Int} (o : Obj) (h : W.heap[g]? = some (curO s0 n0)) :
    (((W.setCell ⟨g, 0, none⟩ (.string s)).setCell ⟨g, 1, none⟩ (.int .i64 n)).alloc o).heap[g]? = some (curO s n) := by
  have h2 : ((W.setCell ⟨g, 0, none⟩ (.string s)).setCell ⟨g, 1, none⟩ (.int .i64 n)).heap[g]? = some (curO s n) := by
    simp [World.setCell, Array.getElem?_modify, h]
  exact (Below.heap_alloc _ o _ (lt_of_block h2)).trans h2
theorem qt_two {w W : World} (h : Qt w W) (u v : Value) (o : Obj) :
    Qt w (((W.setCell ⟨w.heap.size, 0, none⟩ u).setCell ⟨w.heap.size, 1, none⟩ v).alloc o) :=
  ((h.setCell (p := ⟨w.heap.size, 0, none⟩) (fun h => absurd h (Nat.lt_irrefl _)) _).setCell (p := ⟨w.heap.size, 1, none⟩) (fun h => absurd h (Nat.lt_irrefl _)) _).alloc _
theorem qt_two' {w W : World} (h : Qt w W) (u v : Value) :
    Qt w ((W.setCell ⟨w.heap.size, 0, none⟩ u).setCell ⟨w.heap.size, 1, none⟩ v) :=
  (h.setCell (p := ⟨w.heap.size, 0, none⟩) (fun h => absurd h (Nat.lt_irrefl _)) _).setCell (p := ⟨w.heap.size, 1, none⟩) (fun h => absurd h (Nat.lt_irrefl _)) _
theorem toList_ne {a b : ByteArray} (h : a ≠ b) : (a.toList == b.toList) = false := by
  rw [beq_eq_false_iff_ne]
  intro e
  rw [Lib.toList_data, Lib.toList_data] at e
  exact h (ByteArray.ext (Array.ext' e))

set_option maxHeartbeats 3200000 in
theorem find_any (v : Value) (g off : Nat) (cs : List Cur) (code : ByteArray) (w : World) (hv : CursAt w v g off cs) :
    Calls Tryd.prog 9 #[v, .string code] w fun e w' => e = .returned (findV code cs) ∧ Qt w w' := by
  obtain ⟨a, cap, rfl, ha⟩ := hv.val
  have hle := hv.le
  have HA := Lib.hid ha
  have HV := Lib.hid (fun W (q : Qt w W) => hv.qt q)
  clear hv ha
  go_enter Tryd.func9, Tryd.ntmps9
  go_wp2
  go_loopw [10] (fun i wr => ∃ k : Nat, k ≤ cs.length ∧ i = .int .i64 k ∧ findC code cs = findC code (cs.drop k) ∧ Qt w wr ∧ wr.heap[w.heap.size]? = some (curO ⟨#[]⟩ 0)) (fun i _ => cs.length - (intOf i).toNat)
  case atStart => exact ⟨0, Nat.zero_le _, rfl, rfl, (Qt.refl w).alloc _, heap_alloc_new w _⟩
  case round =>
    obtain ⟨k, hk, rfl, hf, hq, hb⟩ := hrel
    rename_i wr
    by_cases hlt : k < cs.length
    · have hck : cs[k]? = some cs[k] := List.getElem?_eq_getElem hlt
      obtain ⟨c1, c2⟩ := (HV.out _ hq).cells k _ hck
      obtain rfl := HA.out (fun e => by rw [e] at hlt; simp at hlt)
      have Q := Lib.hid hq
      have HB := Lib.hid hb
      have hlt2 : w.heap.size < wr.heap.size := lt_of_block hb
      have d0 : wr.cell? ⟨w.heap.size, 0, none⟩ = some (.string ⟨#[]⟩) := by rw [cell_of_row _ _ _ _ _ _ hb]; rfl
      have d1 : wr.cell? ⟨w.heap.size, 1, none⟩ = some (.int .i64 0) := by rw [cell_of_row _ _ _ _ _ _ hb]; rfl
      have f0 : wr.frozen? ⟨w.heap.size, 0, none⟩ = false := by simp [World.frozen?, hb]
      have f1 : wr.frozen? ⟨w.heap.size, 1, none⟩ = false := by simp [World.frozen?, hb]
      clear hb hq
      by_cases he : cs[k].1 = code
      · have HF := Lib.hid (findC_some hck he hf)
        have eb : (cs[k].1.toList == code.toList) = true := by rw [he]; simp
        generalize cs[k] = c at *
        clear hck he hf
        go_wp2
        have hset := cur_two (s := c.1) (n := c.2) (.cells #[.string c.1, .int .i64 c.2] 25) HB.out
        have KF := qt_two Q.out (.string c.1) (.int .i64 c.2) (.cells #[.string c.1, .int .i64 c.2] 25)
        generalize ((wr.setCell _ _).setCell _ _).alloc _ = W2 at *
        have d0 : W2.cell? ⟨w.heap.size, 0, none⟩ = some (.string c.1) := by rw [cell_of_row _ _ _ _ _ _ hset]; rfl
        have d1 : W2.cell? ⟨w.heap.size, 1, none⟩ = some (.int .i64 c.2) := by rw [cell_of_row _ _ _ _ _ _ hset]; rfl
        exact bodyPost_ret (v := .tuple #[.agg #[.string c.1, .int .i64 c.2], .bool true]) (by simp [results, Tryd.results9, go_sem, d0, d1]) rfl ⟨by simp [findV, HF.out], KF⟩
      · have HF := Lib.hid (findC_none hck he hf)
        have eb := toList_ne he
        generalize cs[k] = c at *
        clear hck hf he
        go_wp2
        go_roundw
        case rel => exact ⟨k + 1, hlt, by go_num, HF.out, Q.out.alloc _, (Below.heap_alloc wr _ _ hlt2).trans HB.out⟩
        case measure => simp [intOf]; omega
    · have HF : findC code cs = none := by rw [hf, List.drop_eq_nil_of_le (by omega)]; rfl
      obtain rfl : k = cs.length := by omega
      have hlt2 : w.heap.size < wr.heap.size := lt_of_block hb
      have d0 : wr.cell? ⟨w.heap.size, 0, none⟩ = some (.string ⟨#[]⟩) := by rw [cell_of_row _ _ _ _ _ _ hb]; rfl
      have d1 : wr.cell? ⟨w.heap.size, 1, none⟩ = some (.int .i64 0) := by rw [cell_of_row _ _ _ _ _ _ hb]; rfl
      have f0 : wr.frozen? ⟨w.heap.size, 0, none⟩ = false := by simp [World.frozen?, hb]
      have f1 : wr.frozen? ⟨w.heap.size, 1, none⟩ = false := by simp [World.frozen?, hb]
      have Q := Lib.hid hq
      have HB := Lib.hid hb
      clear hb hq hf
      go_wp2
      have hset : ((wr.setCell ⟨w.heap.size, 0, none⟩ (.string ⟨#[]⟩)).setCell ⟨w.heap.size, 1, none⟩ (.int .i64 0)).heap[w.heap.size]? = some (curO ⟨#[]⟩ 0) := by
        simp [World.setCell, Array.getElem?_modify, HB.out]
      have KF := qt_two' Q.out (.string ⟨#[]⟩) (.int .i64 0)
      generalize (wr.setCell _ _).setCell _ _ = W2 at *
      have d0 : W2.cell? ⟨w.heap.size, 0, none⟩ = some (.string ⟨#[]⟩) := by rw [cell_of_row _ _ _ _ _ _ hset]; rfl
      have d1 : W2.cell? ⟨w.heap.size, 1, none⟩ = some (.int .i64 0) := by rw [cell_of_row _ _ _ _ _ _ hset]; rfl
      exact bodyPost_ret (v := .tuple #[.agg #[.string ⟨#[]⟩, .int .i64 0], .bool false]) (by simp [results, Tryd.results9, go_sem, d0, d1]) rfl ⟨by simp [findV, HF], KF⟩

set_option maxHeartbeats 3200000 in
theorem refFind_any (v : Value) (g off : Nat) (cs : List Cur) (code : ByteArray) (w : World) (hv : CursAt w v g off cs) :
    Calls Tryd.prog 10 #[v, .string code] w fun e w' => e = .returned (findV code cs) ∧ Qt w w' := by
  obtain ⟨a, cap, rfl, ha⟩ := hv.val
  have hle := hv.le
  have HA := Lib.hid ha
  have HV := Lib.hid (fun W (q : Qt w W) => hv.qt q)
  clear hv ha
  go_enter Tryd.func10, Tryd.ntmps10
  go_wp2
  go_loopw [6] (fun i wr => ∃ k : Nat, k ≤ cs.length ∧ i = .int .i64 k ∧ findC code cs = findC code (cs.drop k) ∧ Qt w wr ∧ wr.heap[w.heap.size]? = some (curO ⟨#[]⟩ 0)) (fun i _ => cs.length - (intOf i).toNat)
  case atStart => exact ⟨0, Nat.zero_le _, rfl, rfl, (Qt.refl w).alloc _, heap_alloc_new w _⟩
  case round =>
    obtain ⟨k, hk, rfl, hf, hq, hb⟩ := hrel
    rename_i wr
    have hlt2 : w.heap.size < wr.heap.size := lt_of_block hb
    have d0 : wr.cell? ⟨w.heap.size, 0, none⟩ = some (.string ⟨#[]⟩) := by rw [cell_of_row _ _ _ _ _ _ hb]; rfl
    have d1 : wr.cell? ⟨w.heap.size, 1, none⟩ = some (.int .i64 0) := by rw [cell_of_row _ _ _ _ _ _ hb]; rfl
    have f0 : wr.frozen? ⟨w.heap.size, 0, none⟩ = false := by simp [World.frozen?, hb]
    have f1 : wr.frozen? ⟨w.heap.size, 1, none⟩ = false := by simp [World.frozen?, hb]
    by_cases hlt : k < cs.length
    · have hck : cs[k]? = some cs[k] := List.getElem?_eq_getElem hlt
      obtain ⟨c1, c2⟩ := (HV.out _ hq).cells k _ hck
      obtain rfl := HA.out (fun e => by rw [e] at hlt; simp at hlt)
      have Q := Lib.hid hq
      have HB := Lib.hid hb
      clear hb hq
      by_cases he : cs[k].1 = code
      · have HF := Lib.hid (findC_some hck he hf)
        have eb : (cs[k].1.toList == code.toList) = true := by rw [he]; simp
        generalize cs[k] = c at *
        clear hck he hf
        go_wp2
        have hset : ((wr.setCell ⟨w.heap.size, 0, none⟩ (.string c.1)).setCell ⟨w.heap.size, 1, none⟩ (.int .i64 c.2)).heap[w.heap.size]? = some (curO c.1 c.2) := by
          simp [World.setCell, Array.getElem?_modify, HB.out]
        have KF := qt_two' Q.out (.string c.1) (.int .i64 c.2)
        generalize (wr.setCell _ _).setCell _ _ = W2 at *
        have d0 : W2.cell? ⟨w.heap.size, 0, none⟩ = some (.string c.1) := by rw [cell_of_row _ _ _ _ _ _ hset]; rfl
        have d1 : W2.cell? ⟨w.heap.size, 1, none⟩ = some (.int .i64 c.2) := by rw [cell_of_row _ _ _ _ _ _ hset]; rfl
        exact bodyPost_ret (v := .tuple #[.agg #[.string c.1, .int .i64 c.2], .bool true]) (by simp [results, Tryd.results10, go_sem, d0, d1]) rfl ⟨by simp [findV, HF.out], KF⟩
      · have HF := Lib.hid (findC_none hck he hf)
        have eb := toList_ne he
        generalize cs[k] = c at *
        clear hck hf he
        go_wp2
        go_roundw
        case rel => exact ⟨k + 1, hlt, by go_num, HF.out, Q.out, HB.out⟩
        case measure => simp [intOf]; omega
    · have HF : findC code cs = none := by rw [hf, List.drop_eq_nil_of_le (by omega)]; rfl
      obtain rfl : k = cs.length := by omega
      have Q := Lib.hid hq
      have HB := Lib.hid hb
      clear hb hq hf
      go_wp2
      have hset : ((wr.setCell ⟨w.heap.size, 0, none⟩ (.string ⟨#[]⟩)).setCell ⟨w.heap.size, 1, none⟩ (.int .i64 0)).heap[w.heap.size]? = some (curO ⟨#[]⟩ 0) := by
        simp [World.setCell, Array.getElem?_modify, HB.out]
      have KF := qt_two' Q.out (.string ⟨#[]⟩) (.int .i64 0)
      generalize (wr.setCell _ _).setCell _ _ = W2 at *
      have d0 : W2.cell? ⟨w.heap.size, 0, none⟩ = some (.string ⟨#[]⟩) := by rw [cell_of_row _ _ _ _ _ _ hset]; rfl
      have d1 : W2.cell? ⟨w.heap.size, 1, none⟩ = some (.int .i64 0) := by rw [cell_of_row _ _ _ _ _ _ hset]; rfl
      exact bodyPost_ret (v := .tuple #[.agg #[.string ⟨#[]⟩, .int .i64 0], .bool false]) (by simp [results, Tryd.results10, go_sem, d0, d1]) rfl ⟨by simp [findV, HF], KF⟩
end Go.Proofs.YtdoemhlekncjdaaDoor
