/-
  Rows of numbers that a call has made: laid, stored into, sorted, read.
-/
import Derived.Test.YtjjlpjfojgkpkaaGreatDoorMSortM
import Derived.Test.YtjjlpjfojgkpkaaGreatDoorMGiveS
import Derived.Test.YtjjlpjfojgkpkaaGreatDoorOwn2
import Derived.Deep.OwnRows
import Derived.Laws.NewBlocks
namespace Go.Proofs.YtjjlpjfojgkpkaaGreatDoor
open Go.RowKit Go.WideShapes Go.Sort
set_option maxRecDepth 100000

/-- The cells of a row of numbers. -/
def cellsI (k : IntKind) (xs : List Int) : Array Value := (xs.map (Value.int k)).toArray
theorem cellsI_size (k : IntKind) (xs : List Int) : (cellsI k xs).size = xs.length := by simp [cellsI]
theorem cellsI_get {k : IntKind} {xs : List Int} {i : Nat} {x : Int} (h : xs[i]? = some x) : (cellsI k xs)[i]? = some (.int k x) := by simp [cellsI, h]
theorem cellsI_set (k : IntKind) (xs : List Int) (i : Nat) (x : Int) : (cellsI k xs).setIfInBounds i (.int k x) = cellsI k (xs.set i x) := by
  unfold cellsI
  rw [List.setIfInBounds_toArray, List.map_set]
theorem cellsI_made (k : IntKind) (n : Nat) : madeCells #[Value.int k 0] n = cellsI k (List.replicate n 0) := by
  apply Array.ext
  · simp [madeCells, cellsI]
  · intro i h1 h2
    simp [madeCells, cellsI, Nat.mod_one]
/-- Block g holds the numbers xs. -/
def RowI (k : IntKind) (w : World) (g : Nat) (T : TypeId) (xs : List Int) : Prop := w.heap[g]? = some (.cells (cellsI k xs) T (0, 0))
theorem RowI.cell {k : IntKind} {w : World} {g : Nat} {T : TypeId} {xs : List Int} (h : RowI k w g T xs) {i : Nat} {x : Int} (hx : xs[i]? = some x) : w.cell? ⟨g, i, none⟩ = some (.int k x) := by
  rw [cell_of_row _ _ _ _ _ _ h]; exact cellsI_get hx
theorem RowI.frozen {k : IntKind} {w : World} {g : Nat} {T : TypeId} {xs : List Int} (h : RowI k w g T xs) (i : Nat) : w.frozen? ⟨g, i, none⟩ = false := by
  unfold RowI at h
  simp [World.frozen?, h]
theorem RowI.lt {k : IntKind} {w : World} {g : Nat} {T : TypeId} {xs : List Int} (h : RowI k w g T xs) : g < w.heap.size := lt_of_block h
theorem RowI.kept {k : IntKind} {w w' : World} {g : Nat} {T : TypeId} {xs : List Int} {S : Nat → Prop} (h : RowI k w g T xs) (q : Keeps S w w') (hS : ¬ S g) : RowI k w' g T xs := (q.block g h.lt hS).trans h
theorem RowI.qt {k : IntKind} {w w' : World} {g : Nat} {T : TypeId} {xs : List Int} (h : RowI k w g T xs) (q : Qt w w') : RowI k w' g T xs := h.kept q (fun e => e)
theorem RowI.new (k : IntKind) (w : World) (T : TypeId) (xs : List Int) : RowI k (w.alloc (.cells (cellsI k xs) T)) w.heap.size T xs := heap_alloc_new w _
theorem RowI.store {k : IntKind} {w : World} {g : Nat} {T : TypeId} {xs : List Int} (h : RowI k w g T xs) (i : Nat) (x : Int) : RowI k (w.setCell ⟨g, i, none⟩ (.int k x)) g T (xs.set i x) := by
  unfold RowI at *
  rw [setCell_eq_setRow w g i _ T (0, 0) _ h, setRow_heap w g _ _ T _ h, cellsI_set]
theorem RowI.ints {k : IntKind} {w : World} {g : Nat} {T : TypeId} {xs : List Int} (h : RowI k w g T xs) (hl : xs.length ≤ 17592186044416) (n : Nat) (hn : n = xs.length) : IntsAt k w (.slice (some ⟨g, 0, none⟩) n n) g 0 xs := by
  subst hn
  exact ⟨⟨_, _, rfl, fun _ => rfl⟩, hl, fun a n c e => by injection e with _ e1 e2; omega, fun i x hx => by rw [Nat.zero_add]; exact h.cell hx⟩

/-! ### A row sorted -/
theorem sortWorld_keeps {α : Type} [Inhabited α] (enc : α → Value) (w : World) (blk m : Nat) (d : Array α) (os : Array Obj) : Keeps (fun j => j = blk) w (sortWorld enc w blk 0 m d os) := by
  refine ⟨rfl, rfl, rfl, ?_, fun j hj hn => ?_⟩
  · simp [sortWorld, grow, putRow, mapBlock]
  · simp only [sortWorld, grow, putRow, mapBlock]
    rw [Array.getElem?_append_left (by simpa using hj), Array.getElem?_modify, if_neg (fun e => hn e.symm)]
    rfl
def encF (n : Nat) (i : Fin n) : Value := .int .i64 (i.val : Int)
theorem sortWorld_row {n : Nat} [Inhabited (Fin n)] {w : World} {g : Nat} {T : TypeId} (h : RowI .i64 w g T ((List.range n).map Int.ofNat)) (m : Nat) (d : Array (Fin n)) (hd : d.size = n) (os : Array Obj) : RowI .i64 (sortWorld (encF n) w g 0 m d os) g T ((M.valsF d).map Int.ofNat) := by
  have hlt := h.lt
  unfold RowI at *
  simp only [sortWorld, grow, putRow, mapBlock]
  rw [Array.getElem?_append_left (by simpa using hlt), Array.getElem?_modify, if_pos rfl, show (Go.Sort.ahead w m).heap = w.heap from rfl, h]
  simp only [Option.map_some, onCells]
  congr 2
  apply Array.ext_getElem?
  intro i
  unfold putCells
  rw [Array.getElem?_mapIdx]
  by_cases hi : i < n
  · have h1 : (cellsI .i64 ((List.range n).map Int.ofNat))[i]? = some (.int .i64 (i : Int)) := cellsI_get (by simp [hi])
    have h2 : (cellsI .i64 ((M.valsF d).map Int.ofNat))[i]? = some (.int .i64 (d[i]!.val : Int)) := by
      refine cellsI_get ?_
      rw [List.getElem?_map, M.valsF, List.getElem?_map, Array.getElem?_toList, Array.getElem?_eq_getElem (by omega), getElem!_pos d i (by omega)]
      rfl
    rw [h1, h2, Option.map_some, if_pos (by omega), Nat.sub_zero]
    rfl
  · have h1 : (cellsI .i64 ((List.range n).map Int.ofNat))[i]? = none := Array.getElem?_eq_none (by rw [cellsI_size]; simp; omega)
    have h2 : (cellsI .i64 ((M.valsF d).map Int.ofNat))[i]? = none := Array.getElem?_eq_none (by rw [cellsI_size]; simp [M.valsF]; omega)
    rw [h1, h2]; rfl
theorem holds_row {n : Nat} [Inhabited (Fin n)] {w : World} {g : Nat} {T : TypeId} (h : RowI .i64 w g T ((List.range n).map Int.ofNat)) : Holds (encF n) w g 0 (M.allF n) := by
  intro j hj
  rw [M.allF_size] at hj
  rw [Nat.zero_add]
  refine ⟨?_, h.frozen j⟩
  rw [h.cell (i := j) (x := (j : Int)) (by simp [hj])]
  have : (M.allF n)[j]! = ⟨j, hj⟩ := by
    rw [getElem!_pos _ _ (by rw [M.allF_size]; exact hj)]
    simp [M.allF]
  rw [this]; rfl
end Go.Proofs.YtjjlpjfojgkpkaaGreatDoor
