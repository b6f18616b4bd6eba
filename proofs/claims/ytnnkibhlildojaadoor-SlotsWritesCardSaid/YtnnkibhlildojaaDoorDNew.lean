/-
  The contract of New.
-/
import Derived.Test.YtnnkibhlildojaaDoorDCrash
namespace Go.Proofs.YtnnkibhlildojaaDoor
open Go.RowKit Go.WideShapes
set_option maxRecDepth 100000

theorem infoSector3 : (Tryd.prog.info? 66).map (fun i => (i.zero, i.size, i.bytes)) = some (some (.agg (Array.replicate 256 (.int .u8 0))), 256, 256) := by kernel_rfl

/-- n sectors of zeros. -/
def zeroCellsN (n : Nat) : Array Value := madeCells (Array.replicate 256 (Value.int .u8 0)) (n * 256)
theorem zeroCellsN_size (n : Nat) : (zeroCellsN n).size = n * 256 := by unfold zeroCellsN; exact size_madeCells _ _
theorem zeroCellsN_get {n j : Nat} (h : j < n * 256) : (zeroCellsN n)[j]? = some (.int .u8 0) := by
  have hz : ∀ x : Nat, (Array.replicate 256 (Value.int .u8 0))[x % (Array.replicate 256 (Value.int .u8 0)).size]! = .int .u8 0 := by
    intro x
    have hx : x % (Array.replicate 256 (Value.int .u8 0)).size < (Array.replicate 256 (Value.int .u8 0)).size := Nat.mod_lt _ (by rw [Array.size_replicate]; decide)
    rw [getElem!_pos (Array.replicate 256 (Value.int .u8 0)) _ hx, Array.getElem_replicate]
  unfold zeroCellsN madeCells
  generalize Array.replicate 256 (Value.int .u8 0) = Z at *
  rw [Array.getElem?_map, Array.getElem?_range, if_pos h]
  simp only [Option.map_some, hz]

theorem make_sectors (n : Nat) (h : n ≤ 65536) (W : World) : (Instr.makeSlice 59 (.int .i64 n) (.int .i64 n)).run Tryd.prog W = .ok (.slice (some ⟨W.heap.size, 0, none⟩) n n) (W.alloc (.cells (zeroCellsN n) 66)) := by
  obtain ⟨i, hi, h1⟩ := Option.map_eq_some_iff.1 infoSector3
  simp only [Prod.mk.injEq] at h1
  obtain ⟨hz, hs, hb⟩ := h1
  have hr := run_make (P := Tryd.prog) W 59 66 i _ Tryd.underlying59 hi hz .i64 .i64 n n (by omega) (by omega) (by rw [hb]; omega) (by omega)
  rw [hs] at hr
  simp only [Int.toNat_natCast] at hr
  exact hr

theorem zeros_range {W : World} {g n : Nat} (h : W.heap[g]? = some (.cells (zeroCellsN n) 66 (0, 0))) : Dur W g (List.replicate n zeros) := by
  refine ⟨⟨_, h, by rw [zeroCellsN_size, List.length_replicate]⟩, fun i s hi j v hj => ?_⟩
  rw [List.getElem?_replicate] at hi
  split at hi
  · injection hi with hi
    subst hi
    have hj2 : j < 256 := by have := (List.getElem?_eq_some_iff.1 hj).1; rw [Lib.byteCells_length] at this; simpa [zeros] using this
    rw [cell_of_row W g _ _ _ _ h, zeroCellsN_get (by omega)]
    have hb : Lib.byteCells zeros = List.replicate 256 (.int .u8 0) := by simp only [Lib.byteCells, zeros, List.map_replicate]; rfl
    rw [hb, List.getElem?_replicate, if_pos hj2] at hj
    exact hj
  · cases hi

theorem new_p (w : World) (n : Nat) (h1 : 1 ≤ n) (h2 : n ≤ 65536) :
    ∃ W, ((w.alloc (.cells (zeroCellsN n) 66)).alloc (.map #[] 0)).alloc (.cells #[.slice (some ⟨w.heap.size, 0, none⟩) n n, .slice none 0 0, .map (some (w.heap.size + 1)), .int .i64 (-1), .bool false, .int .i64 0, .int .i64 0, .int .i64 0] 63) = W ∧
      DiskAt W (w.heap.size + 2) (DS.newD n) (Grow (fun _ => False) w W) ∧ Qt w W := by
  refine ⟨_, rfl, ?_, ((Qt.refl w).alloc _).alloc _ |>.alloc _⟩
  have hm := World.ownsMap_made (w.alloc (.cells (zeroCellsN n) 66)) Tryd.prog 3 (plainElem (H := Unit) Tryd.prog 3)
  have hd := heap_alloc_new w (.cells (zeroCellsN n) 66)
  have h3 := heap_alloc_new ((w.alloc (.cells (zeroCellsN n) 66)).alloc (.map #[] 0)) (.cells #[.slice (some ⟨w.heap.size, 0, none⟩) n n, .slice none 0 0, .map (some (w.heap.size + 1)), .int .i64 (-1), .bool false, .int .i64 0, .int .i64 0, .int .i64 0] 63)
  rw [World.size_alloc] at hm
  rw [World.size_alloc, World.size_alloc] at h3
  refine ⟨w.heap.size, w.heap.size + 1, .slice none 0 0, ⟨DS.Ok.new h1 h2, ?_, ?_, World.ownsRow_nil _ 0 _ 257, .map [], hm.alloc _, MapsTo.nil⟩, ?_⟩
  · rw [h3]
    simp [diskCells, DS.newD]
  · refine zeros_range ?_
    rw [Below.heap_alloc _ _ _ (by simp; omega), Below.heap_alloc _ _ _ (by simp)]
    exact hd
  · rintro k (rfl | rfl | rfl | hk)
    · exact .inr ⟨by omega, by simp⟩
    · exact .inr ⟨by omega, by simp; omega⟩
    · exact .inr ⟨by omega, by simp⟩
    · cases hk

def NewP (ad : Nat → Addr) (n : Int) (w : World) (e : Ending) (w' : World) : Prop :=
  (¬ (1 ≤ n ∧ n ≤ 65536) ∧ e = .returned (.tuple #[.pointer none, errV ad 6]) ∧ Qt w w') ∨
  (1 ≤ n ∧ n ≤ 65536 ∧ ∃ b, e = .returned (.tuple #[.pointer (some ⟨b, 0, none⟩), .nilIface]) ∧ DiskAt w' b (DS.newD n.toNat) (Grow (fun _ => False) w w') ∧ Qt w w')

theorem new_ok (n : Nat) (w : World) (h1 : 1 ≤ n) (h2 : n ≤ 65536) :
    Calls Tryd.prog 21 #[.int .i64 n] w fun e w' => e = .returned (.tuple #[.pointer (some ⟨w.heap.size + 2, 0, none⟩), .nilIface]) ∧ DiskAt w' (w.heap.size + 2) (DS.newD n) (Grow (fun _ => False) w w') ∧ Qt w w' := by
  have hmm := @run_makeMap Tryd.prog
  have hms := make_sectors n h2 w
  have g1 : decide ((n : Int) < 1) = false := by rw [decide_eq_false_iff_not]; omega
  have g2 : decide (65536 < (n : Int)) = false := by rw [decide_eq_false_iff_not]; omega
  obtain ⟨W, hW, hD, hQ⟩ := new_p w n h1 h2
  have HW := Lib.hid hW
  have HD := Lib.hid hD
  have HQ := Lib.hid hQ
  clear hD hQ hW
  go_enter Tryd.func21, Tryd.ntmps21
  go_wp2
  go_ret2
  rw [HW.out]
  exact ⟨rfl, HD.out, HQ.out⟩

theorem new_err (ad : Nat → Addr) (n : Int) (w : World) (hE : Errs ad w) (h : ¬ (1 ≤ n ∧ n ≤ 65536)) :
    Calls Tryd.prog 21 #[.int .i64 n] w fun e w' => e = .returned (.tuple #[.pointer none, errV ad 6]) ∧ Qt w w' := by
  have e6 : w.cell? ⟨4, 0, none⟩ = some (.iface 104 (.pointer (some (ad 6)))) := hE.cells 5 _ rfl
  by_cases h1 : n < 1
  · clear h hE
    go_enter Tryd.func21, Tryd.ntmps21
    go_wp2
    go_quiet (fail)
    go_wp2
    go_ret2
    exact ⟨rfl, (Qt.refl _).drewN _⟩
  · have g1 : decide (n < 1) = false := decide_eq_false h1
    have h2 : 65536 < n := by omega
    clear h hE h1
    go_enter Tryd.func21, Tryd.ntmps21
    go_wp2
    go_quiet (fail)
    go_wp2
    go_ret2
    exact ⟨rfl, (Qt.refl _).drewN _⟩

theorem new_any (ad : Nat → Addr) (n : Int) (w : World) (hE : Errs ad w) : Calls Tryd.prog 21 #[.int .i64 n] w (NewP ad n w) := by
  by_cases h : 1 ≤ n ∧ n ≤ 65536
  · obtain ⟨h1, h2⟩ := h
    obtain ⟨k, rfl⟩ := Int.eq_ofNat_of_zero_le (show 0 ≤ n by omega)
    refine (new_ok k w (by omega) (by omega)).mono ?_
    rintro e w' ⟨he, hD, hQ⟩
    exact .inr ⟨h1, h2, _, he, hD, hQ⟩
  · refine (new_err ad n w hE h).mono ?_
    rintro e w' ⟨he, hQ⟩
    exact .inl ⟨h, he, hQ⟩
end Go.Proofs.YtnnkibhlildojaaDoor
