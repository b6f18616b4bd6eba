/-
  The contract of New.
  The library's contracts at this seat's dump, laid by program (wip/shelf.py).
  The contract of Image.
-/
import Derived.Test.YtggogaaooacooaaDoorP16
import Derived.Shelf.Strings.Builder1
import Derived.Shelf.Strings.Builder2
import Derived.Shelf.Small.Wraps
import Derived.Shelf.Strings.BuilderF
import Derived.Shelf.Strings.Prefix
import Derived.Test.YtggogaaooacooaaDoorProg
namespace Go.Proofs.YtggogaaooacooaaDoor
open Go.RowKit Go.WideShapes
set_option maxRecDepth 100000

theorem infoSector3 : (Tryd.prog.info? 102).map (fun i => (i.zero, i.size, i.bytes)) = some (some (.agg (Array.replicate 256 (.int .u8 0))), 256, 256) := by kernel_rfl

/-- n sectors of zeros. -/
def zeroCellsN (n : Nat) : Array Value := madeCells (Array.replicate 256 (Value.int .u8 0)) (n * 256)
theorem zeroCellsN_size (n : Nat) : (zeroCellsN n).size = n * 256 := by unfold zeroCellsN; exact size_madeCells _ _
theorem zeroCellsN_get {n j : Nat} (h : j < n * 256) : (zeroCellsN n)[j]? = some (.int .u8 0) := by
  have hz : ∀ x : Nat, (Array.replicate 256 (Value.int .u8 0))[x % (Array.replicate 256 (Value.int .u8 0)).size]! = .int .u8 0 := by
    intro x
    have hx : x % (Array.replicate 256 (Value.int .u8 0)).size < (Array.replicate 256 (Value.int .u8 0)).size := Nat.mod_lt _ (by rw [Array.size_replicate]; decide)
    rw [getElem!_pos (Array.replicate 256 (Value.int .u8 0)) _ hx, Array.getElem_replicate]
  unfold zeroCellsN madeCells
  generalize Array.replicate 256 (Value.int .u8 0) = Z at *
  rw [Array.getElem?_map, Array.getElem?_range, if_pos h]
  simp only [Option.map_some, hz]

theorem make_sectors (n : Nat) (h : n ≤ 65536) (W : World) : (Instr.makeSlice 77 (.int .i64 n) (.int .i64 n)).run Tryd.prog W = .ok (.slice (some ⟨W.heap.size, 0, none⟩) n n) (W.alloc (.cells (zeroCellsN n) 102)) := by
  obtain ⟨i, hi, h1⟩ := Option.map_eq_some_iff.1 infoSector3
  simp only [Prod.mk.injEq] at h1
  obtain ⟨hz, hs, hb⟩ := h1
  have hr := run_make (P := Tryd.prog) W 77 102 i _ Tryd.underlying77 hi hz .i64 .i64 n n (by omega) (by omega) (by rw [hb]; omega) (by omega)
  rw [hs] at hr
  simp only [Int.toNat_natCast] at hr
  exact hr

theorem zeros_range {W : World} {g n : Nat} (h : W.heap[g]? = some (.cells (zeroCellsN n) 102 (0, 0))) : Dur W g (List.replicate n zeros) := by
  refine ⟨⟨_, h, by rw [zeroCellsN_size, List.length_replicate]⟩, fun i s hi j v hj => ?_⟩
  rw [List.getElem?_replicate] at hi
  split at hi
  · injection hi with hi
    subst hi
    have hj2 : j < 256 := by have := (List.getElem?_eq_some_iff.1 hj).1; rw [Lib.byteCells_length] at this; simpa [zeros] using this
    rw [cell_of_row W g _ _ _ _ h, zeroCellsN_get (by omega)]
    have hb : Lib.byteCells zeros = List.replicate 256 (.int .u8 0) := by simp only [Lib.byteCells, zeros, List.map_replicate]; rfl
    rw [hb, List.getElem?_replicate, if_pos hj2] at hj
    exact hj
  · cases hi

theorem new_p (w : World) (n : Nat) (h1 : 1 ≤ n) (h2 : n ≤ 65536) :
    ∃ W, ((w.alloc (.cells (zeroCellsN n) 102)).alloc (.map #[] 0)).alloc (.cells #[.slice (some ⟨w.heap.size, 0, none⟩) n n, .slice none 0 0, .map (some (w.heap.size + 1)), .int .i64 (-1), .bool false, .int .i64 0, .int .i64 0, .int .i64 0] 81) = W ∧
      DiskAt W (w.heap.size + 2) (DS.newD n) (Grow (fun _ => False) w W) ∧ Qt w W := by
  refine ⟨_, rfl, ?_, ((Qt.refl w).alloc _).alloc _ |>.alloc _⟩
  have hm := World.ownsMap_made (w.alloc (.cells (zeroCellsN n) 102)) Tryd.prog 3 (plainElem (H := Unit) Tryd.prog 3)
  have hd := heap_alloc_new w (.cells (zeroCellsN n) 102)
  have h3 := heap_alloc_new ((w.alloc (.cells (zeroCellsN n) 102)).alloc (.map #[] 0)) (.cells #[.slice (some ⟨w.heap.size, 0, none⟩) n n, .slice none 0 0, .map (some (w.heap.size + 1)), .int .i64 (-1), .bool false, .int .i64 0, .int .i64 0, .int .i64 0] 81)
  rw [World.size_alloc] at hm
  rw [World.size_alloc, World.size_alloc] at h3
  refine ⟨w.heap.size, w.heap.size + 1, .slice none 0 0, ⟨DS.Ok.new h1 h2, ?_, ?_, World.ownsRow_nil _ 0 _ 257, .map [], hm.alloc _, MapsTo.nil⟩, ?_⟩
  · rw [h3]
    simp [diskCells, DS.newD]
  · refine zeros_range ?_
    rw [Below.heap_alloc _ _ _ (by simp; omega), Below.heap_alloc _ _ _ (by simp)]
    exact hd
  · rintro k (rfl | rfl | rfl | hk)
    · exact .inr ⟨by omega, by simp⟩
    · exact .inr ⟨by omega, by simp; omega⟩
    · exact .inr ⟨by omega, by simp⟩
    · cases hk

def NewP (ad : Nat → Addr) (n : Int) (w : World) (e : Ending) (w' : World) : Prop :=
  (¬ (1 ≤ n ∧ n ≤ 65536) ∧ e = .returned (.tuple #[.pointer none, errV ad 6]) ∧ Qt w w') ∨
  (1 ≤ n ∧ n ≤ 65536 ∧ ∃ b, e = .returned (.tuple #[.pointer (some ⟨b, 0, none⟩), .nilIface]) ∧ DiskAt w' b (DS.newD n.toNat) (Grow (fun _ => False) w w') ∧ Qt w w')

theorem new_ok (n : Nat) (w : World) (h1 : 1 ≤ n) (h2 : n ≤ 65536) :
    Calls Tryd.prog 9 #[.int .i64 n] w fun e w' => e = .returned (.tuple #[.pointer (some ⟨w.heap.size + 2, 0, none⟩), .nilIface]) ∧ DiskAt w' (w.heap.size + 2) (DS.newD n) (Grow (fun _ => False) w w') ∧ Qt w w' := by
  have hmm := @run_makeMap Tryd.prog
  have hms := make_sectors n h2 w
  have g1 : decide ((n : Int) < 1) = false := by rw [decide_eq_false_iff_not]; omega
  have g2 : decide (65536 < (n : Int)) = false := by rw [decide_eq_false_iff_not]; omega
  obtain ⟨W, hW, hD, hQ⟩ := new_p w n h1 h2
  have HW := Lib.hid hW
  have HD := Lib.hid hD
  have HQ := Lib.hid hQ
  clear hD hQ hW
  go_enter Tryd.func9, Tryd.ntmps9
  go_wp2
  go_ret2
  rw [HW.out]
  exact ⟨rfl, HD.out, HQ.out⟩

theorem new_err (ad : Nat → Addr) (n : Int) (w : World) (hE : Errs ad w) (h : ¬ (1 ≤ n ∧ n ≤ 65536)) :
    Calls Tryd.prog 9 #[.int .i64 n] w fun e w' => e = .returned (.tuple #[.pointer none, errV ad 6]) ∧ Qt w w' := by
  have e6 : w.cell? ⟨0, 0, none⟩ = some (.iface 168 (.pointer (some (ad 6)))) := hE.cells 5 _ rfl
  by_cases h1 : n < 1
  · clear h hE
    go_enter Tryd.func9, Tryd.ntmps9
    go_wp2
    go_quiet (fail)
    go_wp2
    go_ret2
    exact ⟨rfl, (Qt.refl _).drewN _⟩
  · have g1 : decide (n < 1) = false := decide_eq_false h1
    have h2 : 65536 < n := by omega
    clear h hE h1
    go_enter Tryd.func9, Tryd.ntmps9
    go_wp2
    go_quiet (fail)
    go_wp2
    go_ret2
    exact ⟨rfl, (Qt.refl _).drewN _⟩

theorem new_any (ad : Nat → Addr) (n : Int) (w : World) (hE : Errs ad w) : Calls Tryd.prog 9 #[.int .i64 n] w (NewP ad n w) := by
  by_cases h : 1 ≤ n ∧ n ≤ 65536
  · obtain ⟨h1, h2⟩ := h
    obtain ⟨k, rfl⟩ := Int.eq_ofNat_of_zero_le (show 0 ≤ n by omega)
    refine (new_ok k w (by omega) (by omega)).mono ?_
    rintro e w' ⟨he, hD, hQ⟩
    exact .inr ⟨h1, h2, _, he, hD, hQ⟩
  · refine (new_err ad n w hE h).mono ?_
    rintro e w' ⟨he, hQ⟩
    exact .inl ⟨h, he, hQ⟩
end Go.Proofs.YtggogaaooacooaaDoor
namespace Go.Proofs
open Go.Shelf
def Tryd.lays169_ren : Go.Shelf.Ren := ⟨fun | 169 => 47 | n => n, fun | 70 => 96 | 9 => 9 | 0 => 0 | 72 => 98 | 37 => 75 | 127 => 128 | 3 => 3 | 5 => 5 | n => n, fun | n => n⟩
theorem Tryd.lays169 : Go.Proofs.Lays.n169 Tryd.prog Tryd.lays169_ren := {
  mixed := by kernel_rfl
  f169 := Tryd.func47.trans (congrArg some (by kernel_rfl))
  t0 := Tryd.underlying0
  a0 := Tryd.isAgg0
  z0 := Tryd.sizeOf0
  v0 := Tryd.zeroValue0
  t3 := Tryd.underlying3
  a3 := Tryd.isAgg3
  z3 := Tryd.sizeOf3
  v3 := Tryd.zeroValue3
  t9 := Tryd.underlying9
  a9 := Tryd.isAgg9
  z9 := Tryd.sizeOf9
  v9 := Tryd.zeroValue9
  t37 := Tryd.underlying75
  a37 := Tryd.isAgg75
  z37 := Tryd.sizeOf75
  v37 := Tryd.zeroValue75
  t70 := Tryd.underlying96
  a70 := Tryd.isAgg96
  z70 := Tryd.sizeOf96
  v70 := Tryd.zeroValue96
  t72 := Tryd.underlying98
  a72 := Tryd.isAgg98
  z72 := Tryd.sizeOf98
  v72 := Tryd.zeroValue98
  t127 := Tryd.underlying128
  a127 := Tryd.isAgg128
  z127 := Tryd.sizeOf128
  v127 := Tryd.zeroValue128 }
theorem Tryd.Builder_Extra_169 : Builder.Extra Tryd.prog Tryd.lays169_ren := {
  sizeBuilder := by kernel_rfl
  liesBuilder := by kernel_rfl
  t5 := Tryd.underlying5
  a5 := Tryd.isAgg5
  z5 := Tryd.sizeOf5
  v5 := Tryd.zeroValue5
  infoByte := by kernel_rfl
  cellsByte := by kernel_rfl
  sizeByte := by kernel_rfl
  neB5 := by decide }
open Go.RowKit in
theorem Tryd.Builder_String_any (B b : Nat) (l : List UInt8) (w : World) (h : Lib.IsBuilder 98 5 B b (Lib.byteCells l) w) (hBw : B ≤ w.heap.size) :
    Calls Tryd.prog 47 #[.pointer (some ⟨b, 0, none⟩)] w fun e w' => e = .returned (.string ⟨l.toArray⟩) ∧ Below B w w' := Any.Builder_String_any Tryd.lays169 Tryd.Builder_Extra_169 B b l w h hBw
def Tryd.lays165_ren : Go.Shelf.Ren := ⟨fun | 165 => 45 | 240 => 71 | 241 => 72 | 276 => 86 | 277 => 87 | n => n, fun | 70 => 96 | 3 => 3 | 0 => 0 | 4 => 4 | 9 => 9 | 20 => 20 | 72 => 98 | 37 => 75 | 164 => 146 | 5 => 5 | n => n, fun | n => n⟩
theorem Tryd.lays165 : Go.Proofs.Lays.n165 Tryd.prog Tryd.lays165_ren := {
  mixed := by kernel_rfl
  f165 := Tryd.func45.trans (congrArg some (by kernel_rfl))
  f240 := Tryd.func71.trans (congrArg some (by kernel_rfl))
  f241 := Tryd.func72.trans (congrArg some (by kernel_rfl))
  f276 := Tryd.func86.trans (congrArg some (by kernel_rfl))
  f277 := Tryd.func87.trans (congrArg some (by kernel_rfl))
  t0 := Tryd.underlying0
  a0 := Tryd.isAgg0
  z0 := Tryd.sizeOf0
  v0 := Tryd.zeroValue0
  t3 := Tryd.underlying3
  a3 := Tryd.isAgg3
  z3 := Tryd.sizeOf3
  v3 := Tryd.zeroValue3
  t4 := Tryd.underlying4
  a4 := Tryd.isAgg4
  z4 := Tryd.sizeOf4
  v4 := Tryd.zeroValue4
  t9 := Tryd.underlying9
  a9 := Tryd.isAgg9
  z9 := Tryd.sizeOf9
  v9 := Tryd.zeroValue9
  t20 := Tryd.underlying20
  a20 := Tryd.isAgg20
  z20 := Tryd.sizeOf20
  v20 := Tryd.zeroValue20
  t37 := Tryd.underlying75
  a37 := Tryd.isAgg75
  z37 := Tryd.sizeOf75
  v37 := Tryd.zeroValue75
  t70 := Tryd.underlying96
  a70 := Tryd.isAgg96
  z70 := Tryd.sizeOf96
  v70 := Tryd.zeroValue96
  t72 := Tryd.underlying98
  a72 := Tryd.isAgg98
  z72 := Tryd.sizeOf98
  v72 := Tryd.zeroValue98
  t164 := Tryd.underlying146
  a164 := Tryd.isAgg146
  z164 := Tryd.sizeOf146
  v164 := Tryd.zeroValue146 }
theorem Tryd.Builder_Extra_165 : Builder.Extra Tryd.prog Tryd.lays165_ren := {
  sizeBuilder := by kernel_rfl
  liesBuilder := by kernel_rfl
  t5 := Tryd.underlying5
  a5 := Tryd.isAgg5
  z5 := Tryd.sizeOf5
  v5 := Tryd.zeroValue5
  infoByte := by kernel_rfl
  cellsByte := by kernel_rfl
  sizeByte := by kernel_rfl
  neB5 := by decide }
open Go.RowKit in
theorem Tryd.Builder_Grow_fresh (B b n : Nat) (w : World) (hB : B ≤ b) (hbk : w.heap[b]? = some (.cells #[.pointer none, .slice none 0 0] 98 (0, 0))) (hBw : B ≤ w.heap.size) (hn : n ≤ 281474976710656) :
    Calls Tryd.prog 45 #[.pointer (some ⟨b, 0, none⟩), .int .i64 n] w fun e w' => e = .returned (.tuple #[]) ∧ (Lib.BuilderAt 98 5 B b (.pointer (some ⟨b, 0, none⟩)) [] w' ∧ Below B w w') := Any.Builder_Grow_fresh Tryd.lays165 Tryd.Builder_Extra_165 B b n w hB hbk hBw hn
def Tryd.lays103_ren : Go.Shelf.Ren := ⟨fun | 103 => 82 | 210 => 96 | 206 => 105 | n => n, fun | 9 => 9 | 4 => 4 | 24 => 112 | 3 => 3 | n => n, fun | n => n⟩
theorem Tryd.lays103 : Go.Proofs.Lays.n103 Tryd.prog Tryd.lays103_ren := {
  mixed := by kernel_rfl
  f103 := Tryd.func82.trans (congrArg some (by kernel_rfl))
  f206 := Tryd.func105.trans (congrArg some (by kernel_rfl))
  f210 := Tryd.func96.trans (congrArg some (by kernel_rfl))
  t3 := Tryd.underlying3
  a3 := Tryd.isAgg3
  z3 := Tryd.sizeOf3
  v3 := Tryd.zeroValue3
  t4 := Tryd.underlying4
  a4 := Tryd.isAgg4
  z4 := Tryd.sizeOf4
  v4 := Tryd.zeroValue4
  t9 := Tryd.underlying9
  a9 := Tryd.isAgg9
  z9 := Tryd.sizeOf9
  v9 := Tryd.zeroValue9
  t24 := Tryd.underlying112
  a24 := Tryd.isAgg112
  z24 := Tryd.sizeOf112
  v24 := Tryd.zeroValue112 }
open Go.RowKit in
theorem Tryd.strings_CutPrefix (s p : ByteArray) (w : World) :
    Calls Tryd.prog 82 #[.string s, .string p] w fun e w' => e = .returned (.tuple #[.string ⟨(Lib.trimPrefix s.data.toList p.data.toList).toArray⟩, .bool (Lib.hasPrefix s.data.toList p.data.toList)]) ∧ w' = w := Any.strings_CutPrefix Tryd.lays103 s p w
end Go.Proofs
namespace Go.Proofs.YtggogaaooacooaaDoor
open Go.RowKit Go.WideShapes
set_option maxRecDepth 100000

theorem infoBuilderS : (Tryd.prog.info? 98).map (·.size) = some 2 := by kernel_rfl
theorem bcheck_used (b : Nat) (w : World) (h0 : w.cell? ⟨b, 0, none⟩ = some (.pointer (some ⟨b, 0, none⟩))) :
    Calls Tryd.prog 71 #[.pointer (some ⟨b, 0, none⟩)] w fun e w' => e = .returned (.tuple #[]) ∧ w = w' := by
  obtain ⟨j, hj, _⟩ := Option.map_eq_some_iff.1 infoBuilderS
  go_enter Tryd.func71, Tryd.ntmps71
  go_wp2
  rw [Lib.run_neq_ptr_same w _ Tryd.underlying96 hj]
  go_wp2
  go_end0
  exact ⟨rfl, rfl⟩

theorem infoByte3 : (Tryd.prog.info? 5).map (fun i => (i.zero, i.size, i.bytes)) = some (some (.int .u8 0), 1, 1) := by kernel_rfl
theorem neBuilder : 98 ≠ 5 := by decide

theorem bwrite_any (B b : Nat) (bs : List Value) (ad : Addr) (m c : Nat) (news : List Value) (w : World) (h : Lib.BuilderAt 98 5 B b (.pointer (some ⟨b, 0, none⟩)) bs w)
    (hl : news.length = m) (hnews : ∀ j u, news[j]? = some u → w.cell? (ad.add j) = some u) (h1 : ∀ u ∈ news, u.oneCell' = true) (hlen : bs.length + m ≤ 140737488355328) (hBw : B ≤ w.heap.size) :
    Calls Tryd.prog 46 #[.pointer (some ⟨b, 0, none⟩), .slice (some ad) m c] w fun e w' => e = .returned (.tuple #[.int .i64 m, .nilIface]) ∧ Lib.BuilderAt 98 5 B b (.pointer (some ⟨b, 0, none⟩)) (bs ++ news) w' ∧ Below B w w' := by
  obtain ⟨i0, hi, hz0, hz1, hz2⟩ := info_parts infoByte3
  obtain ⟨hB, v, hbk, hown, hne⟩ := h
  have c0 : w.cell? ⟨b, 0, none⟩ = some (.pointer (some ⟨b, 0, none⟩)) := by rw [Lib.cell_of_heap hbk]; rfl
  have c1 : w.cell? ⟨b, 1, none⟩ = some v := by rw [Lib.cell_of_heap hbk]; rfl
  go_enter Tryd.func46, Tryd.ntmps46
  go_wp2_with fail
  refine (bcheck_used b w c0).mono ?_
  rintro e w1 ⟨rfl, rfl⟩
  go_wp2_with (at_builtin; refine wpList_append_own _ rfl _ _ 75 rfl B 5 i0 (.int .u8 0) 1 1 Tryd.underlying75 hi hz0 hz1 hz2 rfl (by decide) _ _ _ rfl hown ad m c news rfl (by omega) hnews h1 ?c3 ?c4 ?c5 ?_)
  case c3 => unfold maxLen; omega
  case c4 => omega
  case c5 => omega
  intro v' w2 hown' hgrow _
  have hlt := lt_of_block hbk
  have hb2 : w2.heap[b]? = some (.cells #[.pointer (some ⟨b, 0, none⟩), v] 98 (0, 0)) := by
    rw [hgrow.block b hlt (fun e => hne e.symm)]
    exact hbk
  have d0 : w2.cell? ⟨b, 0, none⟩ = some (.pointer (some ⟨b, 0, none⟩)) := by rw [Lib.cell_of_heap hb2]; rfl
  have d1 : w2.cell? ⟨b, 1, none⟩ = some v := by rw [Lib.cell_of_heap hb2]; rfl
  have f1 : w2.frozen? ⟨b, 1, none⟩ = false := Lib.frozen_of_heap hb2 1
  obtain ⟨ao, n', cap, rfl⟩ : ∃ ao n' cap, v' = .slice ao n' cap := by
    rcases hown'.2 with ⟨hv, _⟩ | ⟨g, cap, cur, hv, _⟩
    · exact ⟨_, _, _, hv⟩
    · exact ⟨_, _, _, hv⟩
  go_wp2
  go_ret2
  refine ⟨rfl, ?_, ?_⟩
  · exact Lib.BuilderAt.put (T := 98) (e := 5) hB hb2 (bs' := bs ++ news) (by simpa [hl] using hown') neBuilder
  · exact ((Below.refl B w).grown hgrow hBw (fun k hk => (hown.lt k hk).1)).setCell (p := ⟨b, 1, none⟩) hB _

/-- The state of Image's loop. -/
def ImageAt (w : World) (D : List (List UInt8)) (v : Value) (wr : World) : Prop :=
  ∃ k : Nat, k ≤ D.length ∧ v = .int .i64 k ∧ Lib.BuilderAt 98 5 w.heap.size w.heap.size (.pointer (some ⟨w.heap.size, 0, none⟩)) (Lib.byteCells (D.take k).flatten) wr ∧ Below w.heap.size w wr

theorem flat_succ {D : List (List UInt8)} {k : Nat} {s : List UInt8} (h : D[k]? = some s) : (D.take (k + 1)).flatten = (D.take k).flatten ++ s := by
  rw [List.take_add_one, h]; simp
theorem flat_len {D : List (List UInt8)} (h : ∀ (i : Nat) (t : List UInt8), D[i]? = some t → t.length = 256) : ∀ k, k ≤ D.length → (D.take k).flatten.length = k * 256
  | 0, _ => by simp
  | k + 1, hk => by
    have hx : D[k]? = some D[k] := List.getElem?_eq_getElem (by omega)
    rw [flat_succ hx, List.length_append, flat_len h k (by omega), h k _ hx]; omega

section
variable {w : World} {b gd mb : Nat} {uv : Value} {d : DS}

set_option maxHeartbeats 1600000 in
theorem image_p (h : DiskP w b gd mb uv d) :
    Calls Tryd.prog 13 #[.pointer (some ⟨b, 0, none⟩)] w fun e w' => e = .returned (.string ⟨d.image.toArray⟩) ∧ Qt w w' := by
  have hle := h.ok.le
  have hpos := h.ok.pos
  have q1 := (Qt.refl w).alloc (.cells #[.pointer none, .slice none 0 0] 98)
  have hbk := heap_alloc_new w (.cells #[.pointer none, .slice none 0 0] 98)
  have c0 : (w.alloc (.cells #[.pointer none, .slice none 0 0] 98)).cell? ⟨b, 0, none⟩ = some (.slice (some ⟨gd, 0, none⟩) d.dur.length d.dur.length) := Qt.cellv q1 (h.cell 0 (.slice (some ⟨gd, 0, none⟩) d.dur.length d.dur.length) rfl)
  have HE := Lib.hid (fun (k : Nat) (hk : k < d.dur.length) => (List.getElem?_eq_getElem hk : d.dur[k]? = some d.dur[k]))
  have HL := Lib.hid (fun k hk => flat_len h.ok.each k hk)
  have H0 := Lib.hid (fun W (B : Below w.heap.size w W) => (h.kept (Qt.of_below B) (fun _ _ e => e)))
  have HC := Lib.hid (fun W (B : Below w.heap.size w W) => ((h.kept (Qt.of_below B) (fun _ _ e => e)).cell 0 (.slice (some ⟨gd, 0, none⟩) d.dur.length d.dur.length) rfl))
  have HI := Lib.hid (show d.image = d.dur.flatten from rfl)
  have HEA := Lib.hid h.ok.each
  have B0 := Lib.hid ((Below.refl w.heap.size w).alloc (Nat.le_refl _) (.cells #[.pointer none, .slice none 0 0] 98))
  have HBK := Lib.hid hbk
  clear q1 h hbk
  go_enter Tryd.func13, Tryd.ntmps13
  go_wp2_with fail
  refine (Tryd.Builder_Grow_fresh w.heap.size w.heap.size (d.dur.length * 256) _ (Nat.le_refl _) HBK.out (by simp) (by omega)).mono ?_
  rintro e w1 ⟨rfl, hb1, hB1⟩
  have hB2 := B0.out.trans hB1
  have c1 := HC.out w1 hB2
  have HB1 := Lib.hid hb1
  have HB2 := Lib.hid hB2
  clear hb1 hB1 hB2 c0
  go_wp2
  go_loopw [17] (fun v wr => ImageAt w d.dur v wr) (fun v _ => d.dur.length - (intOf v).toNat)
  case atStart => exact ⟨0, Nat.zero_le _, rfl, HB1.out, HB2.out⟩
  case round =>
    obtain ⟨k, hk, rfl, hbr, hBr⟩ := hrel
    by_cases hlt : k < d.dur.length
    · have hx := HE.out k hlt
      have hP := H0.out wr hBr
      have c2 := HC.out wr hBr
      have hln := HEA.out k _ hx
      have hrg := hP.dur.rng k _ hx
      have hz := hBr.size
      generalize d.dur[k] = s at *
      have HW := Lib.hid (bwrite_any w.heap.size w.heap.size _ ⟨gd, k * 256, none⟩ 256 256 (Lib.byteCells s) wr hbr (by rw [Lib.byteCells_length]; exact hln) (fun j u hj => by rw [add_plain]; exact hrg j u hj) (byteCells_one1 s) (by rw [Lib.byteCells_length, HL.out k hk]; omega) hz)
      have HX := Lib.hid hx
      have HBR := Lib.hid hBr
      clear hx hP hln hrg hbr hBr
      go_wp2_with fail
      refine HW.out.mono ?_
      rintro e w2 ⟨rfl, hb2, hB2⟩
      have FIN := Lib.hid (show ImageAt w d.dur (.int .i64 ((k : Int) + 1)) w2 from ⟨k + 1, hlt, by simp, by rw [flat_succ HX.out, Lib.byteCells_append]; exact hb2, HBR.out.trans hB2⟩)
      clear hb2 hB2
      go_wp2
      go_roundw
      case rel => exact FIN.out
      case measure => simp [intOf]; omega
    · obtain rfl : k = d.dur.length := by omega
      have hz := hBr.size
      have HS := Lib.hid (Tryd.Builder_String_any w.heap.size w.heap.size _ wr (.inr hbr) hz)
      have HBR := Lib.hid hBr
      clear hbr hBr hlt
      go_wp2_with fail
      refine HS.out.mono ?_
      rintro e w2 ⟨rfl, hB2⟩
      have FIN := Lib.hid (Qt.of_below (HBR.out.trans hB2))
      clear hB2
      go_wp2
      go_ret
      exact ⟨by rw [HI.out]; rfl, FIN.out⟩
end

theorem image_any (w : World) (b : Nat) (d : DS) (S : Nat → Prop) (h : DiskAt w b d S) :
    Calls Tryd.prog 13 #[.pointer (some ⟨b, 0, none⟩)] w fun e w' => e = .returned (.string ⟨d.image.toArray⟩) ∧ Qt w w' := by
  obtain ⟨gd, mb, uv, h, hS⟩ := h
  exact image_p h
end Go.Proofs.YtggogaaooacooaaDoor
