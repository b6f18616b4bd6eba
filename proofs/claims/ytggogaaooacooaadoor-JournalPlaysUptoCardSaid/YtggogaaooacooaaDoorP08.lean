/-
  The errors: package api's variables, and what remitnum.Num tells of them.
  The frame of a call that only makes new blocks: nothing that was there has turned.
  A disk in memory.
-/
import Derived.Test.YtggogaaooacooaaDoorP04
import Derived.Deep.MidRow
import Derived.Deep.DeepCutAuto
import Derived.Outline
import Derived.Test.YtggogaaooacooaaDoorP05
import Derived.Test.YtggogaaooacooaaDoorP07
import Derived.Maps.OwnSet
import Derived.Maps.Views
namespace Go.Proofs.YtggogaaooacooaaDoor
open Go.RowKit
set_option maxRecDepth 100000

/-- The variables' numbers, by the error's number less 1. -/
def gErrs : List Nat := [4, 5, 6, 7, 8, 0, 1, 9, 10, 11, 12, 2, 13, 14, 15, 16, 3, 17, 18, 19, 20, 21, 22, 23, 24, 25, 26, 27, 28, 29, 30, 31, 32, 33, 34, 35, 36]

/-- The errors' variables hold pointers to different texts; ad: where the text of error n lies. -/
structure Errs (ad : Nat → Addr) (w : World) : Prop where
  cells : ∀ i g, gErrs[i]? = some g → w.cell? ⟨g, 0, none⟩ = some (.iface 168 (.pointer (some (ad (i + 1)))))
  apart : ∀ i j, i < 37 → j < 37 → ad (i + 1) = ad (j + 1) → i = j
  blk : ∀ i, i < 37 → ∃ c t, w.heap[(ad (i + 1)).block]? = some (.cells c t (0, 0))

/-- The error of number n (0: none). -/
def errV (ad : Nat → Addr) (n : Nat) : Value := if n = 0 then .nilIface else .iface 168 (.pointer (some (ad n)))

theorem errV_zero (ad : Nat → Addr) : errV ad 0 = .nilIface := rfl
theorem errV_pos (ad : Nat → Addr) {n : Nat} (h : 0 < n) : errV ad n = .iface 168 (.pointer (some (ad n))) := if_neg (by omega)

/-- No error's variable, and none of their texts, lies in a block of S. -/
structure OffErrs (ad : Nat → Addr) (S : Nat → Prop) : Prop where
  vars : ∀ g, g ∈ gErrs → ¬ S g
  texts : ∀ i, i < 37 → ¬ S (ad (i + 1)).block
theorem OffErrs.none (ad : Nat → Addr) : OffErrs ad (fun _ => False) := ⟨fun _ _ h => h, fun _ _ h => h⟩
theorem OffErrs.mono {ad : Nat → Addr} {S T : Nat → Prop} (h : OffErrs ad S) (k : ∀ i, T i → S i) : OffErrs ad T := ⟨fun g hg ht => h.vars g hg (k g ht), fun i hi ht => h.texts i hi (k _ ht)⟩

theorem Errs.kept {ad : Nat → Addr} {S : Nat → Prop} {w w' : World} (h : Errs ad w) (hk : Keeps S w w') (hS : OffErrs ad S) : Errs ad w' := by
  refine ⟨fun i g hg => ?_, h.apart, fun i hi => ?_⟩
  · have hc := h.cells i g hg
    rw [hk.cell (World.block_lt_of_cell? w _ hc) (hS.vars g (List.mem_of_getElem? hg))]
    exact hc
  · obtain ⟨c, t, hb⟩ := h.blk i hi
    exact ⟨c, t, (hk.block _ (lt_of_block hb) (hS.texts i hi)).trans hb⟩
theorem Errs.drewN {ad : Nat → Addr} {w : World} (h : Errs ad w) (n : Nat) : Errs ad (w.drewN n) := ⟨h.cells, h.apart, h.blk⟩
theorem Errs.drew {ad : Nat → Addr} {w : World} (h : Errs ad w) : Errs ad w.drew := ⟨h.cells, h.apart, h.blk⟩
theorem Errs.alloc {ad : Nat → Addr} {w : World} (h : Errs ad w) (o : Obj) : Errs ad (w.alloc o) := h.kept (S := fun _ => False) ((Keeps.refl _ _).alloc o) (OffErrs.none ad)

/-! ### remitnum -/

/-- The array of list. -/
def errArr (ad : Nat → Addr) : Array Value := ((List.range 37).map fun i => Value.iface 168 (.pointer (some (ad (i + 1))))).toArray

set_option maxHeartbeats 2000000 in
theorem list_any (ad : Nat → Addr) (w : World) (hE : Errs ad w) :
    Calls Tryd.prog 34 #[] w fun e w' => e = .returned (.agg (errArr ad)) ∧ Keeps (fun _ => False) w w' := by
  go_enter Tryd.func34, Tryd.ntmps34
  go_upto_region 1 with (fail)
  have hE1 : ∀ o, Errs ad (w.alloc o) := fun o => hE.alloc o
  have hk1 : ∀ o, Keeps (fun _ => False) w (w.alloc o) := fun o => (Keeps.refl _ _).alloc o
  have hb1 : ∀ o, (w.alloc o).heap[w.heap.size]? = some o := heap_alloc_new w
  clear hE
  generalize hw : w.alloc _ = w1
  have hE := hw ▸ hE1 _
  have hk := Lib.hid (hw ▸ hk1 _)
  have hb := Lib.hid (hw ▸ hb1 _)
  clear hE1 hk1 hb1 hw
  have c1 : w1.cell? ⟨4, 0, none⟩ = some (.iface 168 (.pointer (some (ad 1)))) := hE.cells 0 _ rfl
  have c2 : w1.cell? ⟨5, 0, none⟩ = some (.iface 168 (.pointer (some (ad 2)))) := hE.cells 1 _ rfl
  have c3 : w1.cell? ⟨6, 0, none⟩ = some (.iface 168 (.pointer (some (ad 3)))) := hE.cells 2 _ rfl
  have c4 : w1.cell? ⟨7, 0, none⟩ = some (.iface 168 (.pointer (some (ad 4)))) := hE.cells 3 _ rfl
  have c5 : w1.cell? ⟨8, 0, none⟩ = some (.iface 168 (.pointer (some (ad 5)))) := hE.cells 4 _ rfl
  have c6 : w1.cell? ⟨0, 0, none⟩ = some (.iface 168 (.pointer (some (ad 6)))) := hE.cells 5 _ rfl
  have c7 : w1.cell? ⟨1, 0, none⟩ = some (.iface 168 (.pointer (some (ad 7)))) := hE.cells 6 _ rfl
  have c8 : w1.cell? ⟨9, 0, none⟩ = some (.iface 168 (.pointer (some (ad 8)))) := hE.cells 7 _ rfl
  have c9 : w1.cell? ⟨10, 0, none⟩ = some (.iface 168 (.pointer (some (ad 9)))) := hE.cells 8 _ rfl
  have c10 : w1.cell? ⟨11, 0, none⟩ = some (.iface 168 (.pointer (some (ad 10)))) := hE.cells 9 _ rfl
  have c11 : w1.cell? ⟨12, 0, none⟩ = some (.iface 168 (.pointer (some (ad 11)))) := hE.cells 10 _ rfl
  have c12 : w1.cell? ⟨2, 0, none⟩ = some (.iface 168 (.pointer (some (ad 12)))) := hE.cells 11 _ rfl
  have c13 : w1.cell? ⟨13, 0, none⟩ = some (.iface 168 (.pointer (some (ad 13)))) := hE.cells 12 _ rfl
  have c14 : w1.cell? ⟨14, 0, none⟩ = some (.iface 168 (.pointer (some (ad 14)))) := hE.cells 13 _ rfl
  have c15 : w1.cell? ⟨15, 0, none⟩ = some (.iface 168 (.pointer (some (ad 15)))) := hE.cells 14 _ rfl
  have c16 : w1.cell? ⟨16, 0, none⟩ = some (.iface 168 (.pointer (some (ad 16)))) := hE.cells 15 _ rfl
  have c17 : w1.cell? ⟨3, 0, none⟩ = some (.iface 168 (.pointer (some (ad 17)))) := hE.cells 16 _ rfl
  have c18 : w1.cell? ⟨17, 0, none⟩ = some (.iface 168 (.pointer (some (ad 18)))) := hE.cells 17 _ rfl
  have c19 : w1.cell? ⟨18, 0, none⟩ = some (.iface 168 (.pointer (some (ad 19)))) := hE.cells 18 _ rfl
  have c20 : w1.cell? ⟨19, 0, none⟩ = some (.iface 168 (.pointer (some (ad 20)))) := hE.cells 19 _ rfl
  have c21 : w1.cell? ⟨20, 0, none⟩ = some (.iface 168 (.pointer (some (ad 21)))) := hE.cells 20 _ rfl
  have c22 : w1.cell? ⟨21, 0, none⟩ = some (.iface 168 (.pointer (some (ad 22)))) := hE.cells 21 _ rfl
  have c23 : w1.cell? ⟨22, 0, none⟩ = some (.iface 168 (.pointer (some (ad 23)))) := hE.cells 22 _ rfl
  have c24 : w1.cell? ⟨23, 0, none⟩ = some (.iface 168 (.pointer (some (ad 24)))) := hE.cells 23 _ rfl
  have c25 : w1.cell? ⟨24, 0, none⟩ = some (.iface 168 (.pointer (some (ad 25)))) := hE.cells 24 _ rfl
  have c26 : w1.cell? ⟨25, 0, none⟩ = some (.iface 168 (.pointer (some (ad 26)))) := hE.cells 25 _ rfl
  have c27 : w1.cell? ⟨26, 0, none⟩ = some (.iface 168 (.pointer (some (ad 27)))) := hE.cells 26 _ rfl
  have c28 : w1.cell? ⟨27, 0, none⟩ = some (.iface 168 (.pointer (some (ad 28)))) := hE.cells 27 _ rfl
  have c29 : w1.cell? ⟨28, 0, none⟩ = some (.iface 168 (.pointer (some (ad 29)))) := hE.cells 28 _ rfl
  have c30 : w1.cell? ⟨29, 0, none⟩ = some (.iface 168 (.pointer (some (ad 30)))) := hE.cells 29 _ rfl
  have c31 : w1.cell? ⟨30, 0, none⟩ = some (.iface 168 (.pointer (some (ad 31)))) := hE.cells 30 _ rfl
  have c32 : w1.cell? ⟨31, 0, none⟩ = some (.iface 168 (.pointer (some (ad 32)))) := hE.cells 31 _ rfl
  have c33 : w1.cell? ⟨32, 0, none⟩ = some (.iface 168 (.pointer (some (ad 33)))) := hE.cells 32 _ rfl
  have c34 : w1.cell? ⟨33, 0, none⟩ = some (.iface 168 (.pointer (some (ad 34)))) := hE.cells 33 _ rfl
  have c35 : w1.cell? ⟨34, 0, none⟩ = some (.iface 168 (.pointer (some (ad 35)))) := hE.cells 34 _ rfl
  have c36 : w1.cell? ⟨35, 0, none⟩ = some (.iface 168 (.pointer (some (ad 36)))) := hE.cells 35 _ rfl
  have c37 : w1.cell? ⟨36, 0, none⟩ = some (.iface 168 (.pointer (some (ad 37)))) := hE.cells 36 _ rfl
  clear hE
  obtain ⟨b, hbe⟩ : ∃ b, w.heap.size = b := ⟨_, rfl⟩
  rw [hbe] at hb ⊢
  have hle : w.heap.size ≤ b := by omega
  clear hbe
  go_wp2_with (refine wpList_store_row _ rfl 85 _ _ rfl b _ _ 85 rfl rfl hb.out ?hi ?hs ?h1 ?_)
  case hi => kernel_rfl
  case hs => rfl
  case h1 => simp [Value.oneCell']
  have hset := fun cs => setRow_heap w1 b _ cs 85 (0, 0) hb.out
  have fin := Lib.hid (fun cs => Keeps.setRow (g := b) hk.out (fun h => absurd h (by omega)) cs)
  go_wp2
  refine bodyPost_ret (v := .agg (errArr ad)) (results_cell_row (p := 0) (ty := 85) (by kernel_rfl) _ _ b 85 (errArr ad) (0, 0) _ rfl (hset _) Tryd.underlying85 rfl (by kernel_rfl)) rfl ⟨rfl, fin.out _⟩
end Go.Proofs.YtggogaaooacooaaDoor
namespace Go.Proofs.YtggogaaooacooaaDoor
open Go.RowKit
set_option maxRecDepth 100000

/-- Nothing that was there has turned. -/
abbrev Qt (w w' : World) : Prop := Keeps (fun _ => False) w w'
theorem Qt.refl (w : World) : Qt w w := Keeps.refl _ w
theorem Qt.trans {a b c : World} (h : Qt a b) (k : Qt b c) : Qt a c := Keeps.trans h k (fun _ _ e => e)
theorem Qt.of_below {w w' : World} (h : Below w.heap.size w w') : Qt w w' := (Keeps.of_below h).mono (fun i hi e => by omega)
theorem Qt.below {w w' : World} (h : Qt w w') : Below w.heap.size w w' := Keeps.below h (Nat.le_refl _) (fun _ _ e => e)
/-- A step that touches only what is new since B. -/
abbrev Since (B : Nat) (w w' : World) : Prop := Keeps (fun k => B ≤ k) w w'
theorem Since.step {S : Nat → Prop} {B : Nat} {w w1 w2 : World} (h : Since B w w1) (k : Keeps S w1 w2) (hS : ∀ i, S i → B ≤ i) : Since B w w2 := Keeps.trans h k (fun i _ s => hS i s)
theorem Since.qt {w w' : World} (h : Since w.heap.size w w') : Qt w w' := Keeps.mono h (fun i hi e => by omega)
theorem Qt.since {B : Nat} {w w' : World} (h : Qt w w') : Since B w w' := Keeps.mono h (fun _ _ e => e.elim)

theorem OffErrs.of_ge {ad : Nat → Addr} {w : World} (h : Errs ad w) {S : Nat → Prop} (hS : ∀ k, S k → w.heap.size ≤ k) : OffErrs ad S := by
  refine ⟨fun g hg hs => ?_, fun i hi hs => ?_⟩
  · obtain ⟨i, hi⟩ := List.getElem?_of_mem hg
    have h1 : g < w.heap.size := World.block_lt_of_cell? w _ (h.cells i g hi)
    have := hS g hs
    omega
  · obtain ⟨c, t, hb⟩ := h.blk i hi
    have := lt_of_block hb
    have := hS _ hs
    omega

/-- A cell that stays: a global's. -/
theorem Keeps.cellv {S : Nat → Prop} {w w' : World} (h : Keeps S w w') {p : Addr} {v : Value} (hc : w.cell? p = some v) (hn : ¬ S p.block) : w'.cell? p = some v := (h.cell (World.block_lt_of_cell? w _ hc) hn).trans hc
theorem Qt.cellv {w w' : World} (h : Qt w w') {p : Addr} {v : Value} (hc : w.cell? p = some v) : w'.cell? p = some v := Keeps.cellv h hc (fun e => e)
end Go.Proofs.YtggogaaooacooaaDoor
namespace Go.Proofs.YtggogaaooacooaaDoor
open Go.RowKit
open Go.Maps (Keyed string_keyed int_keyed)
set_option maxRecDepth 100000

/-- The durable sectors, in block g. -/
structure Dur (W : World) (g : Nat) (D : List (List UInt8)) : Prop where
  blk : ∃ C, W.heap[g]? = some (.cells C 102 (0, 0)) ∧ C.size = D.length * 256
  rng : ∀ (i : Nat) (s : List UInt8), D[i]? = some s → W.rangeAt g (i * 256) (Lib.byteCells s)

def wayCells (w : Nat × List UInt8) : List Value := .int .i64 w.1 :: Lib.byteCells w.2
def waysCells (ws : List (Nat × List UInt8)) : List Value := ws.flatMap wayCells

theorem wayCells_length {w : Nat × List UInt8} (h : w.2.length = 256) : (wayCells w).length = 257 := by simp [wayCells, Lib.byteCells_length, h]
theorem waysCells_snoc (ws : List (Nat × List UInt8)) (w : Nat × List UInt8) : waysCells (ws ++ [w]) = waysCells ws ++ wayCells w := by simp [waysCells]
theorem wayCells_one (w : Nat × List UInt8) : ∀ u ∈ wayCells w, u.oneCell' = true := by
  intro u hu
  rcases List.mem_cons.1 hu with rfl | hu
  · rfl
  · obtain ⟨c, _, rfl⟩ := List.mem_map.1 hu; rfl
theorem byteCells_one1 (l : List UInt8) : ∀ u ∈ Lib.byteCells l, u.oneCell' = true := by
  intro u hu
  obtain ⟨c, _, rfl⟩ := List.mem_map.1 hu; rfl

/-- The cells of way k. -/
theorem flatMap_get {α : Type} (f : α → List Value) (m : Nat) : ∀ (l : List α), (∀ (k : Nat) (w : α), l[k]? = some w → (f w).length = m) → ∀ (k : Nat) (w : α), l[k]? = some w → ∀ (j : Nat) (v : Value), (f w)[j]? = some v → (l.flatMap f)[k * m + j]? = some v
  | [], _, k, w, hk, _, _, _ => by simp at hk
  | a :: r, h, 0, w, hk, j, v, hj => by
    simp at hk
    subst hk
    have hl := (List.getElem?_eq_some_iff.1 hj).1
    rw [List.flatMap_cons, List.getElem?_append_left (by omega)]
    simpa using hj
  | a :: r, h, k + 1, w, hk, j, v, hj => by
    have hl : (f a).length = m := h 0 a rfl
    rw [List.flatMap_cons, List.getElem?_append_right (by rw [hl, Nat.succ_mul]; omega), hl]
    rw [show (k + 1) * m + j - m = k * m + j by rw [Nat.succ_mul]; omega]
    exact flatMap_get f m r (fun k w hk => h (k + 1) w hk) k w (by simpa using hk) j v hj

/-- What the map says of the writes under way. -/
structure MapsTo (D : DataW Unit) (ws : List (Nat × List UInt8)) : Prop where
  has : ∀ p : Nat, Maps.has D (.int .i64 p) = (lastAt ws p).isSome
  at' : ∀ (p k : Nat), lastAt ws p = some k → D.atKey (.int .i64 p) (.lit (.int .i64 0)) = .lit (.int .i64 k)

theorem MapsTo.nil : MapsTo (.map []) [] := ⟨fun p => rfl, fun p k h => by cases h⟩

def diskCells (gd mb : Nat) (uv : Value) (d : DS) : Array Value :=
  #[.slice (some ⟨gd, 0, none⟩) d.dur.length d.dur.length, uv, .map (some mb), .int .i64 d.armed, .bool d.off, .int .i64 d.wr, .int .i64 d.fl, .int .i64 d.cr]

structure DiskP (W : World) (b gd mb : Nat) (uv : Value) (d : DS) : Prop where
  ok : d.Ok
  cells : W.heap[b]? = some (.cells (diskCells gd mb uv d) 81 (0, 0))
  dur : Dur W gd d.dur
  ways : W.ownsRow 0 117 257 uv d.ways.length (waysCells d.ways)
  map : ∃ D, W.ownsMap Tryd.prog 3 (plainElem Tryd.prog 3) mb d.ways.length D ∧ MapsTo D d.ways

/-- The blocks of a disk. -/
def foot (b gd mb : Nat) (uv : Value) (k : Nat) : Prop := k = b ∨ k = gd ∨ k = mb ∨ uv.ownBlock = some k

/-- A disk whose blocks are of S. -/
def DiskAt (W : World) (b : Nat) (d : DS) (S : Nat → Prop) : Prop := ∃ gd mb uv, DiskP W b gd mb uv d ∧ ∀ k, foot b gd mb uv k → S k

/-- The blocks of S, and those that are new. -/
def Grow (S : Nat → Prop) (w w' : World) (k : Nat) : Prop := S k ∨ (w.heap.size ≤ k ∧ k < w'.heap.size)

theorem DiskAt.mono {W : World} {b : Nat} {d : DS} {S T : Nat → Prop} (h : DiskAt W b d S) (hT : ∀ k, S k → T k) : DiskAt W b d T := by
  obtain ⟨gd, mb, uv, h, hS⟩ := h
  exact ⟨gd, mb, uv, h, fun k hk => hT k (hS k hk)⟩

theorem DiskP.lt {W : World} {b gd mb : Nat} {uv : Value} {d : DS} (h : DiskP W b gd mb uv d) : ∀ k, foot b gd mb uv k → k < W.heap.size := by
  rintro k (rfl | rfl | rfl | hk)
  · exact lt_of_block h.cells
  · obtain ⟨C, hC, _⟩ := h.dur.blk; exact lt_of_block hC
  · obtain ⟨D, hD, _⟩ := h.map; exact hD.lt
  · exact ownsRow_lt h.ways hk

theorem Dur.kept {S : Nat → Prop} {W W' : World} {g : Nat} {D : List (List UInt8)} (h : Dur W g D) (hk : Keeps S W W') (hS : ¬ S g) : Dur W' g D := by
  obtain ⟨C, hC, hs⟩ := h.blk
  have hg := lt_of_block hC
  refine ⟨⟨C, (hk.block g hg hS).trans hC, hs⟩, fun i s hi j v hj => ?_⟩
  rw [hk.cell (p := ⟨g, i * 256 + j, none⟩) hg hS]
  exact h.rng i s hi j v hj

theorem ownsMap_kept {S : Nat → Prop} {W W' : World} {b n : Nat} {k : TypeId} {R : Value → Option (DataW Unit × List MemPlace)} {D : DataW Unit} (h : W.ownsMap Tryd.prog k R b n D) (hk : Keeps S W W') (hS : ¬ S b) : W'.ownsMap Tryd.prog k R b n D := by
  have hlt := h.lt
  obtain ⟨es, clock, hb, r⟩ := h
  exact ⟨es, clock, (hk.block b hlt hS).trans hb, r⟩

theorem DiskP.kept {S : Nat → Prop} {W W' : World} {b gd mb : Nat} {uv : Value} {d : DS} (h : DiskP W b gd mb uv d) (hk : Keeps S W W') (hS : ∀ k, foot b gd mb uv k → ¬ S k) : DiskP W' b gd mb uv d := by
  obtain ⟨D, hD, hm⟩ := h.map
  exact ⟨h.ok, (hk.block b (lt_of_block h.cells) (hS b (.inl rfl))).trans h.cells, h.dur.kept hk (hS gd (.inr (.inl rfl))), ownsRow_kept h.ways hk (fun k e => hS k (.inr (.inr (.inr e)))), D, ownsMap_kept hD hk (hS mb (.inr (.inr (.inl rfl)))), hm⟩

theorem DiskAt.kept {S T : Nat → Prop} {W W' : World} {b : Nat} {d : DS} (h : DiskAt W b d S) (hk : Keeps T W W') (hS : ∀ k, S k → ¬ T k) : DiskAt W' b d S := by
  obtain ⟨gd, mb, uv, h, hf⟩ := h
  exact ⟨gd, mb, uv, h.kept hk (fun k e => hS k (hf k e)), hf⟩
theorem DiskAt.qt {S : Nat → Prop} {W W' : World} {b : Nat} {d : DS} (h : DiskAt W b d S) (hk : Qt W W') : DiskAt W' b d S := h.kept hk (fun _ _ e => e)
theorem DiskAt.in' {S : Nat → Prop} {W : World} {b : Nat} {d : DS} (h : DiskAt W b d S) : S b := by
  obtain ⟨gd, mb, uv, h, hf⟩ := h; exact hf b (.inl rfl)
theorem DiskAt.ok {S : Nat → Prop} {W : World} {b : Nat} {d : DS} (h : DiskAt W b d S) : d.Ok := by
  obtain ⟨gd, mb, uv, h, hf⟩ := h; exact h.ok

/-- The blocks lie apart: their types are unlike. -/
theorem DiskP.apart {W : World} {b gd mb : Nat} {uv : Value} {d : DS} (h : DiskP W b gd mb uv d) : b ≠ gd ∧ b ≠ mb ∧ gd ≠ mb ∧ uv.ownBlock ≠ some b ∧ uv.ownBlock ≠ some gd ∧ uv.ownBlock ≠ some mb := by
  obtain ⟨C, hC, _⟩ := h.dur.blk
  obtain ⟨D, ⟨es, clock, hm, _⟩, _⟩ := h.map
  have hb := h.cells
  have hu : ∀ k, uv.ownBlock = some k → ∃ cur, W.heap[k]? = some (.cells cur 117 (0, 0)) := by
    intro k hk
    rcases h.ways.2 with ⟨e, _⟩ | ⟨g, cap, cur, e, _, hg, _⟩
    · rw [e] at hk; cases hk
    · rw [e] at hk
      have : g = k := by simpa [Value.ownBlock] using hk
      subst this
      exact ⟨cur, hg⟩
  refine ⟨?_, ?_, ?_, ?_, ?_, ?_⟩
  · rintro rfl; rw [hC] at hb; injection hb with hb; injection hb with _ e; cases e
  · rintro rfl; rw [hm] at hb; injection hb with hb; cases hb
  · rintro rfl; rw [hm] at hC; injection hC with hC; cases hC
  · intro e; obtain ⟨cur, hc⟩ := hu b e; rw [hc] at hb; injection hb with hb; injection hb with _ e; cases e
  · intro e; obtain ⟨cur, hc⟩ := hu gd e; rw [hc] at hC; injection hC with hC; injection hC with _ e; cases e
  · intro e; obtain ⟨cur, hc⟩ := hu mb e; rw [hc] at hm; injection hm with hm; cases hm

/-- A cell of the disk's own. -/
theorem DiskP.cell {W : World} {b gd mb : Nat} {uv : Value} {d : DS} (h : DiskP W b gd mb uv d) (i : Nat) (v : Value) (hi : (diskCells gd mb uv d)[i]? = some v) : W.cell? ⟨b, i, none⟩ = some v := by
  rw [cell_of_row W b i _ _ _ h.cells]; exact hi
theorem frozen_of_row {W : World} {b : Nat} {C : Array Value} {t : TypeId} (h : W.heap[b]? = some (.cells C t (0, 0))) (i : Nat) : W.frozen? ⟨b, i, none⟩ = false := Lib.frozen_of_heap h i

/-- Behind a store into cell i of a row. -/
theorem setCell_row {W : World} {b : Nat} {C : Array Value} {t : TypeId} (h : W.heap[b]? = some (.cells C t (0, 0))) (i : Nat) (v : Value) : (W.setCell ⟨b, i, none⟩ v).heap[b]? = some (.cells (C.setIfInBounds i v) t (0, 0)) := by
  rw [setCell_eq_setRow W b i C t (0, 0) v h]
  exact setRow_heap W b _ _ t _ h
theorem keeps_setCell (W : World) (b i : Nat) (v : Value) : Keeps (fun k => k = b) W (W.setCell ⟨b, i, none⟩ v) := (Keeps.refl (fun k => k = b) W).setCell (p := ⟨b, i, none⟩) (fun _ => rfl) v

/-- The disk's own cells turned, nothing else of it. -/
theorem DiskP.turn {W W' : World} {b gd mb : Nat} {uv : Value} {d d' : DS} (h : DiskP W b gd mb uv d) (hk : Keeps (fun k => k = b) W W') (hc : W'.heap[b]? = some (.cells (diskCells gd mb uv d') 81 (0, 0))) (ho : d'.Ok) (h1 : d'.dur = d.dur) (h2 : d'.ways = d.ways) : DiskP W' b gd mb uv d' := by
  obtain ⟨a1, a2, a3, a4, a5, a6⟩ := h.apart
  obtain ⟨D, hD, hm⟩ := h.map
  refine ⟨ho, hc, ?_, ?_, D, ?_, ?_⟩
  · rw [h1]; exact h.dur.kept hk (fun e => a1 e.symm)
  · rw [h2]; exact ownsRow_kept h.ways hk (fun k e1 e2 => by subst e2; exact a4 e1)
  · rw [h2]; exact ownsMap_kept hD hk (fun e => a2 e.symm)
  · rw [h2]; exact hm
theorem DiskP.at {W : World} {b gd mb : Nat} {uv : Value} {d : DS} {S : Nat → Prop} (h : DiskP W b gd mb uv d) (hS : ∀ k, foot b gd mb uv k → S k) : DiskAt W b d S := ⟨gd, mb, uv, h, hS⟩
end Go.Proofs.YtggogaaooacooaaDoor
