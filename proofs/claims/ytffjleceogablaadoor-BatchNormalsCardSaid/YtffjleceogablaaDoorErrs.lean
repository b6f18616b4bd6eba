/-
  The errors: package api's variables, and what remitnum.Num tells of them.
-/
import Derived.Test.YtffjleceogablaaDoorOwn
import Derived.Deep.MidRow
import Derived.Deep.DeepCutAuto
import Derived.Outline
namespace Go.Proofs.YtffjleceogablaaDoor
open Go.RowKit
set_option maxRecDepth 100000

/-- The variables' numbers, by the error's number less 1. -/
def gErrs : List Nat := [2, 3, 4, 0, 5, 6, 1, 7, 8, 9, 10, 11, 12, 13, 14, 15, 16, 17, 18, 19, 20, 21, 22, 23, 24, 25, 26, 27, 28, 29, 30, 31, 32, 33, 34, 35, 36]

/-- The errors' variables hold pointers to different texts; ad: where the text of error n lies. -/
structure Errs (ad : Nat → Addr) (w : World) : Prop where
  cells : ∀ i g, gErrs[i]? = some g → w.cell? ⟨g, 0, none⟩ = some (.iface 155 (.pointer (some (ad (i + 1)))))
  apart : ∀ i j, i < 37 → j < 37 → ad (i + 1) = ad (j + 1) → i = j
  blk : ∀ i, i < 37 → ∃ c t, w.heap[(ad (i + 1)).block]? = some (.cells c t (0, 0))

/-- The error of number n (0: none). -/
def errV (ad : Nat → Addr) (n : Nat) : Value := if n = 0 then .nilIface else .iface 155 (.pointer (some (ad n)))

theorem errV_zero (ad : Nat → Addr) : errV ad 0 = .nilIface := rfl
theorem errV_pos (ad : Nat → Addr) {n : Nat} (h : 0 < n) : errV ad n = .iface 155 (.pointer (some (ad n))) := if_neg (by omega)

/-- No error's variable, and none of their texts, lies in a block of S. -/
structure OffErrs (ad : Nat → Addr) (S : Nat → Prop) : Prop where
  vars : ∀ g, g ∈ gErrs → ¬ S g
  texts : ∀ i, i < 37 → ¬ S (ad (i + 1)).block
theorem OffErrs.none (ad : Nat → Addr) : OffErrs ad (fun _ => False) := ⟨fun _ _ h => h, fun _ _ h => h⟩
theorem OffErrs.mono {ad : Nat → Addr} {S T : Nat → Prop} (h : OffErrs ad S) (k : ∀ i, T i → S i) : OffErrs ad T := ⟨fun g hg ht => h.vars g hg (k g ht), fun i hi ht => h.texts i hi (k _ ht)⟩

theorem Errs.kept {ad : Nat → Addr} {S : Nat → Prop} {w w' : World} (h : Errs ad w) (hk : Keeps S w w') (hS : OffErrs ad S) : Errs ad w' := by
  refine ⟨fun i g hg => ?_, h.apart, fun i hi => ?_⟩
  · have hc := h.cells i g hg
    rw [hk.cell (World.block_lt_of_cell? w _ hc) (hS.vars g (List.mem_of_getElem? hg))]
    exact hc
  · obtain ⟨c, t, hb⟩ := h.blk i hi
    exact ⟨c, t, (hk.block _ (lt_of_block hb) (hS.texts i hi)).trans hb⟩
theorem Errs.drewN {ad : Nat → Addr} {w : World} (h : Errs ad w) (n : Nat) : Errs ad (w.drewN n) := ⟨h.cells, h.apart, h.blk⟩
theorem Errs.drew {ad : Nat → Addr} {w : World} (h : Errs ad w) : Errs ad w.drew := ⟨h.cells, h.apart, h.blk⟩
theorem Errs.alloc {ad : Nat → Addr} {w : World} (h : Errs ad w) (o : Obj) : Errs ad (w.alloc o) := h.kept (S := fun _ => False) ((Keeps.refl _ _).alloc o) (OffErrs.none ad)

/-! ### remitnum -/

/-- The array of list. -/
def errArr (ad : Nat → Addr) : Array Value := ((List.range 37).map fun i => Value.iface 155 (.pointer (some (ad (i + 1))))).toArray

set_option maxHeartbeats 2000000 in
theorem list_any (ad : Nat → Addr) (w : World) (hE : Errs ad w) :
    Calls Tryd.prog 39 #[] w fun e w' => e = .returned (.agg (errArr ad)) ∧ Keeps (fun _ => False) w w' := by
  go_enter Tryd.func39, Tryd.ntmps39
  go_upto_region 1 with (fail)
  have hE1 : ∀ o, Errs ad (w.alloc o) := fun o => hE.alloc o
  have hk1 : ∀ o, Keeps (fun _ => False) w (w.alloc o) := fun o => (Keeps.refl _ _).alloc o
  have hb1 : ∀ o, (w.alloc o).heap[w.heap.size]? = some o := heap_alloc_new w
  clear hE
  generalize hw : w.alloc _ = w1
  have hE := hw ▸ hE1 _
  have hk := Lib.hid (hw ▸ hk1 _)
  have hb := Lib.hid (hw ▸ hb1 _)
  clear hE1 hk1 hb1 hw
  have c1 : w1.cell? ⟨2, 0, none⟩ = some (.iface 155 (.pointer (some (ad 1)))) := hE.cells 0 _ rfl
  have c2 : w1.cell? ⟨3, 0, none⟩ = some (.iface 155 (.pointer (some (ad 2)))) := hE.cells 1 _ rfl
  have c3 : w1.cell? ⟨4, 0, none⟩ = some (.iface 155 (.pointer (some (ad 3)))) := hE.cells 2 _ rfl
  have c4 : w1.cell? ⟨0, 0, none⟩ = some (.iface 155 (.pointer (some (ad 4)))) := hE.cells 3 _ rfl
  have c5 : w1.cell? ⟨5, 0, none⟩ = some (.iface 155 (.pointer (some (ad 5)))) := hE.cells 4 _ rfl
  have c6 : w1.cell? ⟨6, 0, none⟩ = some (.iface 155 (.pointer (some (ad 6)))) := hE.cells 5 _ rfl
  have c7 : w1.cell? ⟨1, 0, none⟩ = some (.iface 155 (.pointer (some (ad 7)))) := hE.cells 6 _ rfl
  have c8 : w1.cell? ⟨7, 0, none⟩ = some (.iface 155 (.pointer (some (ad 8)))) := hE.cells 7 _ rfl
  have c9 : w1.cell? ⟨8, 0, none⟩ = some (.iface 155 (.pointer (some (ad 9)))) := hE.cells 8 _ rfl
  have c10 : w1.cell? ⟨9, 0, none⟩ = some (.iface 155 (.pointer (some (ad 10)))) := hE.cells 9 _ rfl
  have c11 : w1.cell? ⟨10, 0, none⟩ = some (.iface 155 (.pointer (some (ad 11)))) := hE.cells 10 _ rfl
  have c12 : w1.cell? ⟨11, 0, none⟩ = some (.iface 155 (.pointer (some (ad 12)))) := hE.cells 11 _ rfl
  have c13 : w1.cell? ⟨12, 0, none⟩ = some (.iface 155 (.pointer (some (ad 13)))) := hE.cells 12 _ rfl
  have c14 : w1.cell? ⟨13, 0, none⟩ = some (.iface 155 (.pointer (some (ad 14)))) := hE.cells 13 _ rfl
  have c15 : w1.cell? ⟨14, 0, none⟩ = some (.iface 155 (.pointer (some (ad 15)))) := hE.cells 14 _ rfl
  have c16 : w1.cell? ⟨15, 0, none⟩ = some (.iface 155 (.pointer (some (ad 16)))) := hE.cells 15 _ rfl
  have c17 : w1.cell? ⟨16, 0, none⟩ = some (.iface 155 (.pointer (some (ad 17)))) := hE.cells 16 _ rfl
  have c18 : w1.cell? ⟨17, 0, none⟩ = some (.iface 155 (.pointer (some (ad 18)))) := hE.cells 17 _ rfl
  have c19 : w1.cell? ⟨18, 0, none⟩ = some (.iface 155 (.pointer (some (ad 19)))) := hE.cells 18 _ rfl
  have c20 : w1.cell? ⟨19, 0, none⟩ = some (.iface 155 (.pointer (some (ad 20)))) := hE.cells 19 _ rfl
  have c21 : w1.cell? ⟨20, 0, none⟩ = some (.iface 155 (.pointer (some (ad 21)))) := hE.cells 20 _ rfl
  have c22 : w1.cell? ⟨21, 0, none⟩ = some (.iface 155 (.pointer (some (ad 22)))) := hE.cells 21 _ rfl
  have c23 : w1.cell? ⟨22, 0, none⟩ = some (.iface 155 (.pointer (some (ad 23)))) := hE.cells 22 _ rfl
  have c24 : w1.cell? ⟨23, 0, none⟩ = some (.iface 155 (.pointer (some (ad 24)))) := hE.cells 23 _ rfl
  have c25 : w1.cell? ⟨24, 0, none⟩ = some (.iface 155 (.pointer (some (ad 25)))) := hE.cells 24 _ rfl
  have c26 : w1.cell? ⟨25, 0, none⟩ = some (.iface 155 (.pointer (some (ad 26)))) := hE.cells 25 _ rfl
  have c27 : w1.cell? ⟨26, 0, none⟩ = some (.iface 155 (.pointer (some (ad 27)))) := hE.cells 26 _ rfl
  have c28 : w1.cell? ⟨27, 0, none⟩ = some (.iface 155 (.pointer (some (ad 28)))) := hE.cells 27 _ rfl
  have c29 : w1.cell? ⟨28, 0, none⟩ = some (.iface 155 (.pointer (some (ad 29)))) := hE.cells 28 _ rfl
  have c30 : w1.cell? ⟨29, 0, none⟩ = some (.iface 155 (.pointer (some (ad 30)))) := hE.cells 29 _ rfl
  have c31 : w1.cell? ⟨30, 0, none⟩ = some (.iface 155 (.pointer (some (ad 31)))) := hE.cells 30 _ rfl
  have c32 : w1.cell? ⟨31, 0, none⟩ = some (.iface 155 (.pointer (some (ad 32)))) := hE.cells 31 _ rfl
  have c33 : w1.cell? ⟨32, 0, none⟩ = some (.iface 155 (.pointer (some (ad 33)))) := hE.cells 32 _ rfl
  have c34 : w1.cell? ⟨33, 0, none⟩ = some (.iface 155 (.pointer (some (ad 34)))) := hE.cells 33 _ rfl
  have c35 : w1.cell? ⟨34, 0, none⟩ = some (.iface 155 (.pointer (some (ad 35)))) := hE.cells 34 _ rfl
  have c36 : w1.cell? ⟨35, 0, none⟩ = some (.iface 155 (.pointer (some (ad 36)))) := hE.cells 35 _ rfl
  have c37 : w1.cell? ⟨36, 0, none⟩ = some (.iface 155 (.pointer (some (ad 37)))) := hE.cells 36 _ rfl
  clear hE
  obtain ⟨b, hbe⟩ : ∃ b, w.heap.size = b := ⟨_, rfl⟩
  rw [hbe] at hb ⊢
  have hle : w.heap.size ≤ b := by omega
  clear hbe
  go_wp2_with (refine wpList_store_row _ rfl 74 _ _ rfl b _ _ 74 rfl rfl hb.out ?hi ?hs ?h1 ?_)
  case hi => kernel_rfl
  case hs => rfl
  case h1 => simp [Value.oneCell']
  have hset := fun cs => setRow_heap w1 b _ cs 74 (0, 0) hb.out
  have fin := Lib.hid (fun cs => Keeps.setRow (g := b) hk.out (fun h => absurd h (by omega)) cs)
  go_wp2
  refine bodyPost_ret (v := .agg (errArr ad)) (results_cell_row (p := 0) (ty := 74) (by kernel_rfl) _ _ b 74 (errArr ad) (0, 0) _ rfl (hset _) Tryd.underlying74 rfl (by kernel_rfl)) rfl ⟨rfl, fin.out _⟩
end Go.Proofs.YtffjleceogablaaDoor
