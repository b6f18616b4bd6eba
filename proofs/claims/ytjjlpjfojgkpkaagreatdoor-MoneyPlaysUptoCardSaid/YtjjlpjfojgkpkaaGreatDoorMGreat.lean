/-
  The contract of money's greatestFirst.
-/
import Derived.Test.YtjjlpjfojgkpkaaGreatDoorMRows
namespace Go.Proofs.YtjjlpjfojgkpkaaGreatDoor
open Go.RowKit Go.WideShapes Go.Sort Go.Shelf
set_option maxRecDepth 100000

theorem infoInts : (Tryz.prog.info? 3).map (fun i => (i.zero, i.size, i.bytes)) = some (some (.int .i64 0), 1, 8) := by kernel_rfl
/-- The first k places laid. -/
def placesL (n k : Nat) : List Int := (List.range k).map Int.ofNat ++ List.replicate (n - k) 0
theorem placesL_length {n k : Nat} (h : k ≤ n) : (placesL n k).length = n := by simp [placesL]; omega
theorem placesL_at {n k : Nat} (h : k < n) : (placesL n k)[k]? = some 0 := by
  unfold placesL
  rw [List.getElem?_append_right (by simp), List.length_map, List.length_range, Nat.sub_self, List.getElem?_replicate, if_pos (by omega)]
theorem placesL_step {n k : Nat} (h : k < n) : (cellsI .i64 (placesL n k)).setIfInBounds k (.int .i64 (k : Int)) = cellsI .i64 (placesL n (k + 1)) := by
  rw [cellsI_set]
  congr 1
  exact M.set_next (f := Int.ofNat) h
theorem placesL_end (n : Nat) : placesL n n = (List.range n).map Int.ofNat := by unfold placesL; rw [Nat.sub_self]; simp

/-- What greatestFirst answers: a row of all places, each ahead of those behind it. -/
def GreatV (r : Nat → Nat) (n : Nat) (w : World) (e : Ending) (w' : World) : Prop :=
  ∃ g o, e = .returned (.slice (some ⟨g, 0, none⟩) n n) ∧ w.heap.size ≤ g ∧ RowI .i64 w' g 3 (o.map Int.ofNat) ∧ M.Sorted r n o ∧ Qt w w'

set_option maxHeartbeats 3200000 in
theorem sortP_any (r : Nat → Nat) (n bx gr offr cr g : Nat) (T : TypeId) (W : World) (hn : 0 < n) (hn2 : n ≤ 17592186044416) (hcr : n ≤ cr) (hrow : RowI .i64 W g T ((List.range n).map Int.ofNat)) (hbx : W.cell? ⟨bx, 0, none⟩ = some (.slice (some ⟨gr, offr, none⟩) n cr)) (hbg : bx ≠ g) (hgg : gr ≠ g)
    (hr : ∀ i, i < n → W.cell? ⟨gr, offr + i, none⟩ = some (.int .u64 (r i))) :
    Calls Tryz.prog 64 #[.slice (some ⟨g, 0, none⟩) n n, .func (.func 65) #[] #[.pointer (some ⟨bx, 0, none⟩)]] W fun e w' => e = .returned (.tuple #[]) ∧ ∃ o, RowI .i64 w' g T (o.map Int.ofNat) ∧ M.Sorted r n o ∧ Keeps (fun j => j = g) W w' := by
  haveI : Inhabited (Fin n) := ⟨⟨0, hn⟩⟩
  have eg : ∀ args w, (callFunc 65 args).run Tryz.prog w = .ok (.enter 65 args) w := enters_of Tryz.func65 (by kernel_rfl) rfl
  have hcmp : CmpLays1 Tryz.prog 65 #[.pointer (some ⟨bx, 0, none⟩)] (encF n) (M.cmpF r n) g 0 (M.allF n).size W := by
    intro m os dk hdk x y
    have K := sortWorld_keeps (encF n) W g m dk os
    exact greater_any r n cr x.val y.val bx gr offr _ x.isLt y.isLt hcr hn2 (K.cellv hbx hbg) (K.cellv (hr x.val x.isLt) hgg) (K.cellv (hr y.val y.isLt) hgg)
  have h := Tryz.slices_SortFunc (encF n) (fun _ => rfl) (M.cmpF r n) (M.swoF r n) 65 #[.pointer (some ⟨bx, 0, none⟩)] g 0 n (M.allF n) W eg hcmp (holds_row hrow) hrow.lt (by rw [M.allF_size]; omega)
  rw [M.allF_size] at h
  refine Calls.mono h ?_
  rintro e w' ⟨rfl, d', m, os, hp, hs, rfl⟩
  have hd : d'.size = n := by rw [hp.1, M.allF_size]
  exact ⟨rfl, M.valsF d', sortWorld_row hrow m d' hd os, M.sorted_vals r n d' hp hs, sortWorld_keeps _ _ _ _ _ _⟩

set_option maxHeartbeats 3200000 in
theorem greatest_any (r : Nat → Nat) (n gr offr cr : Nat) (w : World) (hn : 0 < n) (hn2 : n ≤ 17592186044416) (hcr : n ≤ cr) (hg : gr < w.heap.size)
    (hr : ∀ i, i < n → w.cell? ⟨gr, offr + i, none⟩ = some (.int .u64 (r i))) :
    Calls Tryz.prog 37 #[.slice (some ⟨gr, offr, none⟩) n cr] w (GreatV r n w) := by
  have hmk := fun (W : World) => run_make_row' (P := Tryz.prog) 25 3 (.int .i64 0) 8 Tryz.underlying25 infoInts rfl .i64 .i64 n (by omega) (by omega) W
  rw [cellsI_made] at hmk
  go_enter Tryz.func37, Tryz.ntmps37
  go_upto_region 1 with (fail)
  have hk1 := fun o => (Qt.refl w).alloc o
  have hb1 : ∀ o, (w.alloc o).heap[w.heap.size]? = some o := heap_alloc_new w
  have hs1 : ∀ o, (w.alloc o).heap.size = w.heap.size + 1 := fun o => World.size_alloc w o
  generalize hw : w.alloc _ = w1
  have k1 := hw ▸ hk1 _
  have hb := hw ▸ hb1 _
  have hs := hw ▸ hs1 _
  have hbx : w1.cell? ⟨w.heap.size, 0, none⟩ = some (.slice (some ⟨gr, offr, none⟩) n cr) := by rw [cell_of_row _ _ _ _ _ _ hb]; rfl
  have HR := Lib.hid (fun i (hi : i < n) => Qt.cellv k1 (hr i hi))
  have K1 := Lib.hid k1
  have HS := Lib.hid hs
  have HG := Lib.hid hg
  clear hk1 hb1 hs1 hw hb hr k1 hs hg
  obtain ⟨bx, hbxe⟩ : ∃ b, w.heap.size = b := ⟨_, rfl⟩
  rw [hbxe] at hbx HS HG ⊢
  have HB := Lib.hid hbxe
  clear hbxe
  have HX := Lib.hid hbx
  have HN := Lib.hid (And.intro hn (And.intro hn2 hcr))
  clear hn hn2 hcr
  go_wp2
  clear hbx
  go_loopw [10] (fun i wr => ∃ k : Nat, k ≤ n ∧ i = .int .i64 k ∧ wr = w1.alloc (.cells (cellsI .i64 (placesL n k)) 3)) (fun i _ => n - (intOf i).toNat)
  case atStart => exact ⟨0, Nat.zero_le _, rfl, rfl⟩
  case round =>
    obtain ⟨k, hk, rfl, rfl⟩ := hrel
    by_cases hlt : k < n
    · have hrow := RowI.new .i64 w1 3 (placesL n k)
      have c0 := hrow.cell (placesL_at hlt)
      have f0 := hrow.frozen k
      have st := placesL_step hlt
      have hn2 := HN.out.2.1
      clear hrow
      go_wp2
      go_roundw
      case rel => exact ⟨k + 1, hlt, by go_num, rfl⟩
      case measure => simp [intOf]; omega
    · obtain rfl : k = n := by omega
      have hrow := RowI.new .i64 w1 3 (placesL k k)
      rw [placesL_end k] at hrow ⊢
      have q : Qt w1 _ := (Qt.refl w1).alloc (.cells (cellsI .i64 ((List.range k).map Int.ofNat)) 3)
      have SO := Lib.hid (sortP_any r k bx gr offr cr w1.heap.size 3 _ HN.out.1 HN.out.2.1 HN.out.2.2 hrow (Qt.cellv q HX.out) (by have := HS.out; omega) (by have := HS.out; have := HG.out; omega) (fun i hi => Qt.cellv q (HR.out i hi)))
      have Q := Lib.hid q
      clear hrow q hlt hk
      go_wp2_with fail
      refine (SO.out).mono ?_
      rintro e w3 ⟨rfl, o, hro, hso, hk3⟩
      have FN := Lib.hid (show GreatV r k w (.returned (.slice (some ⟨w1.heap.size, 0, none⟩) k k)) w3 from
        ⟨w1.heap.size, o, rfl, by have := HS.out; have := HB.out; omega, hro, hso, Qt.trans K1.out ((Keeps.trans Q.out hk3 (fun j hj e => by subst e; omega)))⟩)
      clear hro hso hk3
      go_wp2
      go_ret
      exact FN.out
end Go.Proofs.YtjjlpjfojgkpkaaGreatDoor
