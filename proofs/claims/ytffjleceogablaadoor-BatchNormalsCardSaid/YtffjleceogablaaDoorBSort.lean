/-
  The landed batch: sorted.
-/
import Derived.Test.YtffjleceogablaaDoorBSortP
import Derived.Test.YtffjleceogablaaDoorBBare
import Derived.Test.YtffjleceogablaaDoorShelf
namespace Go.Proofs.YtffjleceogablaaDoor
open Go.RowKit Go.WideShapes Go.Sort Go.Shelf
set_option maxRecDepth 100000

set_option maxHeartbeats 800000 in
theorem cmp12_any (x y : Bt.O) (w : World) : Calls Tryd.prog 53 #[opV x, opV y] w fun e w' => e = .returned (.int .i64 (Bt.cmpK x y)) ∧ ∃ q os', w' = grow (w.drewN q) os' := by
  obtain ⟨d, k, v⟩ := x
  obtain ⟨d2, k2, v2⟩ := y
  unfold opV Bt.cmpK
  obtain ⟨K, hK, hKl⟩ : ∃ K : ByteArray, strV k = .string K ∧ K.data.toList = k := ⟨⟨k.toArray⟩, rfl, rfl⟩
  obtain ⟨V, hV⟩ : ∃ V : ByteArray, strV v = .string V := ⟨_, rfl⟩
  obtain ⟨K2, hK2, hKl2⟩ : ∃ K : ByteArray, strV k2 = .string K ∧ K.data.toList = k2 := ⟨⟨k2.toArray⟩, rfl, rfl⟩
  obtain ⟨V2, hV2⟩ : ∃ V : ByteArray, strV v2 = .string V := ⟨_, rfl⟩
  simp only [hK, hV, hK2, hV2]
  have hcon := fun W => Tryd.strings_Compare K K2 W
  rw [hKl, hKl2] at hcon
  clear hK hV hK2 hV2 hKl hKl2
  generalize Lib.compareBytes k k2 = r at hcon ⊢
  have GG : ∀ x y : Obj, ∃ q os', (w.alloc x).alloc y = grow (w.drewN q) os' := fun x y => ⟨0, _, by rw [alloc_eq_grow, alloc_eq_grow, grow_grow]; rfl⟩
  have HG := Lib.hid GG
  clear GG
  go_enter Tryd.func53, Tryd.ntmps53
  go_wp2_with (go_at_call 54; refine (hcon _).mono ?_; rintro e w' ⟨rfl, rfl⟩)
  go_ret
  exact ⟨rfl, HG.out _ _⟩
theorem aggOp (W : World) : (isAgg (Tryd.sortO_ren.t 24)).run Tryd.prog W = .ok true W := Tryd.isAgg29 W
theorem sizeOp (W : World) : (Go.sizeOf (Tryd.sortO_ren.t 24)).run Tryd.prog W = .ok 3 W := Tryd.sizeOf29 W
set_option maxHeartbeats 1600000 in
theorem sorted12_any {v : Value} {l m : List Bt.O} (w W : World) (h : NewO w W v l) (ha : Bt.Apart l) (hm : Bt.Norm m) (hmem : ∀ o, o ∈ l ↔ o ∈ m) (hlen : l.length ≤ 17592186044416) :
    Calls Tryd.prog 31 #[v] W fun e W' => e = .returned v ∧ NewO w W' v m ∧ Keeps (fun k => v.ownBlock = some k) W W' := by
  obtain ⟨a, c, rfl⟩ := ownG_shape h.own
  have HN := Lib.hid h
  by_cases hl : l = []
  · subst hl
    have hme : m = [] := by
      cases m with
      | nil => rfl
      | cons x t => exact absurd ((hmem x).2 (by simp)) (by simp)
    subst hme
    have hcon := AnyF.slices_SortFunc_none Tryd.sortO a c (.func (.func 53) #[] #[]) W
    change Calls Tryd.prog 52 _ _ _ at hcon
    clear h ha hm hmem hlen
    go_enter Tryd.func31, Tryd.ntmps31
    go_wp2_with (go_at_call 52; refine hcon.mono ?_; rintro e w' ⟨rfl, rfl⟩)
    go_ret
    exact ⟨rfl, HN.out, Keeps.refl _ _⟩
  · obtain ⟨g, rfl⟩ := ownG_some h.own (by rw [List.length_pos_iff]; exact hl)
    have hsz : l.toArray.size = l.length := by simp
    have own : W.ownsRow 0 29 3 (.slice (some ⟨g, 0, none⟩) l.toArray.size c) l.toArray.size (cellsG opC l.toArray.toList) := by
      have h1 := h.own
      simpa using h1
    have hH := sortK_holds opC_len (by decide) own
    have hblk : g < W.heap.size := ownsRow_lt own rfl
    have eg : ∀ args w, (callFunc 53 args).run Tryd.prog w = .ok (.enter 53 args) w := enters_of Tryd.func53 (by kernel_rfl) rfl
    have hcmp : CmpLays Tryd.prog 53 #[] opC 3 Bt.cmpK g 0 l.toArray.size W := fun _ _ _ _ x y => cmp12_any x y _
    have hcon := AnyQ.slices_SortFunc Tryd.sortO 3 aggOp sizeOp opC opC_len (fun x u hu => opsC_one' [x] u (by simpa [opsC, cellsG] using hu)) Bt.cmpK Bt.swoK 53 #[] g 0 c l.toArray W eg hcmp hH hblk (by rw [hsz]; omega)
    change Calls Tryd.prog 52 _ _ _ at hcon
    rw [hsz] at hcon
    have FN := Lib.hid (fun (d : Array Bt.O) (n : Nat) (os : Array Obj) (hp : PermIn 0 l.length l.toArray d) (hs : SortedIn (ltOf Bt.cmpK) 0 l.length d) => (show NewO w (sortWorldK opC 3 W g 0 n d os) (.slice (some ⟨g, 0, none⟩) l.length c) m from by
      have hd : d.size = l.length := by rw [hp.1, hsz]
      have hpp : d.toList.Perm l := by
        have h2 := hp.2.2
        rw [show d.extract 0 l.length = d by rw [← hd]; simp, show l.toArray.extract 0 l.length = l.toArray by simp] at h2
        simpa using h2
      have e := Bt.sorted_is ha hm hmem hpp (by rw [hd]; exact hs)
      have o2 := sortK_own (d2 := d) opC_len (by decide) own (by rw [hd, hsz]) n os
      rw [hsz, e] at o2
      have hml : m.length = l.length := by rw [← e, ← hd]; simp
      refine ⟨by rw [hml]; exact o2, h.new, Keeps.trans h.qt (sortK_keeps W g n d os) (fun i hi e2 => by have := h.new g rfl; omega)⟩))
    clear h ha hm hmem hlen own hH hblk hcmp eg HN hl
    go_enter Tryd.func31, Tryd.ntmps31
    go_wp2_with (go_at_call 52; refine hcon.mono ?_; rintro e w' ⟨rfl, d', n, os, hp, hs, rfl⟩)
    go_ret
    exact ⟨rfl, FN.out d' n os hp hs, (sortK_keeps W g n d' os).mono (fun k _ e => by rw [e]; rfl)⟩
end Go.Proofs.YtffjleceogablaaDoor
