/-
  The contract of remitlaw06.spare.
-/
import Derived.Test.YtbifhnlinnokaaaDoorLArms
import Derived.Test.YtbifhnlinnokaaaDoorAppList
namespace Go.Proofs.YtbifhnlinnokaaaDoor
open Go.RowKit Go.WideShapes
set_option maxRecDepth 100000

theorem infoBool : (Tryd.prog.info? 4).map (fun i => (i.zero, i.size, i.bytes)) = some (some (.bool false), 1, 1) := by kernel_rfl
def boolCells (l : List Bool) : List Value := l.map Value.bool
theorem boolCells_one (l : List Bool) : ∀ u ∈ boolCells l, u.oneCell' = true := by
  intro u hu
  obtain ⟨c, _, rfl⟩ := List.mem_map.1 hu; rfl

/-- What spare answers: a fate over a row of the call's own, and all of that row. -/
structure Spared (w w' : World) (f : FT) (v full : Value) (B c : Nat) : Prop where
  v : v = .slice (some ⟨B, 0, none⟩) f.kept.length c
  full : full = .slice (some ⟨B, 0, none⟩) (f.kept.length + 3) c
  le : f.kept.length + 3 ≤ c
  cells : w'.rangeAt B 0 (boolCells (f.kept ++ [true, false, true]))
  new : w.heap.size ≤ B
  qt : Qt w w'

theorem Spared.bools {w w' : World} {f : FT} {v full : Value} {B c : Nat} (h : Spared w w' f v full B c) (hl : f.kept.length ≤ 1099511627776) {W : World} (q : Qt w' W) : Bools W v f.kept := by
  refine ⟨some ⟨B, 0, none⟩, c, h.v, hl, fun k x hx => ⟨B, 0, rfl, ?_⟩⟩
  have hk := (List.getElem?_eq_some_iff.1 hx).1
  have hc := h.cells k (.bool x) (by unfold boolCells; rw [List.getElem?_map, List.getElem?_append_left hk, hx]; rfl)
  exact q.cellv hc

theorem own_shape3 {w : World} {e : TypeId} {v : Value} {n : Nat} {xs : List Value} (h : w.ownsRow 0 e 1 v (n + 3) xs) : ∃ g c, v = .slice (some ⟨g, 0, none⟩) (n + 3) c ∧ n + 3 ≤ c := by
  rcases h.2 with ⟨_, h0⟩ | ⟨g, cap, cur, rfl, _, _, hc, _⟩
  · omega
  · exact ⟨g, cap, rfl, hc⟩

theorem keeps3 (W : World) (b : Nat) (x y z : Value) : Keeps (fun k => k = b) W (((W.setCell ⟨b, 0, none⟩ x).setCell ⟨b, 1, none⟩ y).setCell ⟨b, 2, none⟩ z) :=
  Keeps.trans (Keeps.trans (keeps_setCell W b 0 x) (keeps_setCell _ b 1 y) (fun _ _ e => e)) (keeps_setCell _ b 2 z) (fun _ _ e => e)
theorem row3 {W : World} {b : Nat} {a0 a1 a2 : Value} {t : TypeId} (h : W.heap[b]? = some (.cells #[a0, a1, a2] t (0, 0))) (x y z : Value) : (((W.setCell ⟨b, 0, none⟩ x).setCell ⟨b, 1, none⟩ y).setCell ⟨b, 2, none⟩ z).heap[b]? = some (.cells #[x, y, z] t (0, 0)) := by
  rw [setCell_row (setCell_row (setCell_row h 0 x) 1 y) 2 z]
  rfl

/-- The first append: what it turned lies from B on. -/
theorem first_append {W w4 : World} {B c : Nat} {v4 : Value} (hg : W.grownBy w4 (Value.slice (some ⟨B, 0, none⟩) 0 c).ownBlock) (hl : Later W (Value.slice (some ⟨B, 0, none⟩) 0 c).ownBlock v4.ownBlock) : Since B W w4 ∧ ∀ k, v4.ownBlock = some k → B ≤ k ∨ W.heap.size ≤ k := by
  refine ⟨Keeps.grown (Keeps.refl _ W) hg (fun k _ e => by simp [Value.ownBlock] at e; omega), fun k hk => ?_⟩
  rcases hl with e | ⟨g, e, hge⟩
  · rw [e] at hk; simp [Value.ownBlock] at hk; exact .inl (by omega)
  · rw [e] at hk; injection hk with hk; exact .inr (by omega)
theorem second_append {W w4 w5 : World} {B : Nat} {v4 v5 : Value} {o : Obj} (h4 : Since B W w4 ∧ ∀ k, v4.ownBlock = some k → B ≤ k ∨ W.heap.size ≤ k) (hB : B ≤ W.heap.size) (hg : (w4.alloc o).grownBy w5 v4.ownBlock) (hl : Later (w4.alloc o) v4.ownBlock v5.ownBlock) : Since B W w5 ∧ ∀ k, v5.ownBlock = some k → B ≤ k := by
  have hs := h4.1.size
  have h4' : ∀ k, v4.ownBlock = some k → B ≤ k := fun k hk => by rcases h4.2 k hk with q | q <;> omega
  refine ⟨Keeps.grown (h4.1.alloc o) hg (fun k _ e => h4' k e.symm), fun k hk => ?_⟩
  rcases hl with e | ⟨g, e, hge⟩
  · rw [e] at hk; exact h4' k hk
  · rw [e] at hk; injection hk with hk; rw [World.size_alloc] at hge; omega

set_option maxHeartbeats 1600000 in
theorem spare_any (v : Value) (f : FT) (w : World) (hv : Bools w v f.kept) (hl : f.kept.length ≤ 1048576) :
    Calls Tryd.prog 36 #[fateV v f] w fun e w' => ∃ v' full B c, e = .returned (.tuple #[fateV v' f, full]) ∧ Spared w w' f v' full B c := by
  obtain ⟨a, c, rfl, _, hc⟩ := hv
  obtain ⟨i0, hi, hz0, hz1, hz2⟩ := info_parts infoBool
  unfold fateV
  have HC := Lib.hid hc
  clear hc
  have q3 : Qt w (((w.alloc (.cells #[.slice a f.kept.length c, .int .i64 f.torn, .int .i64 f.bytes] 42)).alloc (.cells #[.slice none 0 0, .int .i64 0, .int .i64 0] 42)).alloc (.cells #[] 4)) := (((Qt.refl w).alloc _).alloc _).alloc _
  have e0 := heap_alloc_new w (.cells #[.slice a f.kept.length c, .int .i64 f.torn, .int .i64 f.bytes] 42)
  have e1 := heap_alloc_new (w.alloc (.cells #[.slice a f.kept.length c, .int .i64 f.torn, .int .i64 f.bytes] 42)) (.cells #[.slice none 0 0, .int .i64 0, .int .i64 0] 42)
  have ow := World.ownsRow_made (base := 0) (e := 4) (size := 1) ((w.alloc (.cells #[.slice a f.kept.length c, .int .i64 f.torn, .int .i64 f.bytes] 42)).alloc (.cells #[.slice none 0 0, .int .i64 0, .int .i64 0] 42)) #[] 0 (Nat.zero_le _) (Nat.zero_le _) rfl
  have hz3 : (((w.alloc (.cells #[.slice a f.kept.length c, .int .i64 f.torn, .int .i64 f.bytes] 42)).alloc (.cells #[.slice none 0 0, .int .i64 0, .int .i64 0] 42)).alloc (.cells #[] 4)).heap.size = w.heap.size + 3 := by simp
  obtain ⟨W3, hW3⟩ : ∃ W, (((w.alloc (.cells #[.slice a f.kept.length c, .int .i64 f.torn, .int .i64 f.bytes] 42)).alloc (.cells #[.slice none 0 0, .int .i64 0, .int .i64 0] 42)).alloc (.cells #[] 4)) = W := ⟨_, rfl⟩
  have b0 : (((w.alloc (.cells #[.slice a f.kept.length c, .int .i64 f.torn, .int .i64 f.bytes] 42)).alloc (.cells #[.slice none 0 0, .int .i64 0, .int .i64 0] 42)).alloc (.cells #[] 4)).heap[w.heap.size]? = some (.cells #[.slice a f.kept.length c, .int .i64 f.torn, .int .i64 f.bytes] 42 (0, 0)) := by
    rw [Below.heap_alloc _ _ _ (by simp; omega), Below.heap_alloc _ _ _ (by simp)]; exact e0
  have b1 : (((w.alloc (.cells #[.slice a f.kept.length c, .int .i64 f.torn, .int .i64 f.bytes] 42)).alloc (.cells #[.slice none 0 0, .int .i64 0, .int .i64 0] 42)).alloc (.cells #[] 4)).heap[w.heap.size + 1]? = some (.cells #[.slice none 0 0, .int .i64 0, .int .i64 0] 42 (0, 0)) := by
    rw [Below.heap_alloc _ _ _ (by simp)]
    rw [World.size_alloc] at e1
    exact e1
  have g0 : (((w.alloc (.cells #[.slice a f.kept.length c, .int .i64 f.torn, .int .i64 f.bytes] 42)).alloc (.cells #[.slice none 0 0, .int .i64 0, .int .i64 0] 42)).alloc (.cells #[] 4)).cell? ⟨w.heap.size, 0, none⟩ = some (.slice a f.kept.length c) := by
    rw [cell_of_row _ _ _ _ _ _ b0]; rfl
  rw [World.size_alloc, World.size_alloc] at ow
  rw [hW3] at q3 ow hz3 b0 b1
  have HQ3 := Lib.hid q3
  have HZ3 := Lib.hid hz3
  have HB0 := Lib.hid b0
  have HB1 := Lib.hid b1
  have HW3 := Lib.hid hW3
  have OW := Lib.hid ow
  have hbl : (boolCells f.kept).length = f.kept.length := by simp [boolCells]
  have NEWS := Lib.hid (show boolCells f.kept ≠ [] → ∃ p, a = some p ∧ ∀ (j : Nat) u, (boolCells f.kept)[j]? = some u → W3.cell? (p.add j) = some u by
    intro hne
    have h0 : 0 < f.kept.length := by
      rcases Nat.eq_zero_or_pos f.kept.length with h0 | h0
      · exact absurd (List.eq_nil_of_length_eq_zero (by rw [hbl]; exact h0)) hne
      · exact h0
    obtain ⟨g, o, rfl, _⟩ := HC.out 0 _ (List.getElem?_eq_getElem h0)
    refine ⟨_, rfl, fun j u hj => ?_⟩
    simp only [boolCells, List.getElem?_map, Option.map_eq_some_iff] at hj
    obtain ⟨x, hx, rfl⟩ := hj
    obtain ⟨g', o', e, hc⟩ := HC.out j x hx
    injection e with e
    injection e with e1 e2
    subst e1 e2
    rw [add_plain]
    exact q3.cellv hc)
  have LEN := Lib.hid hbl.symm
  have ONE := Lib.hid (boolCells_one f.kept)
  clear q3 e0 e1 ow hz3 b0 b1 hW3 hbl
  go_enter Tryd.func36, Tryd.ntmps36
  go_wp2_with (first | (rw [HW3.out]; refine wpList_append_list _ rfl (.tmp 5) (.tmp 7) 40 rfl 4 i0 (.bool false) 1 Tryd.underlying40 hi hz0 hz1 hz2 rfl _ 0 [] rfl OW.out a f.kept.length c (boolCells f.kept) rfl LEN.out NEWS.out ONE.out (by rw [← LEN.out]; unfold maxLen; omega) (by rw [← LEN.out]; omega) ?_; intro v4 w4 hown4 hg4 hl4; rw [Nat.zero_add, ← LEN.out, List.nil_append] at hown4; have HO4 := Lib.hid hown4; have HS4 := Lib.hid (first_append hg4 hl4); clear hown4 hg4 hl4) | (refine wpList_append_cells0 _ rfl (.tmp 8) (.tmp 9) 40 rfl 4 i0 (.bool false) 1 1 Tryd.underlying40 hi hz0 hz1 hz2 rfl (by decide) v4 f.kept.length (boolCells f.kept) rfl (ownsRow_kept HO4.out ((Qt.refl w4).alloc _) (fun _ _ e => e)) ⟨w4.heap.size, 0, none⟩ 3 3 (boolCells [true, false, true]) rfl rfl (World.news_of_block (cs := #[.bool true, .bool false, .bool true]) (heap_alloc_new w4 _)) (boolCells_one _) (by unfold maxLen; omega) (by omega) ?_; intro v5 w5 hown5 hg5 hl5 _; obtain ⟨g5, c5, rfl, hc5⟩ := own_shape3 hown5; have HO5 := Lib.hid hown5; have HS5 := Lib.hid (second_append (B := w.heap.size + 2) HS4.out (by rw [HZ3.out]; omega) hg5 hl5); clear hown5 hg5 hl5))
  have hb0 := (HS5.out.1.block w.heap.size (by rw [HZ3.out]; omega) (by omega)).trans HB0.out
  have hb1 := (HS5.out.1.block (w.heap.size + 1) (by rw [HZ3.out]; omega) (by omega)).trans HB1.out
  have d0 : w5.cell? ⟨w.heap.size + 1, 0, none⟩ = some (.slice none 0 0) := by rw [cell_of_row _ _ _ _ _ _ hb1]; rfl
  have d1 : w5.cell? ⟨w.heap.size + 1, 1, none⟩ = some (.int .i64 0) := by rw [cell_of_row _ _ _ _ _ _ hb1]; rfl
  have d2 : w5.cell? ⟨w.heap.size + 1, 2, none⟩ = some (.int .i64 0) := by rw [cell_of_row _ _ _ _ _ _ hb1]; rfl
  have f0 := frozen_of_row hb1 0
  have f1 := frozen_of_row hb1 1
  have f2 := frozen_of_row hb1 2
  have HK := Lib.hid (fun W' (q : Keeps (fun k => k = w.heap.size + 1) w5 W') => (show W'.cell? ⟨w.heap.size, 0, none⟩ = some (.slice a f.kept.length c) ∧ W'.cell? ⟨w.heap.size, 1, none⟩ = some (.int .i64 f.torn) ∧ W'.cell? ⟨w.heap.size, 2, none⟩ = some (.int .i64 f.bytes) from by
    have hb := (q.block w.heap.size (lt_of_block hb0) (by omega)).trans hb0
    refine ⟨?_, ?_, ?_⟩ <;> (rw [cell_of_row _ _ _ _ _ _ hb]; rfl)))
  have n0 : (0 : Int) ≤ (f.kept.length : Int) := by omega
  have n1 : (f.kept.length : Int) ≤ (c5 : Int) := by omega
  have HB5 := Lib.hid hb1
  clear hb0 hb1
  go_region_held (fun W' => W'.cell? ⟨w.heap.size, 0, none⟩ = some (.slice a f.kept.length c) ∧ W'.cell? ⟨w.heap.size, 1, none⟩ = some (.int .i64 f.torn) ∧ W'.cell? ⟨w.heap.size, 2, none⟩ = some (.int .i64 f.bytes))
    (first | exact HK.out _ (Keeps.drew (Keeps.refl _ _)) | exact HK.out _ (Keeps.drew (keeps3 w5 (w.heap.size + 1) _ _ _))) (fail)
  have k6 := keeps3 w5 (w.heap.size + 1) (.slice (some ⟨g5, 0, none⟩) f.kept.length c5) (.int .i64 f.torn) (.int .i64 f.bytes)
  have r6 := row3 HB5.out (.slice (some ⟨g5, 0, none⟩) f.kept.length c5) (.int .i64 f.torn) (.int .i64 f.bytes)
  obtain ⟨W6, hW6⟩ : ∃ W, ((w5.setCell ⟨w.heap.size + 1, 0, none⟩ (.slice (some ⟨g5, 0, none⟩) f.kept.length c5)).setCell ⟨w.heap.size + 1, 1, none⟩ (.int .i64 f.torn)).setCell ⟨w.heap.size + 1, 2, none⟩ (.int .i64 f.bytes) = W := ⟨_, rfl⟩
  rw [hW6] at k6 r6
  rw [hW6]
  have h6 : W6.drew.heap[w.heap.size + 1]? = some (.cells #[.slice (some ⟨g5, 0, none⟩) f.kept.length c5, .int .i64 f.torn, .int .i64 f.bytes] 42 (0, 0)) := r6
  have x0 : W6.drew.cell? ⟨w.heap.size + 1, 0, none⟩ = some (.slice (some ⟨g5, 0, none⟩) f.kept.length c5) := by rw [cell_of_row _ _ _ _ _ _ h6]; rfl
  have x1 : W6.drew.cell? ⟨w.heap.size + 1, 1, none⟩ = some (.int .i64 f.torn) := by rw [cell_of_row _ _ _ _ _ _ h6]; rfl
  have x2 : W6.drew.cell? ⟨w.heap.size + 1, 2, none⟩ = some (.int .i64 f.bytes) := by rw [cell_of_row _ _ _ _ _ _ h6]; rfl
  have k6d : Keeps (fun k => k = w.heap.size + 1) w5 W6.drew := Keeps.drew k6
  obtain ⟨W7, hW7⟩ : ∃ W, W6.drew = W := ⟨_, rfl⟩
  rw [hW7] at x0 x1 x2 k6d
  rw [hW7]
  have hg5 := HS5.out.2 g5 rfl
  have FIN := Lib.hid (show Spared w W7 f (.slice (some ⟨g5, 0, none⟩) f.kept.length c5) (.slice (some ⟨g5, 0, none⟩) (f.kept.length + 3) c5) g5 c5 from ⟨rfl, rfl, hc5, by
      intro j u hj
      have hcat : boolCells (f.kept ++ [true, false, true]) = boolCells f.kept ++ boolCells [true, false, true] := by simp [boolCells]
      rw [hcat] at hj
      have h1 := (World.ownsRowF_of HO5.out).cells (g := g5) rfl j u hj
      rw [add_plain, Nat.zero_add] at h1
      rw [Nat.zero_add]
      exact k6d.cellv h1 (by simp only; omega), by omega,
      Since.qt ((Qt.since HQ3.out).step (Keeps.trans (Keeps.mono HS5.out.1 (fun k _ e => by omega)) k6d (fun k _ e => by omega) : Keeps (fun k => w.heap.size ≤ k) W3 W7) (fun _ e => e))⟩)
  clear k6d k6 r6 h6 hW6 hW7 f0 f1 f2 d0 d1 d2
  go_wp2
  exact bodyPost_ret (v := .tuple #[.agg #[.slice (some ⟨g5, 0, none⟩) f.kept.length c5, .int .i64 f.torn, .int .i64 f.bytes], .slice (some ⟨g5, 0, none⟩) (f.kept.length + 3) c5]) (by simp [results, Tryd.results36, go_sem, x0, x1, x2]) rfl ⟨_, _, _, _, rfl, FIN.out⟩
end Go.Proofs.YtbifhnlinnokaaaDoor
