/-
  The contracts of the comparisons that money's greatestFirst sorts by.
-/
import Derived.Test.YtjjlpjfojgkpkaaGreatDoorMSumM
import Derived.Test.YtjjlpjfojgkpkaaGreatDoorMSortS
import Derived.Deep.RegionHeld3
import Derived.Shelf.SlSortCmp.Whole1
namespace Go.Proofs.YtjjlpjfojgkpkaaGreatDoor
open Go.RowKit Go.WideShapes Go.Sort
set_option maxRecDepth 100000

theorem nanU_any (x : Int) (w : World) : Calls Tryz.prog 99 #[.int .u64 x] w fun e w' => e = .returned (.bool false) ∧ w = w' := by
  go_enter Tryz.func99, Tryz.ntmps99
  go_wp2
  go_ret
  exact ⟨by simp, rfl⟩
theorem nanI_any (x : Int) (w : World) : Calls Tryz.prog 100 #[.int .i64 x] w fun e w' => e = .returned (.bool false) ∧ w = w' := by
  go_enter Tryz.func100, Tryz.ntmps100
  go_wp2
  go_ret
  exact ⟨by simp, rfl⟩
set_option maxHeartbeats 800000 in
theorem cmpU_any (x y : Int) (w : World) : Calls Tryz.prog 67 #[.int .u64 x, .int .u64 y] w fun e w' => e = .returned (.int .i64 (M.cmpI x y)) ∧ w = w' := by
  by_cases h1 : x < y
  · have e : M.cmpI x y = -1 := if_pos h1
    rw [e]
    clear e
    go_enter Tryz.func67, Tryz.ntmps67
    go_wp2_with (go_at_call 99; refine (nanU_any _ _).mono ?_; rintro e w1 ⟨rfl, rfl⟩)
    go_ret
    exact ⟨rfl, rfl⟩
  · by_cases h2 : y < x
    · have e : M.cmpI x y = 1 := by unfold M.cmpI; rw [if_neg h1, if_pos h2]
      rw [e]
      clear e
      go_enter Tryz.func67, Tryz.ntmps67
      go_wp2_with (go_at_call 99; refine (nanU_any _ _).mono ?_; rintro e w1 ⟨rfl, rfl⟩)
      go_ret
      exact ⟨rfl, rfl⟩
    · have e : M.cmpI x y = 0 := by unfold M.cmpI; rw [if_neg h1, if_neg h2]
      rw [e]
      clear e
      go_enter Tryz.func67, Tryz.ntmps67
      go_wp2_with (go_at_call 99; refine (nanU_any _ _).mono ?_; rintro e w1 ⟨rfl, rfl⟩)
      go_ret
      exact ⟨rfl, rfl⟩
set_option maxHeartbeats 800000 in
theorem cmpI_any (x y : Int) (w : World) : Calls Tryz.prog 68 #[.int .i64 x, .int .i64 y] w fun e w' => e = .returned (.int .i64 (M.cmpI x y)) ∧ w = w' := by
  by_cases h1 : x < y
  · have e : M.cmpI x y = -1 := if_pos h1
    rw [e]
    clear e
    go_enter Tryz.func68, Tryz.ntmps68
    go_wp2_with (go_at_call 100; refine (nanI_any _ _).mono ?_; rintro e w1 ⟨rfl, rfl⟩)
    go_ret
    exact ⟨rfl, rfl⟩
  · by_cases h2 : y < x
    · have e : M.cmpI x y = 1 := by unfold M.cmpI; rw [if_neg h1, if_pos h2]
      rw [e]
      clear e
      go_enter Tryz.func68, Tryz.ntmps68
      go_wp2_with (go_at_call 100; refine (nanI_any _ _).mono ?_; rintro e w1 ⟨rfl, rfl⟩)
      go_ret
      exact ⟨rfl, rfl⟩
    · have e : M.cmpI x y = 0 := by unfold M.cmpI; rw [if_neg h1, if_neg h2]
      rw [e]
      clear e
      go_enter Tryz.func68, Tryz.ntmps68
      go_wp2_with (go_at_call 100; refine (nanI_any _ _).mono ?_; rintro e w1 ⟨rfl, rfl⟩)
      go_ret
      exact ⟨rfl, rfl⟩

/-- The first of two that is no 0. -/
def orI (x y : Int) : Int := if x = 0 then y else x
abbrev pairO (x y : Int) : Obj := .cells #[.int .i64 x, .int .i64 y] 3
set_option maxHeartbeats 800000 in
theorem or_at (x y : Int) (b : Nat) (w1 : World) (c0 : w1.cell? ⟨b, 0, none⟩ = some (.int .i64 x)) (c1 : w1.cell? ⟨b, 1, none⟩ = some (.int .i64 y)) : Calls Tryz.prog 66 #[.slice (some ⟨b, 0, none⟩) 2 2] w1 fun e w' => e = .returned (.int .i64 (orI x y)) ∧ w1 = w' := by
  obtain ⟨o, ho⟩ : ∃ o, orI x y = o := ⟨_, rfl⟩
  have HO := Lib.hid ho
  rw [ho]
  clear ho
  go_enter Tryz.func66, Tryz.ntmps66
  go_wp2
  go_loop [8] (fun i => ∃ k : Nat, k ≤ 2 ∧ i = .int .i64 k ∧ (1 ≤ k → x = 0) ∧ (2 ≤ k → y = 0)) (fun i => 2 - (intOf i).toNat)
  case atStart => exact ⟨0, by omega, rfl, by omega, by omega⟩
  case round =>
    obtain ⟨k, hk, rfl, h1, h2⟩ := hrel
    have hk3 : k = 0 ∨ k = 1 ∨ k = 2 := by omega
    rcases hk3 with rfl | rfl | rfl
    · clear h1 h2 hk
      by_cases hx : x = 0
      · have b1 : (x != 0) = false := by rw [hx]; rfl
        have HX := Lib.hid hx
        clear hx
        go_wp2
        go_round
        case rel => exact ⟨1, by omega, by go_num, fun _ => HX.out, by omega⟩
        case measure => simp [intOf]
      · have b1 : (x != 0) = true := by simpa using hx
        have E := Lib.hid (show x = o by rw [← HO.out]; exact (if_neg hx).symm)
        clear hx
        go_wp2
        go_ret
        exact ⟨by rw [← E.out]; rfl, rfl⟩
    · have hx := h1 (by omega)
      clear h1 h2 hk
      by_cases hy : y = 0
      · have b1 : (y != 0) = false := by rw [hy]; rfl
        have HX := Lib.hid hx
        have HY := Lib.hid hy
        clear hx hy
        go_wp2
        go_round
        case rel => exact ⟨2, by omega, by go_num, fun _ => HX.out, fun _ => HY.out⟩
        case measure => simp [intOf]
      · have b1 : (y != 0) = true := by simpa using hy
        have E := Lib.hid (show y = o by rw [← HO.out]; exact (if_pos hx).symm)
        clear hx hy
        go_wp2
        go_ret
        exact ⟨by rw [← E.out]; rfl, rfl⟩
    · have E := Lib.hid (show o = 0 by rw [← HO.out]; unfold orI; rw [if_pos (h1 (by omega))]; exact h2 (by omega))
      clear h1 h2 hk
      go_wp2
      go_ret
      exact ⟨by rw [E.out]; rfl, rfl⟩
theorem or_any (x y : Int) (W : World) : Calls Tryz.prog 66 #[.slice (some ⟨W.heap.size, 0, none⟩) 2 2] (W.alloc (pairO x y)).drew fun e w' => e = .returned (.int .i64 (orI x y)) ∧ (W.alloc (pairO x y)).drew = w' :=
  or_at x y W.heap.size _ (by show (W.alloc (pairO x y)).cell? _ = _; rw [cell_of_row _ _ _ _ _ _ (heap_alloc_new W (pairO x y))]; rfl) (by show (W.alloc (pairO x y)).cell? _ = _; rw [cell_of_row _ _ _ _ _ _ (heap_alloc_new W (pairO x y))]; rfl)
theorem orI_cmp (r : Nat → Nat) (a b : Nat) : orI (M.cmpI (r b) (r a)) (M.cmpI a b) = M.cmpAt r a b := rfl

set_option maxHeartbeats 1600000 in
/-- The comparison of two places. -/
theorem greater_any (r : Nat → Nat) (n c a b bx gr offr : Nat) (W : World) (ha : a < n) (hbn : b < n) (_hc : n ≤ c) (_hn : n ≤ 17592186044416) (hbx : W.cell? ⟨bx, 0, none⟩ = some (.slice (some ⟨gr, offr, none⟩) n c))
    (hra : W.cell? ⟨gr, offr + a, none⟩ = some (.int .u64 (r a))) (hrb : W.cell? ⟨gr, offr + b, none⟩ = some (.int .u64 (r b))) :
    Calls Tryz.prog 65 #[.int .i64 a, .int .i64 b, .pointer (some ⟨bx, 0, none⟩)] W fun e w' => e = .returned (.int .i64 (M.cmpAt r a b)) ∧ ∃ q os, w' = grow (W.drewN q) os := by
  have n1 : (a : Int) < (n : Int) := by omega
  have n2 : (b : Int) < (n : Int) := by omega
  rw [← orI_cmp]
  go_enter Tryz.func65, Tryz.ntmps65
  go_wp2
  go_region_held3 (fun W' => W'.cell? ⟨bx, 0, none⟩ = some (.slice (some ⟨gr, offr, none⟩) n c) ∧ W'.cell? ⟨gr, offr + a, none⟩ = some (.int .u64 (r a)) ∧ W'.cell? ⟨gr, offr + b, none⟩ = some (.int .u64 (r b)))
    (first | go_keep)
    (first | (go_at_call 67; (with_reducible refine (cmpU_any _ _ _).mono ?_); rintro e wA ⟨rfl, rfl⟩) | (go_at_call 68; (with_reducible refine (cmpI_any _ _ _).mono ?_); rintro e wB ⟨rfl, rfl⟩) | (go_at_call 66; (with_reducible refine (or_any _ _ _).mono ?_); rintro e wC ⟨rfl, rfl⟩))
  trace_state
  go_wp2
  go_ret
  exact ⟨rfl, 1, #[_], by rw [alloc_eq_grow]; rfl⟩
end Go.Proofs.YtjjlpjfojgkpkaaGreatDoor
