/-
  A Builder of the call's own: a text written to it.
  Small facts on numbers, out of a walk's wide context.
-/
import Derived.Test.YtggogaaooacooaaDoorP15
import Derived.Test.YtggogaaooacooaaDoorP25
import Derived.IntWalk
namespace Go.Proofs.YtggogaaooacooaaDoor
open Go.RowKit Go.WideShapes
set_option maxRecDepth 100000

theorem builder_qt {T e : TypeId} {B b : Nat} {p : Value} {bs : List Value} {w w' : World} (h : Lib.BuilderAt T e B b p bs w) (q : Qt w w') : Lib.BuilderAt T e B b p bs w' := by
  obtain ⟨hB, v, hbk, hown, hne⟩ := h
  exact ⟨hB, v, (q.block b (lt_of_block hbk) (fun e => e)).trans hbk, ownsRow_kept hown q (fun _ _ e => e), hne⟩
theorem bwriteS_any (B b : Nat) (bs : List Value) (s : ByteArray) (w : World) (h : Lib.BuilderAt 98 5 B b (.pointer (some ⟨b, 0, none⟩)) bs w) (hlen : bs.length + s.size ≤ 140737488355328) (hBw : B ≤ w.heap.size) :
    Calls Tryd.prog 83 #[.pointer (some ⟨b, 0, none⟩), .string s] w fun e w' => e = .returned (.tuple #[.int .i64 s.size, .nilIface]) ∧ Lib.BuilderAt 98 5 B b (.pointer (some ⟨b, 0, none⟩)) (bs ++ Lib.strCells s) w' ∧ Below B w w' := by
  obtain ⟨i0, hi, hz0, hz1, hz2⟩ := info_parts infoByte3
  obtain ⟨hB, v, hbk, hown, hne⟩ := h
  have c0 : w.cell? ⟨b, 0, none⟩ = some (.pointer (some ⟨b, 0, none⟩)) := by rw [Lib.cell_of_heap hbk]; rfl
  have c1 : w.cell? ⟨b, 1, none⟩ = some v := by rw [Lib.cell_of_heap hbk]; rfl
  go_enter Tryd.func83, Tryd.ntmps83
  go_wp2_with fail
  refine (bcheck_used b w c0).mono ?_
  rintro e w1 ⟨rfl, rfl⟩
  go_wp2_with (at_builtin; refine Lib.wpList_append_own_string _ rfl _ _ 75 9 rfl B 5 i0 Tryd.underlying75 Tryd.underlying9 hi hz0 hz1 hz2 _ _ _ rfl hown s rfl ?c3 ?c4 ?c5 ?_)
  case c3 => unfold maxLen; omega
  case c4 => omega
  case c5 => omega
  intro v' w2 hown' hgrow _
  have hlt := lt_of_block hbk
  have hb2 : w2.heap[b]? = some (.cells #[.pointer (some ⟨b, 0, none⟩), v] 98 (0, 0)) := by
    rw [hgrow.block b hlt (fun e => hne e.symm)]
    exact hbk
  have d0 : w2.cell? ⟨b, 0, none⟩ = some (.pointer (some ⟨b, 0, none⟩)) := by rw [Lib.cell_of_heap hb2]; rfl
  have d1 : w2.cell? ⟨b, 1, none⟩ = some v := by rw [Lib.cell_of_heap hb2]; rfl
  have f1 : w2.frozen? ⟨b, 1, none⟩ = false := Lib.frozen_of_heap hb2 1
  obtain ⟨ao, n', cap, rfl⟩ : ∃ ao n' cap, v' = .slice ao n' cap := by
    rcases hown'.2 with ⟨hv, _⟩ | ⟨g, cap, cur, hv, _⟩
    · exact ⟨_, _, _, hv⟩
    · exact ⟨_, _, _, hv⟩
  go_wp2
  go_ret2
  refine ⟨rfl, ?_, ?_⟩
  · exact Lib.BuilderAt.put (T := 98) (e := 5) hB hb2 (bs' := bs ++ Lib.strCells s) (by simpa [Lib.strCells_length] using hown') neBuilder
  · exact ((Below.refl B w).grown hgrow hBw (fun k hk => (hown.lt k hk).1)).setCell (p := ⟨b, 1, none⟩) hB _
end Go.Proofs.YtggogaaooacooaaDoor
namespace Go.Proofs.YtggogaaooacooaaDoor
open Go.RowKit
set_option maxRecDepth 100000

theorem sj_room {k C i n : Nat} (h : k < C) (h2 : i + C ≤ n) : i + k < n := by omega
theorem sj_kb {k C i n : Nat} (h : k < C) (h2 : i + C ≤ n) (h3 : n ≤ 65536) : k ≤ 65536 := by omega
theorem sj_lt {k C : Nat} (h : k < C) : decide ((k : Int) < (C : Int)) = true := decide_eq_true (by omega)
theorem sj_ge {k C : Nat} (h : C ≤ k) : decide ((k : Int) < (C : Int)) = false := decide_eq_false (by omega)
theorem sj_w1 {k : Nat} (h : k ≤ 65536) : wrap64 ((k : Int) + 1) = (k : Int) + 1 := by unfold wrap64; omega
theorem sj_w1b {k : Nat} (h : k ≤ 140737488355328) : wrap64 ((k : Int) + 1) = (k : Int) + 1 := by unfold wrap64; omega
theorem sj_in {k n : Nat} (h : k < n) : (0 : Int) ≤ (k : Int) ∧ (k : Int) < (n : Int) := by omega
theorem sj_w2 {i k : Nat} (h : i ≤ 65536) (h2 : k ≤ 65536) : wrap64 ((i : Int) + (k : Int)) = (i : Int) + (k : Int) := by unfold wrap64; omega
theorem sj_w2i {i k : Nat} (h : i ≤ 65536) (h2 : k ≤ 65536) : IntKind.i64.wrap ((i : Int) + (k : Int)) = (i : Int) + (k : Int) := by rw [IntKind.wrap_i64]; omega
theorem sj_w2b {i k : Nat} (h : i ≤ 65536) (h2 : k ≤ 140737488355328) : wrap64 ((i : Int) + (k : Int)) = (i : Int) + (k : Int) := by unfold wrap64; omega
theorem sj_sub {u e z : Nat} (h : e ≤ u) (h2 : u ≤ z) (h3 : z ≤ 1099511627776) : wrap64 ((u : Int) - (e : Int)) = ((u - e : Nat) : Int) := by unfold wrap64; omega
theorem sj_ib {i C n : Nat} (h : i + C ≤ n) (h3 : n ≤ 65536) : i ≤ 65536 := by omega
theorem sj_meas {k n : Nat} (h : k < n) : n - (intOf (.int .i64 ((k : Int) + 1))).toNat < n - (intOf (.int .i64 (k : Int))).toNat := by simp [intOf]; omega
theorem sj_meas2 {k m n : Nat} (h : k < n) (hm : k < m) : n - (intOf (.int .i64 ((m : Nat) : Int))).toNat < n - (intOf (.int .i64 (k : Int))).toNat := by simp [intOf]; omega
theorem sj_pos0 {k : Nat} (h : k = 0) : decide (0 < (k : Int)) = false ∧ decide (0 < k) = false := ⟨decide_eq_false (by omega), decide_eq_false (by omega)⟩
theorem sj_pos1 {k : Nat} (h : ¬ k = 0) : decide (0 < (k : Int)) = true ∧ decide (0 < k) = true := ⟨decide_eq_true (by omega), decide_eq_true (by omega)⟩
theorem sj_bd {o y z u e : Nat} (h : o ≤ z) (hy : y = u - e) (hu : u ≤ z) (hz : z ≤ 1099511627776) : o + y ≤ 140737488355328 := by omega
theorem sj_eq {k C : Nat} (h : k ≤ C) (h2 : ¬ k < C) : k = C := by omega
theorem sj_u64 {z : Nat} (h : z ≤ 1099511627776) : z < 18446744073709551616 := by omega
theorem sj_ol {z k o : Nat} (h : o = min k z) : o ≤ z := by omega
theorem sj_ne {a b : Nat} (h : a = b) : ((a : Int) != (b : Int)) = false := by rw [bne_eq_false_iff_eq, h]
theorem sj_ne' {a b : Nat} (h : a ≠ b) : ((a : Int) != (b : Int)) = true := by rw [bne_iff_ne]; omega
theorem sj_succ {k : Nat} : (k : Int) + 1 = ((k + 1 : Nat) : Int) := by omega
end Go.Proofs.YtggogaaooacooaaDoor
