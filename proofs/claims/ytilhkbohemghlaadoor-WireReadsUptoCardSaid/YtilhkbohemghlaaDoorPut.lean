/-
  The contract of remitlaw01.put.
-/
import Derived.Test.YtilhkbohemghlaaDoorRefW3
import Derived.Test.YtilhkbohemghlaaDoorKept
import Derived.Test.YtilhkbohemghlaaDoorOps
namespace Go.Proofs.YtilhkbohemghlaaDoor
open Go.ChangeShapes Go.WideShapes Go.ChangeAt Go.RowKit
set_option maxRecDepth 100000

theorem Wrote.quiet {b : Nat} {r : Option Nat} {l : List UInt8} {w w1 w2 : World} (h : Wrote b r l w w1) (k : Keeps (fun _ => False) w1 w2) : Wrote b r l w w2 := by
  obtain ⟨r', hw, hk⟩ := h
  exact ⟨r', hw.kept k (fun h => h) (fun _ _ h => h), ⟨hk.keeps.trans k (fun _ _ h => h.elim), hk.later⟩⟩

/-- A boxed value's cells are still there behind a Writer's call. -/
theorem box_wrote {b : Nat} {r : Option Nat} {l l' : List UInt8} {w w1 : World} {C : Array Value} {t : TypeId} (h : Wr b r l w) (h1 : Wrote b r l' (w.alloc (.cells C t)) w1) (j : Nat) : w1.cell? ⟨w.heap.size, j, none⟩ = C[j]? := by
  obtain ⟨r', _, hk⟩ := h1
  have hb := h.lt
  rw [hk.keeps.cell (by simp) (fun e => by rcases e with e | e; simp only at e; omega; have := h.rlt e.symm; simp only at this; omega)]
  exact cell_of_row _ _ _ _ _ _ (heap_alloc_new w _)

section
variable (b : Nat) (r : Option Nat) (l : List UInt8) (o : OpD) (w : World)

set_option maxHeartbeats 400000 in
theorem put_1 (k : Int) (hk : k = 1 ∨ k = 8) (h : Wr b r l w) (ho : o.Ok) (he : o.kind = k) (hlen : l.length + 10 ≤ 140737488355328) :
    Calls Tryd.prog 11 #[.pointer (some ⟨b, 0, none⟩), o.val] w fun e w' => e = .returned (.tuple #[.string ⟨(Lib.uvarint o.u).toArray⟩, .bool true]) ∧ Wrote b r (l ++ Lib.uvarint o.u) w w' := by
  obtain ⟨kind, sec, u, i, n, m, s, v, ss⟩ := o
  simp only at he
  subst he
  have hu := ho.u
  clear ho
  simp only [OpD.val] at hu ⊢
  have hW := Lib.hid h
  have h' := Lib.hid (fun o => h.alloc o)
  have hk' := Lib.hid (fun o => (Kept.refl b r w).alloc o)
  clear h
  rcases hk with rfl | rfl
  all_goals
    go_enter Tryd.func11, Tryd.ntmps11
    go_wp2_with fail
    refine (wuint_any b r l _ _ (h'.out _) hlen hu).mono ?_
    rintro e w1 ⟨rfl, h1⟩
    have d2 : w1.cell? ⟨w.heap.size, 2, none⟩ = some (.int .u64 u) := box_wrote hW.out h1 2
    have fin := Lib.hid (Wrote.trans (hk'.out _) h1); clear h1
    go_wp2_with fail
    refine (refUint_any u w1 hu).mono ?_
    rintro e w2 ⟨rfl, k2⟩
    have fin2 := Lib.hid (fin.out.quiet k2); clear k2 fin d2
    go_wp2
    go_ret2
    exact ⟨rfl, fin2.out⟩

set_option maxHeartbeats 400000 in
theorem put_2 (h : Wr b r l w) (ho : o.Ok) (he : o.kind = 2) (hlen : l.length + 10 ≤ 140737488355328) :
    Calls Tryd.prog 11 #[.pointer (some ⟨b, 0, none⟩), o.val] w fun e w' => e = .returned (.tuple #[.string ⟨(Lib.uvarint (Lib.zigzag o.i)).toArray⟩, .bool true]) ∧ Wrote b r (l ++ Lib.uvarint (Lib.zigzag o.i)) w w' := by
  obtain ⟨kind, sec, u, i, n, m, s, v, ss⟩ := o
  simp only at he
  subst he
  have hu := ho.u; have hi0 := ho.i0; have hi1 := ho.i1
  clear ho
  simp only [OpD.val] at *
  have hW := Lib.hid h
  have h' := Lib.hid (fun o => h.alloc o)
  have hk' := Lib.hid (fun o => (Kept.refl b r w).alloc o)
  clear h
  go_enter Tryd.func11, Tryd.ntmps11
  go_wp2_with fail
  refine (wint_any b r l _ _ (h'.out _) hlen hi0 hi1).mono ?_
  rintro e w1 ⟨rfl, h1⟩
  have d2 : w1.cell? ⟨w.heap.size, 3, none⟩ = some (.int .i64 i) := box_wrote hW.out h1 3
  have fin := Lib.hid (Wrote.trans (hk'.out _) h1); clear h1
  go_wp2_with fail
  refine (refInt_any i w1 hi0 hi1).mono ?_
  rintro e w2 ⟨rfl, k2⟩
  have fin2 := Lib.hid (fin.out.quiet k2); clear k2 fin d2
  go_wp2
  go_ret2
  exact ⟨rfl, fin2.out⟩

set_option maxHeartbeats 400000 in
theorem put_3 (h : Wr b r l w) (ho : o.Ok) (he : o.kind = 3) (hlen : l.length + 10 ≤ 140737488355328) :
    Calls Tryd.prog 11 #[.pointer (some ⟨b, 0, none⟩), o.val] w fun e w' => e = .returned (.tuple #[.string ⟨(lowB 8 o.u).toArray⟩, .bool true]) ∧ Wrote b r (l ++ lowB 8 o.u) w w' := by
  obtain ⟨kind, sec, u, i, n, m, s, v, ss⟩ := o
  simp only at he
  subst he
  have hu := ho.u
  clear ho
  simp only [OpD.val] at *
  have hW := Lib.hid h
  have h' := Lib.hid (fun o => h.alloc o)
  have hk' := Lib.hid (fun o => (Kept.refl b r w).alloc o)
  clear h
  go_enter Tryd.func11, Tryd.ntmps11
  go_wp2_with fail
  refine (wfixed_any b r l _ _ (h'.out _) (by omega) hu).mono ?_
  rintro e w1 ⟨rfl, h1⟩
  have d2 : w1.cell? ⟨w.heap.size, 2, none⟩ = some (.int .u64 u) := box_wrote hW.out h1 2
  have fin := Lib.hid (Wrote.trans (hk'.out _) h1); clear h1
  go_wp2_with fail
  refine (refLow_any 8 u w1 (by decide) hu).mono ?_
  rintro e w2 ⟨rfl, k2⟩
  have fin2 := Lib.hid (fin.out.quiet k2); clear k2 fin d2
  go_wp2
  go_ret2
  exact ⟨rfl, fin2.out⟩

set_option maxHeartbeats 400000 in
theorem put_4 (h : Wr b r l w) (ho : o.Ok) (he : o.kind = 4) (hlen : l.length + 10 ≤ 140737488355328) :
    Calls Tryd.prog 11 #[.pointer (some ⟨b, 0, none⟩), o.val] w fun e w' => e = .returned (.tuple #[.string ⟨[(o.u % 256).toUInt8].toArray⟩, .bool true]) ∧ Wrote b r (l ++ [(o.u % 256).toUInt8]) w w' := by
  obtain ⟨kind, sec, u, i, n, m, s, v, ss⟩ := o
  simp only at he
  subst he
  have hu := ho.u
  clear ho
  simp only [OpD.val] at *
  have hW := Lib.hid h
  have h' := Lib.hid (fun o => h.alloc o)
  have hk' := Lib.hid (fun o => (Kept.refl b r w).alloc o)
  clear h
  go_enter Tryd.func11, Tryd.ntmps11
  go_wp2_with fail
  refine (wbyte_any b r l _ _ (h'.out _) (by omega) (by omega) (by omega)).mono ?_
  rw [show ((u : Int) % 256).toNat = u % 256 by omega]
  rintro e w1 ⟨rfl, h1⟩
  have d2 : w1.cell? ⟨w.heap.size, 2, none⟩ = some (.int .u64 u) := box_wrote hW.out h1 2
  have fin := Lib.hid (Wrote.trans (hk'.out _) h1); clear h1
  go_wp2_with fail
  refine (refLow_any 1 u w1 (by decide) hu).mono ?_
  rintro e w2 ⟨rfl, k2⟩
  have fin2 := Lib.hid (fin.out.quiet k2); clear k2 fin d2
  go_wp2
  go_ret2
  exact ⟨rfl, fin2.out⟩

set_option maxHeartbeats 400000 in
theorem put_5 (h : Wr b r l w) (ho : o.Ok) (he : o.kind = 5) (hlen : l.length + 10 ≤ 140737488355328) :
    Calls Tryd.prog 11 #[.pointer (some ⟨b, 0, none⟩), o.val] w fun e w' => e = .returned (.tuple #[.string ⟨(floatB (o.u % 4294967296)).toArray⟩, .bool true]) ∧ Wrote b r (l ++ floatB (o.u % 4294967296)) w w' := by
  obtain ⟨kind, sec, u, i, n, m, s, v, ss⟩ := o
  simp only at he
  subst he
  have hu := ho.u
  clear ho
  simp only [OpD.val] at *
  have hW := Lib.hid h
  have h' := Lib.hid (fun o => h.alloc o)
  have hk' := Lib.hid (fun o => (Kept.refl b r w).alloc o)
  clear h
  have q2 := Lib.hid (fun w1 => refFloat_any (u % 4294967296) w1 (by omega))
  rw [show ((u % 4294967296 : Nat) : Int) = (u : Int) % 4294967296 by omega] at q2
  go_enter Tryd.func11, Tryd.ntmps11
  go_wp2_with fail
  rw [run_callFunc_extern Tryd.func40 (by kernel_rfl) (by kernel_rfl) (by kernel_rfl) (e := Extern.MathFloatBits.float32frombits) (by kernel_rfl)]
  rw [show ((u : Int) % 4294967296) = ((u % 4294967296 : Nat) : Int) by omega]
  rw [run_float32frombits]
  simp only [Result.andThen]
  rw [Oper.upon_value]
  go_wp2_with fail
  refine (wfloat_any b r l _ _ (h'.out _) (by omega) (by omega)).mono ?_
  rintro e w1 ⟨rfl, h1⟩
  have d2 : w1.cell? ⟨w.heap.size, 2, none⟩ = some (.int .u64 u) := box_wrote hW.out h1 2
  have fin := Lib.hid (Wrote.trans (hk'.out _) h1); clear h1
  go_wp2_with fail
  refine (q2.out w1).mono ?_
  rintro e w2 ⟨rfl, k2⟩
  have fin2 := Lib.hid (fin.out.quiet k2); clear k2 fin d2 q2
  go_wp2
  go_ret2
  exact ⟨rfl, fin2.out⟩

set_option maxHeartbeats 400000 in
theorem put_6 (h : Wr b r l w) (ho : o.Ok) (he : o.kind = 6) (hlen : l.length + o.s.size + 10 ≤ 140737488355328) :
    Calls Tryd.prog 11 #[.pointer (some ⟨b, 0, none⟩), o.val] w fun e w' => e = .returned (.tuple #[.string ⟨(textB o.s.data.toList).toArray⟩, .bool true]) ∧ Wrote b r (l ++ textB o.s.data.toList) w w' := by
  obtain ⟨kind, sec, u, i, n, m, s, v, ss⟩ := o
  simp only at he
  subst he
  have hu := ho.u
  clear ho
  simp only [OpD.val] at *
  have hW := Lib.hid h
  have h' := Lib.hid (fun o => h.alloc o)
  have hk' := Lib.hid (fun o => (Kept.refl b r w).alloc o)
  clear h
  go_enter Tryd.func11, Tryd.ntmps11
  go_wp2_with fail
  refine (wtext_any b r l _ _ (h'.out _) hlen).mono ?_
  rintro e w1 ⟨rfl, h1⟩
  have d2 : w1.cell? ⟨w.heap.size, 6, none⟩ = some (.string s) := box_wrote hW.out h1 6
  have fin := Lib.hid (Wrote.trans (hk'.out _) h1); clear h1
  go_wp2_with fail
  refine (refText_any s w1 (by omega)).mono ?_
  rintro e w2 ⟨rfl, k2⟩
  have fin2 := Lib.hid (fin.out.quiet k2); clear k2 fin d2
  go_wp2
  go_ret2
  exact ⟨rfl, fin2.out⟩

set_option maxHeartbeats 400000 in
theorem put_0 (h : Wr b r l w) (he : o.kind ≠ 1 ∧ o.kind ≠ 2 ∧ o.kind ≠ 3 ∧ o.kind ≠ 4 ∧ o.kind ≠ 5 ∧ o.kind ≠ 6 ∧ o.kind ≠ 7 ∧ o.kind ≠ 8) :
    Calls Tryd.prog 11 #[.pointer (some ⟨b, 0, none⟩), o.val] w fun e w' => e = .returned (.tuple #[.string ⟨#[]⟩, .bool true]) ∧ Wrote b r l w w' := by
  obtain ⟨kind, sec, u, i, n, m, s, v, ss⟩ := o
  simp only [OpD.val] at *
  obtain ⟨e1, e2, e3, e4, e5, e6, e7, e8⟩ := he
  have t1 : (kind == 1) = false := beq_eq_false_iff_ne.2 e1
  have t2 : (kind == 2) = false := beq_eq_false_iff_ne.2 e2
  have t3 : (kind == 3) = false := beq_eq_false_iff_ne.2 e3
  have t4 : (kind == 4) = false := beq_eq_false_iff_ne.2 e4
  have t5 : (kind == 5) = false := beq_eq_false_iff_ne.2 e5
  have t6 : (kind == 6) = false := beq_eq_false_iff_ne.2 e6
  have t7 : (kind == 7) = false := beq_eq_false_iff_ne.2 e7
  have t8 : (kind == 8) = false := beq_eq_false_iff_ne.2 e8
  clear e1 e2 e3 e4 e5 e6 e7 e8
  have h' : ∀ o, Wrote b r l w (w.alloc o) := fun o => ⟨r, h.alloc o, (Kept.refl _ _ _).alloc o⟩
  have h' := Lib.hid h'; clear h
  go_enter Tryd.func11, Tryd.ntmps11
  go_wp2
  go_ret2
  exact ⟨rfl, h'.out _⟩
end
end Go.Proofs.YtilhkbohemghlaaDoor
