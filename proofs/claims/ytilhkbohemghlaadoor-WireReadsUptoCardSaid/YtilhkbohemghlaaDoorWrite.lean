/-
  The contract of remitlaw01.write.
-/
import Derived.Test.YtilhkbohemghlaaDoorSpecD
import Derived.Test.YtilhkbohemghlaaDoorFixed
namespace Go.Proofs.YtilhkbohemghlaaDoor
open Go.RowKit
set_option maxRecDepth 100000

/-- What write leaves: bool, and the bytes behind. -/
def WriteDone (b : Nat) (r : Option Nat) (l : List UInt8) (x : Option (List UInt8)) (w : World) (e : Ending) (w' : World) : Prop :=
  match x with
  | none => e = .returned (.bool false) ∧ Wrote b r l w w'
  | some y => e = .returned (.bool true) ∧ Wrote b r (l ++ y) w w'

set_option maxHeartbeats 400000 in
theorem write_1 (k : Int) (hk : k = 1 ∨ k = 8) (b : Nat) (r : Option Nat) (l : List UInt8) (o : OpD) (w : World) (h : Wr b r l w) (ho : o.Ok) (he : o.kind = k) (hlen : l.length + 10 ≤ 140737488355328) :
    Calls Tryd.prog 21 #[.pointer (some ⟨b, 0, none⟩), o.val] w fun e w' => e = .returned (.bool true) ∧ Wrote b r (l ++ Lib.uvarint o.u) w w' := by
  obtain ⟨kind, sec, u, i, n, m, s, v, ss⟩ := o
  simp only at he
  subst he
  have hu := ho.u
  clear ho
  simp only [OpD.val] at hu ⊢
  have h' : ∀ o, Wr b r l (w.alloc o) := fun o => h.alloc o
  have hk' : ∀ o, Kept b r r w (w.alloc o) := fun o => (Kept.refl _ _ _).alloc o
  have h' := Lib.hid h'; have hk' := Lib.hid hk'; clear h
  rcases hk with rfl | rfl
  all_goals
    go_enter Tryd.func21, Tryd.ntmps21
    go_wp2_with fail
    refine (wuint_any b r l _ _ (h'.out _) hlen hu).mono ?_
    rintro e w1 ⟨rfl, h1⟩
    have fin := Lib.hid (Wrote.trans (hk'.out _) h1); clear h1
    go_wp2
    go_ret
    exact ⟨rfl, fin.out⟩

set_option maxHeartbeats 400000 in
theorem write_2 (b : Nat) (r : Option Nat) (l : List UInt8) (o : OpD) (w : World) (h : Wr b r l w) (ho : o.Ok) (he : o.kind = 2) (hlen : l.length + 10 ≤ 140737488355328) :
    Calls Tryd.prog 21 #[.pointer (some ⟨b, 0, none⟩), o.val] w fun e w' => e = .returned (.bool true) ∧ Wrote b r (l ++ Lib.uvarint (Lib.zigzag o.i)) w w' := by
  obtain ⟨kind, sec, u, i, n, m, s, v, ss⟩ := o
  simp only at he
  subst he
  have hu := ho.u; have hi0 := ho.i0; have hi1 := ho.i1
  clear ho
  simp only [OpD.val] at *
  have h' : ∀ o, Wr b r l (w.alloc o) := fun o => h.alloc o
  have hk' : ∀ o, Kept b r r w (w.alloc o) := fun o => (Kept.refl _ _ _).alloc o
  have h' := Lib.hid h'; have hk' := Lib.hid hk'; clear h
  go_enter Tryd.func21, Tryd.ntmps21
  go_wp2_with fail
  refine (wint_any b r l _ _ (h'.out _) hlen hi0 hi1).mono ?_
  rintro e w1 ⟨rfl, h1⟩
  have fin := Lib.hid (Wrote.trans (hk'.out _) h1); clear h1
  go_wp2
  go_ret
  exact ⟨rfl, fin.out⟩

set_option maxHeartbeats 400000 in
theorem write_3 (b : Nat) (r : Option Nat) (l : List UInt8) (o : OpD) (w : World) (h : Wr b r l w) (ho : o.Ok) (he : o.kind = 3) (hlen : l.length + 10 ≤ 140737488355328) :
    Calls Tryd.prog 21 #[.pointer (some ⟨b, 0, none⟩), o.val] w fun e w' => e = .returned (.bool true) ∧ Wrote b r (l ++ lowB 8 o.u) w w' := by
  obtain ⟨kind, sec, u, i, n, m, s, v, ss⟩ := o
  simp only at he
  subst he
  have hu := ho.u; have hi0 := ho.i0; have hi1 := ho.i1
  clear ho
  simp only [OpD.val] at *
  have h' : ∀ o, Wr b r l (w.alloc o) := fun o => h.alloc o
  have hk' : ∀ o, Kept b r r w (w.alloc o) := fun o => (Kept.refl _ _ _).alloc o
  have h' := Lib.hid h'; have hk' := Lib.hid hk'; clear h
  go_enter Tryd.func21, Tryd.ntmps21
  go_wp2_with fail
  refine (wfixed_any b r l _ _ (h'.out _) (by omega) hu).mono ?_
  rintro e w1 ⟨rfl, h1⟩
  have fin := Lib.hid (Wrote.trans (hk'.out _) h1); clear h1
  go_wp2
  go_ret
  exact ⟨rfl, fin.out⟩

set_option maxHeartbeats 400000 in
theorem write_4 (b : Nat) (r : Option Nat) (l : List UInt8) (o : OpD) (w : World) (h : Wr b r l w) (ho : o.Ok) (he : o.kind = 4) (hlen : l.length + 10 ≤ 140737488355328) :
    Calls Tryd.prog 21 #[.pointer (some ⟨b, 0, none⟩), o.val] w fun e w' => e = .returned (.bool true) ∧ Wrote b r (l ++ [(o.u % 256).toUInt8]) w w' := by
  obtain ⟨kind, sec, u, i, n, m, s, v, ss⟩ := o
  simp only at he
  subst he
  have hu := ho.u; have hi0 := ho.i0; have hi1 := ho.i1
  clear ho
  simp only [OpD.val] at *
  have h' : ∀ o, Wr b r l (w.alloc o) := fun o => h.alloc o
  have hk' : ∀ o, Kept b r r w (w.alloc o) := fun o => (Kept.refl _ _ _).alloc o
  have h' := Lib.hid h'; have hk' := Lib.hid hk'; clear h
  go_enter Tryd.func21, Tryd.ntmps21
  go_wp2_with fail
  refine (wbyte_any b r l _ _ (h'.out _) (by omega) (by omega) (by omega)).mono ?_
  rw [show ((u : Int) % 256).toNat = u % 256 by omega]
  rintro e w1 ⟨rfl, h1⟩
  have fin := Lib.hid (Wrote.trans (hk'.out _) h1); clear h1
  go_wp2
  go_ret
  exact ⟨rfl, fin.out⟩

set_option maxHeartbeats 400000 in
theorem write_5 (b : Nat) (r : Option Nat) (l : List UInt8) (o : OpD) (w : World) (h : Wr b r l w) (ho : o.Ok) (he : o.kind = 5) (hlen : l.length + 10 ≤ 140737488355328) :
    Calls Tryd.prog 21 #[.pointer (some ⟨b, 0, none⟩), o.val] w fun e w' => e = .returned (.bool true) ∧ Wrote b r (l ++ floatB (o.u % 4294967296)) w w' := by
  obtain ⟨kind, sec, u, i, n, m, s, v, ss⟩ := o
  simp only at he
  subst he
  have hu := ho.u; have hi0 := ho.i0; have hi1 := ho.i1
  clear ho
  simp only [OpD.val] at *
  have h' : ∀ o, Wr b r l (w.alloc o) := fun o => h.alloc o
  have hk' : ∀ o, Kept b r r w (w.alloc o) := fun o => (Kept.refl _ _ _).alloc o
  have h' := Lib.hid h'; have hk' := Lib.hid hk'; clear h
  go_enter Tryd.func21, Tryd.ntmps21
  go_wp2_with fail
  rw [run_callFunc_extern Tryd.func40 (by kernel_rfl) (by kernel_rfl) (by kernel_rfl) (e := Extern.MathFloatBits.float32frombits) (by kernel_rfl)]
  rw [show ((u : Int) % 4294967296) = ((u % 4294967296 : Nat) : Int) by omega]
  rw [run_float32frombits]
  simp only [Result.andThen]
  rw [Oper.upon_value]
  go_wp2_with fail
  refine (wfloat_any b r l _ _ (h'.out _) (by omega) (by omega)).mono ?_
  rintro e w1 ⟨rfl, h1⟩
  have fin := Lib.hid (Wrote.trans (hk'.out _) h1); clear h1
  go_wp2
  go_ret
  exact ⟨rfl, fin.out⟩

set_option maxHeartbeats 400000 in
theorem write_6 (b : Nat) (r : Option Nat) (l : List UInt8) (o : OpD) (w : World) (h : Wr b r l w) (ho : o.Ok) (he : o.kind = 6) (hlen : l.length + o.s.size + 10 ≤ 140737488355328) :
    Calls Tryd.prog 21 #[.pointer (some ⟨b, 0, none⟩), o.val] w fun e w' => e = .returned (.bool true) ∧ Wrote b r (l ++ textB o.s.data.toList) w w' := by
  obtain ⟨kind, sec, u, i, n, m, s, v, ss⟩ := o
  simp only at he
  subst he
  have hu := ho.u; have hi0 := ho.i0; have hi1 := ho.i1
  clear ho
  simp only [OpD.val] at *
  have h' : ∀ o, Wr b r l (w.alloc o) := fun o => h.alloc o
  have hk' : ∀ o, Kept b r r w (w.alloc o) := fun o => (Kept.refl _ _ _).alloc o
  have h' := Lib.hid h'; have hk' := Lib.hid hk'; clear h
  go_enter Tryd.func21, Tryd.ntmps21
  go_wp2_with fail
  refine (wtext_any b r l _ _ (h'.out _) hlen).mono ?_
  rintro e w1 ⟨rfl, h1⟩
  have fin := Lib.hid (Wrote.trans (hk'.out _) h1); clear h1
  go_wp2
  go_ret
  exact ⟨rfl, fin.out⟩

set_option maxHeartbeats 400000 in
theorem write_7 (b : Nat) (r : Option Nat) (l : List UInt8) (o : OpD) (w : World) (h : Wr b r l w) (ho : o.Ok) (he : o.kind = 7) (g g0 : Nat) (hs : Strs w o.v g g0 o.ss) (hd : o.ss ≠ [] → g ≠ b ∧ some g ≠ r) (hlen : l.length + (eachB o.ss).length + 20 ≤ 140737488355328) :
    Calls Tryd.prog 21 #[.pointer (some ⟨b, 0, none⟩), o.val] w fun e w' => e = .returned (.bool true) ∧ Wrote b r (l ++ textsB o.ss) w w' := by
  obtain ⟨kind, sec, u, i, n, m, s, v, ss⟩ := o
  simp only at he
  subst he
  have hu := ho.u; have hi0 := ho.i0; have hi1 := ho.i1
  clear ho
  simp only [OpD.val] at *
  have h' : ∀ o, Wr b r l (w.alloc o) := fun o => h.alloc o
  have hk' : ∀ o, Kept b r r w (w.alloc o) := fun o => (Kept.refl _ _ _).alloc o
  have h' := Lib.hid h'; have hk' := Lib.hid hk'; clear h
  have hs' := Lib.hid (fun o => hs.alloc o); have hd' := Lib.hid hd; clear hs hd
  go_enter Tryd.func21, Tryd.ntmps21
  go_wp2_with fail
  refine (wtexts_any b r l _ g g0 ss _ (h'.out _) (hs'.out _) hd'.out hlen).mono ?_
  rintro e w1 ⟨rfl, h1⟩
  have fin := Lib.hid (Wrote.trans (hk'.out _) h1); clear h1
  go_wp2
  go_ret
  exact ⟨rfl, fin.out⟩

set_option maxHeartbeats 400000 in
theorem write_0 (b : Nat) (r : Option Nat) (l : List UInt8) (o : OpD) (w : World) (h : Wr b r l w) (he : o.kind ≠ 1 ∧ o.kind ≠ 2 ∧ o.kind ≠ 3 ∧ o.kind ≠ 4 ∧ o.kind ≠ 5 ∧ o.kind ≠ 6 ∧ o.kind ≠ 7 ∧ o.kind ≠ 8) :
    Calls Tryd.prog 21 #[.pointer (some ⟨b, 0, none⟩), o.val] w fun e w' => e = .returned (.bool false) ∧ Wrote b r l w w' := by
  obtain ⟨kind, sec, u, i, n, m, s, v, ss⟩ := o
  simp only [OpD.val] at *
  obtain ⟨e1, e2, e3, e4, e5, e6, e7, e8⟩ := he
  have t1 : (kind == 1) = false := beq_eq_false_iff_ne.2 e1
  have t2 : (kind == 2) = false := beq_eq_false_iff_ne.2 e2
  have t3 : (kind == 3) = false := beq_eq_false_iff_ne.2 e3
  have t4 : (kind == 4) = false := beq_eq_false_iff_ne.2 e4
  have t5 : (kind == 5) = false := beq_eq_false_iff_ne.2 e5
  have t6 : (kind == 6) = false := beq_eq_false_iff_ne.2 e6
  have t7 : (kind == 7) = false := beq_eq_false_iff_ne.2 e7
  have t8 : (kind == 8) = false := beq_eq_false_iff_ne.2 e8
  clear e1 e2 e3 e4 e5 e6 e7 e8
  have h' : ∀ o, Wrote b r l w (w.alloc o) := fun o => ⟨r, h.alloc o, (Kept.refl _ _ _).alloc o⟩
  have h' := Lib.hid h'; clear h
  go_enter Tryd.func21, Tryd.ntmps21
  go_wp2
  go_ret
  exact ⟨rfl, h'.out _⟩
end Go.Proofs.YtilhkbohemghlaaDoor
