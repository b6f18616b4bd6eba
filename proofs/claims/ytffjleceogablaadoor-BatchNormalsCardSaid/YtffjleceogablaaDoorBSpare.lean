/-
  The contracts of remitlaw12.spare and kept: a copy of ops with spare room; is it as it was?
-/
import Derived.Test.YtffjleceogablaaDoorBSame
import Derived.RangeFuncBox
namespace Go.Proofs.YtffjleceogablaaDoor
open Go.RowKit Go.WideShapes
set_option maxRecDepth 100000

def spO : Bt.O := ⟨false, [115, 112, 97, 114, 101], []⟩
def rmO : Bt.O := ⟨false, [114, 111, 111, 109], []⟩
set_option maxHeartbeats 1600000 in
theorem spare12_any {g o : Nat} {v : Value} {ops : List Bt.O} (w : World) (hr : OpsIn w v g o ops) (hb : (ops.length + 2) * 40 ≤ 140737488355328) :
    Calls Tryd.prog 11 #[v] w fun e w' => ∃ gm cm, e = .returned (.tuple #[.slice (some ⟨gm, 0, none⟩) ops.length cm, .slice (some ⟨gm, 0, none⟩) (ops.length + 2) cm]) ∧ w.heap.size ≤ gm ∧
      w'.ownsRow 0 29 3 (.slice (some ⟨gm, 0, none⟩) (ops.length + 2) cm) (ops.length + 2) (opsC (ops ++ [spO, rmO])) ∧ Qt w w' := by
  have HR := Lib.hid hr
  obtain ⟨a, cap, rfl, ha⟩ := hr.val
  clear hr ha
  obtain ⟨i0, hi0, hz0, hz1, hz2⟩ := info_parts infoOp12
  have HB := Lib.hid hb
  clear hb
  have q0 : Qt w (w.alloc (.cells #[] 29)) := (Qt.refl w).alloc _
  have NW1 := recs_news opC_len (by decide) (recs_turn HR.out q0)
  have hb1 : 0 + ops.length ≤ maxLen := by have := HB.out; unfold maxLen; omega
  have hb2 : (0 + ops.length) * 40 ≤ 140737488355328 := by have := HB.out; omega
  have Q0 := Lib.hid q0
  clear q0
  go_enter Tryd.func11, Tryd.ntmps11
  go_wp2_with (at_builtin; refine wpList_append_rows _ rfl _ _ 22 rfl 29 i0 (.agg #[.bool false, .string ⟨#[]⟩, .string ⟨#[]⟩]) 3 40 Tryd.underlying22 hi0 hz0 hz1 hz2 rfl (by decide) _ 0 (opsC []) rfl (op_new0 w) _ ops.length _ (opsC ops) rfl (opsC_length ops) NW1 (opsC_one' ops) hb1 hb2 ?_)
  intro v1 x1 own1 gr1 la1
  have NG := ownG_more (W := w) (l := []) (k := ops) (fun g e => by injection e with e; subst e; exact Nat.le_refl _) Q0.out (by simp) (by rw [cellsG_append]) own1 gr1 la1
  rw [List.nil_append] at NG
  clear own1 hb1 hb2 NW1 gr1 la1
  obtain ⟨a1, c1, rfl⟩ := ownG_shape NG.own
  have OW := Lib.hid (fun o => (show (x1.alloc o).ownsRow 0 29 3 (.slice a1 ops.length c1) ops.length (opsC ops) from ownsRow_kept NG.own ((Keeps.refl (fun _ => False) x1).alloc o) (fun _ _ e => e)))
  have hb1 : ops.length + 2 ≤ maxLen := by have := HB.out; unfold maxLen; omega
  have hb2 : (ops.length + 2) * 40 ≤ 140737488355328 := HB.out
  have NEW := Lib.hid NG
  clear NG
  go_wp2_with (at_builtin; refine wpList_append_rows _ rfl _ _ 22 rfl 29 i0 (.agg #[.bool false, .string ⟨#[]⟩, .string ⟨#[]⟩]) 3 40 Tryd.underlying22 hi0 hz0 hz1 hz2 rfl (by decide) _ ops.length (opsC ops) rfl (OW.out _) (some ⟨x1.heap.size, 0, none⟩) 2 2 (opsC [spO, rmO]) rfl rfl (fun _ => ⟨_, rfl, newsG _ (opsC [spO, rmO]) _⟩) (opsC_one' _) hb1 hb2 ?_)
  intro v2 x2 own2 gr2 la2
  obtain ⟨gm, cm, rfl⟩ := ownsRow_succ own2
  have NW := Lib.hid (ownG_more (W := w) (l := ops) (k := [spO, rmO]) NEW.out.new (Qt.trans NEW.out.qt ((Qt.refl x1).alloc _)) (by simp) (by rw [cellsG_append]) own2 gr2 la2)
  obtain ⟨hcm, nx⟩ := ownG_cap own2
  clear nx own2 gr2 la2 hb1 hb2
  have h1 : ops.length ≤ cm := by omega
  go_wp2
  go_ret2
  refine ⟨gm, cm, rfl, NW.out.new gm rfl, ?_, NW.out.qt⟩
  have h := NW.out.own
  rw [show (ops ++ [spO, rmO]).length = ops.length + 2 by simp] at h
  exact h
set_option maxHeartbeats 1600000 in
theorem kept12_yes {gm cm g o : Nat} {v : Value} {ops : List Bt.O} (w : World) (own : w.ownsRow 0 29 3 (.slice (some ⟨gm, 0, none⟩) (ops.length + 2) cm) (ops.length + 2) (opsC (ops ++ [spO, rmO]))) (hr : OpsIn w v g o ops) :
    Calls Tryd.prog 15 #[.slice (some ⟨gm, 0, none⟩) (ops.length + 2) cm, v] w fun e w' => e = .returned (.bool true) ∧ Qt w w' := by
  have SM := sameO_yes (ownG_take opC_len (l := ops) (k := [spO, rmO]) own hr.le cm) hr
  have HL := Lib.hid hr.le
  have hcm : ops.length ≤ cm := by have := (ownG_cap own).1; omega
  have s1 : w.cell? ⟨gm, ops.length * 3 + 1, none⟩ = some (.string ⟨#[115, 112, 97, 114, 101]⟩) := ownG_cells opC_len (l := ops ++ [spO, rmO]) (k := []) (by rw [List.append_nil]; exact own) (i := ops.length) (x := spO) (by simp) (j := 1) rfl
  have s2 : w.cell? ⟨gm, (ops.length + 1) * 3 + 1, none⟩ = some (.string ⟨#[114, 111, 111, 109]⟩) := ownG_cells opC_len (l := ops ++ [spO, rmO]) (k := []) (by rw [List.append_nil]; exact own) (i := ops.length + 1) (x := rmO) (by simp) (j := 1) rfl
  obtain ⟨a, cap, rfl, ha⟩ := hr.val
  have k0 : (0 : Int) ≤ (ops.length : Int) := by omega
  have k1 : (ops.length : Int) < ((ops.length + 2 : Nat) : Int) := by omega
  have k2 : (ops.length : Int) + 1 < ((ops.length + 2 : Nat) : Int) := by omega
  have hw1 : wrap64 ((ops.length : Int) + 1) = (ops.length : Int) + 1 := by have := HL.out; unfold wrap64; omega
  clear hr ha own
  go_enter Tryd.func15, Tryd.ntmps15
  go_wp2_with fail
  refine SM.mono ?_
  rintro e w1 ⟨rfl, q1⟩
  have s1 := q1.cellv s1
  have s2 := q1.cellv s2
  have Q1 := Lib.hid q1
  clear q1 SM
  go_wp2
  go_ret
  exact ⟨rfl, Q1.out⟩
end Go.Proofs.YtffjleceogablaaDoor
