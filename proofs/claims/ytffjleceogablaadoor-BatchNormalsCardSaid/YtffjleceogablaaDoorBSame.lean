/-
  The contract of remitlaw12.same: are two lists of ops alike?
-/
import Derived.Test.YtffjleceogablaaDoorBRow
import Derived.BigQuiet
import Derived.LoopTactic
namespace Go.Proofs.YtffjleceogablaaDoor
open Go.RowKit Go.WideShapes
set_option maxRecDepth 100000

theorem same_opsL {l m : List Bt.O} (hl : l.length = m.length) (h : ∀ j, j < l.length → l[j]? = m[j]?) : l = m := by
  apply List.ext_getElem?
  intro j
  rcases Nat.lt_or_ge j l.length with k | k
  · exact h j k
  · rw [List.getElem?_eq_none k, List.getElem?_eq_none (by omega)]
def SameOAt (w : World) (l m : List Bt.O) (iv : Value) (wr : World) : Prop := ∃ k, k ≤ l.length ∧ iv = .int .i64 k ∧ (∀ j, j < k → l[j]? = m[j]?) ∧ Qt w wr

set_option maxHeartbeats 1600000 in
theorem sameO_any (a b : Value) (g1 o1 g2 o2 : Nat) (l m : List Bt.O) (w : World) (hl : OpsIn w a g1 o1 l) (hm : OpsIn w b g2 o2 m) :
    Calls Tryd.prog 14 #[a, b] w fun e w' => e = .returned (.bool (decide (l = m))) ∧ Qt w w' := by
  obtain ⟨aa, ac, rfl, haa⟩ := hl.val
  obtain ⟨ba, bc, rfl, hba⟩ := hm.val
  by_cases hlen : l.length = m.length
  · have zl : ((l.length : Int) != (m.length : Int)) = false := by rw [bne_eq_false_iff_eq]; omega
    have HLN := Lib.hid hlen
    have HLB := Lib.hid hl.le
    have HA := Lib.hid hl
    have HB := Lib.hid hm
    have START := Lib.hid (show SameOAt w l m (.int .i64 0) w from ⟨0, Nat.zero_le _, rfl, fun j hj => absurd hj (Nat.not_lt_zero j), Qt.refl _⟩)
    clear hl hm hlen haa hba
    go_enter Tryd.func14, Tryd.ntmps14
    go_wp2
    go_loopw [13] (fun iv wr => SameOAt w l m iv wr) (fun iv _ => l.length - (intOf iv).toNat)
    case atStart => exact START.out
    case round =>
      obtain ⟨k, hk, rfl, heq, q⟩ := hrel
      have HQ := Lib.hid q
      have HEQ := Lib.hid heq
      have hkb : (k : Int) ≤ 140737488355328 := by have := HLB.out; omega
      by_cases hlt : k < l.length
      · have zlt : decide ((k : Int) < (l.length : Int)) = true := decide_eq_true (by omega)
        have zlt' : decide (k < l.length) = true := decide_eq_true hlt
        have hltm : k < m.length := by rw [← HLN.out]; exact hlt
        obtain ⟨t, ct, ht, e1⟩ := HA.out.elem hlt
        obtain ⟨u, cu, hu, e2⟩ := HB.out.elem hltm
        injection e1 with e1 q1 q2
        injection e2 with e2 q3 q4
        clear q1 q2 q3 q4
        subst e1 e2
        obtain ⟨t1, t2, t3⟩ := HA.out.cell ht
        obtain ⟨u1, u2, u3⟩ := HB.out.cell hu
        have c1 := q.cellv t1
        have c2 := q.cellv t2
        have c3 := q.cellv t3
        have d1 := q.cellv u1
        have d2 := q.cellv u2
        have d3 := q.cellv u3
        have k0 : (0 : Int) ≤ (k : Int) := by omega
        have k1 : (k : Int) < (l.length : Int) := by omega
        have k2 : (k : Int) < (m.length : Int) := by omega
        have HLT := Lib.hid hlt
        have HME := Lib.hid (show l.length - (intOf (.int .i64 ((k : Int) + 1))).toNat < l.length - (intOf (.int .i64 (k : Int))).toNat by simp [intOf]; omega)
        by_cases he : t = u
        · have n1 : ∀ W, (binOp .neq 29 (.agg #[.bool t.del, strV t.key, strV t.val]) (.agg #[.bool u.del, strV u.key, strV u.val])).run Tryd.prog W = .ok (.bool false) W := fun W => by rw [run_neq_op t u W, decide_eq_true he]; rfl
          have FN := Lib.hid (fun (W : World) (q2 : Qt w W) => (show SameOAt w l m (.int .i64 ((k : Int) + 1)) W from ⟨k + 1, HLT.out, by push_cast; rfl, fun j hj => by
            rcases Nat.lt_or_ge j k with h | h
            · exact HEQ.out j h
            · obtain rfl : j = k := by omega
              rw [ht, hu, he], q2⟩))
          clear t1 t2 t3 u1 u2 u3 ht hu he heq q hk hlt hltm
          go_wp2
          go_quiet (fail)
          have FN2 := Lib.hid (FN.out _ (Keeps.drewN HQ.out nq))
          go_wp2
          exact ⟨FN2.out, HME.out⟩
        · have n1 : ∀ W, (binOp .neq 29 (.agg #[.bool t.del, strV t.key, strV t.val]) (.agg #[.bool u.del, strV u.key, strV u.val])).run Tryd.prog W = .ok (.bool true) W := fun W => by rw [run_neq_op t u W, decide_eq_false he]; rfl
          have FIN := Lib.hid (show decide (l = m) = false from decide_eq_false (fun e => he (by rw [e, hu] at ht; exact (Option.some.inj ht).symm)))
          clear t1 t2 t3 u1 u2 u3 ht hu he heq q hk hlt hltm
          go_wp2
          go_quiet (fail)
          have QN := Lib.hid (Keeps.drewN HQ.out nq)
          go_wp2
          go_ret
          exact ⟨by rw [FIN.out]; rfl, QN.out⟩
      · obtain rfl : k = l.length := by omega
        have zlt : decide ((l.length : Int) < (l.length : Int)) = false := decide_eq_false (by omega)
        have FIN := Lib.hid (show decide (l = m) = true from decide_eq_true (same_opsL HLN.out heq))
        clear heq q hk hlt
        go_wp2
        go_ret
        exact ⟨by rw [FIN.out]; rfl, HQ.out⟩
  · have zl : ((l.length : Int) != (m.length : Int)) = true := by rw [bne_iff_ne]; omega
    have FIN := Lib.hid (show decide (l = m) = false from decide_eq_false (fun e => hlen (by rw [e])))
    clear hl hm hlen haa hba
    go_enter Tryd.func14, Tryd.ntmps14
    go_wp2
    go_ret
    exact ⟨by rw [FIN.out]; rfl, Qt.refl _⟩
theorem sameO_yes {a b : Value} {g1 o1 g2 o2 : Nat} {l : List Bt.O} {w : World} (hl : OpsIn w a g1 o1 l) (hm : OpsIn w b g2 o2 l) :
    Calls Tryd.prog 14 #[a, b] w fun e w' => e = .returned (.bool true) ∧ Qt w w' :=
  (sameO_any a b g1 o1 g2 o2 l l w hl hm).mono fun _ _ h => by
    rw [decide_eq_true rfl] at h
    exact h
end Go.Proofs.YtffjleceogablaaDoor
