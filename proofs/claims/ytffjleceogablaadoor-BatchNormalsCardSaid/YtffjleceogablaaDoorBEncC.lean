/-
  The landed batch: Encode.
-/
import Derived.Test.YtffjleceogablaaDoorBFault
import Derived.Test.YtffjleceogablaaDoorBWrit
namespace Go.Proofs.YtffjleceogablaaDoor
open Go.RowKit Go.WideShapes
set_option maxRecDepth 100000

/-- The writer behind i ops. -/
def WcAt (w : World) (ops : List Bt.O) (b : Nat) (iv : Value) (wr : World) : Prop :=
  ∃ (i : Nat) (r : Option Nat), i ≤ ops.length ∧ iv = .int .i64 i ∧ Wr b r (Lib.uvarint ops.length ++ Bt.opsB (ops.take i)) wr ∧ Qt w wr ∧ ∀ k, r = some k → w.heap.size ≤ k
theorem opsB_snocC {ops : List Bt.O} {i : Nat} {op : Bt.O} (h : ops[i]? = some op) : Bt.opsB (ops.take (i + 1)) = Bt.opsB (ops.take i) ++ Bt.opB op := by
  rw [List.take_add_one, h]
  simp [Bt.opsB]
theorem opsB_leC (ops : List Bt.O) (i : Nat) : (Bt.opsB (ops.take i)).length ≤ (Bt.opsB ops).length := by
  have h : Bt.opsB ops = Bt.opsB (ops.take i) ++ Bt.opsB (ops.drop i) := by
    unfold Bt.opsB
    rw [← List.flatMap_append, List.take_append_drop]
  rw [h, List.length_append]
  omega
theorem opB_low (op : Bt.O) (h : op.del = true → op.val = []) : op.key.length + op.val.length ≤ (Bt.opB op).length := by
  unfold Bt.opB textB
  cases e : op.del with
  | true => rw [h e, if_pos rfl]; simp; omega
  | false => rw [if_neg (by decide)]; simp; omega
set_option maxHeartbeats 3200000 in
theorem encode12_any {ad : Nat → Addr} {v : Value} {g o : Nat} {ops : List Bt.O} (w : World) (hr : OpsIn w v g o ops) (hE : E2 ad w) (hcap : ∀ a n c, v = .slice a n c → n ≤ c) (hb : (Bt.encB ops).length + 40 ≤ 140737488355328) :
    Calls Tryd.prog 16 #[v] w fun e w' => e = .returned (.tuple #[strV (Bt.encT ops), errV ad (Bt.encE ops)]) ∧ Qt w w' := by
  have FA := fault_any w hr hE hcap
  have HR := Lib.hid hr
  have HB := Lib.hid hb
  obtain ⟨a, cap, rfl, ha⟩ := hr.val
  have HLE := Lib.hid hr.le
  clear hr ha hE hcap hb
  rcases Bt.encE_cases ops with he | he | he
  · have NM := Lib.hid (Bt.norm_of_enc he)
    have ET := Lib.hid (Bt.encT_ok he)
    have HZ := Lib.hid he
    rw [he, errV_zero] at FA
    clear he
    go_enter Tryd.func16, Tryd.ntmps16
    go_wp2_with fail
    refine FA.mono ?_
    rintro e w1 ⟨rfl, q1⟩
    have Q1 := Lib.hid q1
    have NW := wnew_any w1
    clear FA q1
    go_wp2_with fail
    refine NW.mono ?_
    rintro e w2 ⟨rfl, h2, k2, _⟩
    obtain ⟨b, hbe⟩ : ∃ b, w1.heap.size = b := ⟨_, rfl⟩
    rw [hbe] at h2 ⊢
    have HBE := Lib.hid hbe
    have Q2 := Lib.hid (Qt.trans Q1.out k2)
    have hwc : IntKind.u64.wrap (ops.length : Int) = (ops.length : Int) := by have := HLE.out; rw [IntKind.wrap_u64]; omega
    have UI := wuint_any b none [] ops.length w2 h2 (by decide) (by have := HLE.out; omega)
    clear NW h2 k2 hbe
    go_wp2_with fail
    refine UI.mono ?_
    rintro e w3 ⟨rfl, r3, h3, k3⟩
    have START := Lib.hid (show WcAt w ops b (.int .i64 0) w3 from ⟨0, r3, Nat.zero_le _, rfl, by simpa [Bt.opsB] using h3, Keeps.trans Q2.out k3.keeps (fun i hi e => by
      have := Q1.out.size; have := HBE.out
      rcases e with e | e
      · omega
      · cases e), fun k e => by
      have := Q2.out.size
      rcases k3.later with e2 | ⟨z, e2, hz⟩
      · rw [e2] at e; cases e
      · rw [e2] at e; have e3 := Option.some.inj e; omega⟩)
    have HBW := Lib.hid (show w.heap.size ≤ b by have := Q1.out.size; have := HBE.out; omega)
    clear UI h3 k3 hwc
    go_wp2_with fail
    go_loopw [21] (fun iv wr => WcAt w ops b iv wr) (fun iv _ => ops.length - (intOf iv).toNat)
    case atStart => exact START.out
    case round =>
      obtain ⟨i, r, hi, rfl, hW, hq, hrn⟩ := hrel
      have HQ := Lib.hid hq
      have HW := Lib.hid hW
      have HRN := Lib.hid hrn
      by_cases hlt : i < ops.length
      · have zlt : decide ((i : Int) < (ops.length : Int)) = true := decide_eq_true (by omega)
        have zlt' : decide (i < ops.length) = true := decide_eq_true hlt
        obtain ⟨op, c1, hop, e0⟩ := HR.out.elem hlt
        injection e0 with e0 q1 q2
        clear q1 q2
        subst e0
        obtain ⟨x1, x2, x3⟩ := OpsIn.cell (recs_turn HR.out hq) hop
        obtain ⟨K, hK⟩ : ∃ K : ByteArray, strV op.key = .string K := ⟨_, rfl⟩
        obtain ⟨V, hV⟩ : ∃ V : ByteArray, strV op.val = .string V := ⟨_, rfl⟩
        have OPV : opV op = .agg #[.bool op.del, .string K, .string V] := by unfold opV; rw [hK, hV]
        rw [hK] at x2
        rw [hV] at x3
        have k0 : (0 : Int) ≤ (i : Int) := by omega
        have k1 : (i : Int) < (ops.length : Int) := by omega
        have hw1 := pl_w1 (k := i) (by have := HLE.out; omega)
        have HM := Lib.hid (pl_meas hlt)
        have hlen : (Lib.uvarint ops.length ++ Bt.opsB (ops.take i)).length + 1 + op.key.length + op.val.length + 30 ≤ 140737488355328 := by
          have h1 := opsB_leC ops (i + 1)
          rw [opsB_snocC hop, List.length_append] at h1
          have h2 := opB_low op (Bt.clean_iff.1 (NM.out.clean op (List.mem_of_getElem? hop)))
          have h3 := HB.out
          unfold Bt.encB at h3
          rw [List.length_append] at h3 ⊢
          omega
        have WR := fun o => write12_any b r _ op _ (HW.out.alloc o) hlen
        rw [OPV] at WR
        have HS := Lib.hid (opsB_snocC hop)
        have HLT := Lib.hid hlt
        clear hq hW hrn hlt hi hop hK hV OPV hlen
        go_wp2_with fail
        refine (WR _).mono ?_
        rintro e w5 ⟨rfl, r5, h5, k5⟩
        have FN := Lib.hid (show WcAt w ops b (.int .i64 ((i : Int) + 1)) w5 from ⟨i + 1, r5, HLT.out, by simp, by
          rw [HS.out, ← List.append_assoc]
          exact h5, Keeps.trans (HQ.out.alloc _) k5.keeps (fun z hz e => by
            have := HBW.out
            rcases e with e | e
            · omega
            · have := HRN.out z e.symm; omega), fun k e => by
            rcases k5.later with e2 | ⟨z, e2, hz⟩
            · exact HRN.out k (e2 ▸ e)
            · rw [e2] at e; have e3 := Option.some.inj e; have := HQ.out.size; simp at hz; omega⟩)
        clear h5 k5 WR
        go_wp2
        rw [hw1]
        exact ⟨FN.out, HM.out⟩
      · obtain rfl : i = ops.length := by omega
        have zlt : decide ((ops.length : Int) < (ops.length : Int)) = false := decide_eq_false (by omega)
        have zlt' : decide (ops.length < ops.length) = false := decide_eq_false (by omega)
        rw [List.take_length] at hW
        have OU := wout_any b r _ wr hW
        clear hq hW hrn hlt hi
        go_wp2_with fail
        refine OU.mono ?_
        rintro e w6 ⟨rfl, _, k6⟩
        have FN := Lib.hid (show Qt w w6 from Keeps.trans HQ.out k6 (fun z hz e => by have := HRN.out z e.symm; omega))
        clear OU k6
        go_wp2
        go_ret2
        rw [ET.out, HZ.out, errV_zero]
        exact ⟨rfl, FN.out⟩
  · have ET := Lib.hid (Bt.encT_no (ops := ops) (by omega))
    have HZ := Lib.hid he
    rw [he, errV_pos ad (by decide)] at FA
    clear he
    go_enter Tryd.func16, Tryd.ntmps16
    go_wp2_with fail
    refine FA.mono ?_
    rintro e w1 ⟨rfl, q1⟩
    have Q1 := Lib.hid q1
    clear FA q1
    go_wp2
    go_ret2
    rw [ET.out, HZ.out, errV_pos ad (by decide)]
    exact ⟨rfl, Q1.out⟩
  · have ET := Lib.hid (Bt.encT_no (ops := ops) (by omega))
    have HZ := Lib.hid he
    rw [he, errV_pos ad (by decide)] at FA
    clear he
    go_enter Tryd.func16, Tryd.ntmps16
    go_wp2_with fail
    refine FA.mono ?_
    rintro e w1 ⟨rfl, q1⟩
    have Q1 := Lib.hid q1
    clear FA q1
    go_wp2
    go_ret2
    rw [ET.out, HZ.out, errV_pos ad (by decide)]
    exact ⟨rfl, Q1.out⟩
end Go.Proofs.YtffjleceogablaaDoor
