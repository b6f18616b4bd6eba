/-
  The landed batch: Normal.
-/
import Derived.Test.YtffjleceogablaaDoorBMap
import Derived.Test.YtffjleceogablaaDoorBSort
import Derived.Deep.RegionHeld3
namespace Go.Proofs.YtffjleceogablaaDoor
open Go.RowKit Go.WideShapes Go.Maps Go.Sort
set_option maxRecDepth 100000

theorem keyedStr : Keyed Tryd.prog 9 := string_keyed Tryd.underlying9
theorem keyStr (K : ByteArray) (h : K.size ≤ maxLen) : keyOf Tryd.prog 9 (.string K) = some (klit K.data.toList) := by
  simp [keyOf, Tryd.underlying9, mapKey, h]
theorem keyStr_inv {key : Value} {kl : Lit} (h : keyOf Tryd.prog 9 key = some kl) : ∃ K : ByteArray, key = .string K ∧ kl = klit K.data.toList := by
  cases key <;> simp [keyOf, Tryd.underlying9, mapKey] at h
  exact ⟨_, rfl, h.2.symm⟩
theorem grown12 {A B : World} (q : Qt A B) : A.grownBy B none := ⟨q.os, q.tape, q.output, q.size, fun k hk _ => q.block k hk (fun e => e)⟩
/-- The first loop: the map behind i ops. -/
def NcAt (w : World) (ops : List Bt.O) (b : Nat) (iv : Value) (wr : World) : Prop :=
  ∃ i : Nat, i ≤ ops.length ∧ iv = .int .i64 i ∧ wr.ownsMap Tryd.prog 9 opR b i (mapD (ops.take i)) ∧ Qt w wr
/-- The second loop. -/
def NdAt (w : World) (ops : List Bt.O) (b r N : Nat) (ov : Value) (wr : World) : Prop :=
  ∃ (left : Lit → Bool) (cnt : Nat) (xs : List Bt.O), wr.ranges Tryd.prog 9 opR b r ops.length (mapD ops) left cnt ∧ xs.length + cnt ≤ N ∧ Came ops left xs ∧ NewO w wr ov xs ∧ ov.ownBlock ≠ some b ∧ ov.ownBlock ≠ some r
set_option maxHeartbeats 3200000 in
theorem normal12_any {v : Value} {g o : Nat} {ops : List Bt.O} (w : World) (hr : OpsIn w v g o ops) (hb : ops.length * 40 ≤ 140737488355328) (hk : ∀ o ∈ ops, o.key.length ≤ maxLen) :
    Calls Tryd.prog 12 #[v] w fun e w' => ∃ v', e = .returned v' ∧ NewO w w' v' (Bt.normal ops) := by
  have HR := Lib.hid hr
  have HLE := Lib.hid hr.le
  have HB := Lib.hid hb
  have HK := Lib.hid hk
  obtain ⟨a, cap, rfl, ha⟩ := hr.val
  clear hr ha hb hk
  obtain ⟨i0, hi0, hz0, hz1, hz2⟩ := info_parts infoOp12
  have hmm := @run_makeMap Tryd.prog
  have OM := World.ownsMap_made w Tryd.prog 9 opR
  obtain ⟨b, hbe⟩ : ∃ b, w.heap.size = b := ⟨_, rfl⟩
  rw [hbe] at OM
  have START := Lib.hid (show NcAt w ops b (.int .i64 0) (w.alloc (.map #[] 0)) from ⟨0, Nat.zero_le _, rfl, OM, (Qt.refl w).alloc _⟩)
  have HBE := Lib.hid hbe
  clear OM
  go_enter Tryd.func12, Tryd.ntmps12
  go_wp2
  clear hbe hmm
  go_loopw [12] (fun iv wr => NcAt w ops b iv wr) (fun iv _ => ops.length - (intOf iv).toNat)
  case atStart => exact START.out
  case round =>
    obtain ⟨i, hi, rfl, hown, hq⟩ := hrel
    have HQ := Lib.hid hq
    clear START
    by_cases hlt : i < ops.length
    · have zlt : decide ((i : Int) < (ops.length : Int)) = true := decide_eq_true (by omega)
      have zlt' : decide (i < ops.length) = true := decide_eq_true hlt
      obtain ⟨op, c1, hop, e0⟩ := HR.out.elem hlt
      injection e0 with e0 q1 q2
      clear q1 q2
      subst e0
      obtain ⟨x1, x2, x3⟩ := OpsIn.cell (recs_turn HR.out hq) hop
      obtain ⟨K, hK, hKl⟩ : ∃ K : ByteArray, strV op.key = .string K ∧ K.data.toList = op.key := ⟨⟨op.key.toArray⟩, rfl, rfl⟩
      obtain ⟨V, hV⟩ : ∃ V : ByteArray, strV op.val = .string V := ⟨_, rfl⟩
      rw [hK] at x2
      rw [hV] at x3
      have k0 : (0 : Int) ≤ (i : Int) := by omega
      have k1 : (i : Int) < (ops.length : Int) := by omega
      have hw1 : wrap64 ((i : Int) + 1) = (i : Int) + 1 := by have := HLE.out; unfold wrap64; omega
      have HM := Lib.hid (show ops.length - (intOf (.int .i64 ((i : Int) + 1))).toNat < ops.length - (intOf (.int .i64 (i : Int))).toNat by simp [intOf]; omega)
      have HOW := Lib.hid hown
      have HLT := Lib.hid hlt
      have OPV := Lib.hid (show opV op = .agg #[.bool op.del, .string K, .string V] by unfold opV; rw [hK, hV])
      have FN := Lib.hid (fun wy (hy : wy.ownsMap Tryd.prog 9 opR b (i + 1) ((mapD (ops.take i)).put (klit op.key) (opDat (Bt.clean op)))) (q : Qt w wy) => (show NcAt w ops b (.int .i64 ((i : Int) + 1)) wy from
        ⟨i + 1, hlt, by simp, by
          rw [List.take_add_one, hop]
          show wy.ownsMap Tryd.prog 9 opR b (i + 1) (mapD (ops.take i ++ [op]))
          rw [mapD_snoc]
          exact hy, q⟩))
      have KS := Lib.hid (show K.size ≤ maxLen from by
        have := HK.out op (List.mem_of_getElem? hop)
        rw [← hKl] at this
        exact this)
      have KL := Lib.hid hKl
      obtain ⟨cv, hcv⟩ : ∃ cv, opV (Bt.clean op) = cv := ⟨_, rfl⟩
      have BR := Lib.hid (fun W => by have h := bare_any op W; rw [OPV.out, hcv] at h; exact h)
      have UPD := Lib.hid (fun W (q : Qt wr W) => World.ownsMap.update (t := 59) (HOW.out.kept (row := none) (grown12 q) (by simp)) keyedStr Tryd.underlying59 (Nat.lt_of_lt_of_le HLT.out (show ops.length ≤ maxLen by have := HLE.out; unfold maxLen; omega)) (keyStr K KS.out) (val := cv) (d := opDat (Bt.clean op)) (ps := []) (hcv ▸ opR_mk (Bt.clean op)))
      rw [hKl] at UPD
      clear hown hq hlt hi hop hK hV hKl
      go_wp2_with fail
      have b0 : (wr.alloc (.cells #[.bool op.del, .string K, .string V] 29)).heap[wr.heap.size]? = some (.cells #[.bool op.del, .string K, .string V] 29 (0, 0)) := heap_alloc_new wr _
      have QB0 : Qt wr (wr.alloc (.cells #[.bool op.del, .string K, .string V] 29)) := (Qt.refl wr).alloc _
      generalize hWB : World.alloc wr _ = WB at *
      obtain ⟨B5, hB5⟩ : ∃ B5, wr.heap.size = B5 := ⟨_, rfl⟩
      rw [hB5] at b0 ⊢
      have d0 : WB.cell? ⟨B5, 0, none⟩ = some (.bool op.del) := by rw [Lib.cell_of_heap b0]; rfl
      have d1 : WB.cell? ⟨B5, 1, none⟩ = some (.string K) := by rw [Lib.cell_of_heap b0]; rfl
      have d2 : WB.cell? ⟨B5, 2, none⟩ = some (.string V) := by rw [Lib.cell_of_heap b0]; rfl
      have QB := Lib.hid QB0
      have HB5 := Lib.hid hB5
      have BNE := Lib.hid (show ¬ B5 = b from fun e => by have := HOW.out.lt; omega)
      have KP := Lib.hid (fun W (q : Keeps (fun k => k = b) WB W) => (show W.cell? ⟨B5, 0, none⟩ = some (.bool op.del) ∧ W.cell? ⟨B5, 1, none⟩ = some (.string K) ∧ W.cell? ⟨B5, 2, none⟩ = some (.string V) from ⟨q.cellv d0 BNE.out, q.cellv d1 BNE.out, q.cellv d2 BNE.out⟩))
      clear hWB hB5 b0 QB0 x1 x2 x3
      go_region_held3 (fun W' => W'.cell? ⟨B5, 0, none⟩ = some (.bool op.del) ∧ W'.cell? ⟨B5, 1, none⟩ = some (.string K) ∧ W'.cell? ⟨B5, 2, none⟩ = some (.string V))
        (first | go_keep | exact KP.out _ (Keeps.drew (Keeps.refl _ _)) | exact KP.out _ (Keeps.mono q1 (fun _ _ e => e.elim)) | exact KP.out _ q2)
        (first | (go_at_call 30; refine (BR.out _).mono ?_; rintro e w1 ⟨rfl, k1⟩; have q1 : Qt WB w1 := Qt.trans (Keeps.drew (Qt.refl WB)) k1; obtain ⟨w2, hup, hown2, hg2⟩ := UPD.out w1 (Qt.trans QB.out q1); have q2 : Keeps (fun k => k = b) WB w2 := Keeps.grown (S := fun k => k = b) (Keeps.mono q1 (fun _ _ e => e.elim)) hg2 (fun k _ e => Option.some.inj e)))
      have FIN := Lib.hid (FN.out w2 hown2 (Keeps.grown (Qt.trans (Qt.trans HQ.out QB.out) q1) hg2 (fun k hk e => by have := HBE.out; have := Option.some.inj e; omega)))
      clear hown2 hg2 hup q2 q1 k1
      go_wp2
      rw [hw1]
      exact ⟨FIN.out, HM.out⟩
    · obtain rfl : i = ops.length := by omega
      have zlt : decide ((ops.length : Int) < (ops.length : Int)) = false := decide_eq_false (by omega)
      have zlt' : decide (ops.length < ops.length) = false := decide_eq_false (by omega)
      obtain ⟨y0, hy0⟩ : ∃ W : World, W = wr := ⟨_, rfl⟩
      subst hy0
      rw [List.take_length] at hown
      have HSZ := Lib.hid (size_le hown)
      have HOW := Lib.hid hown
      have b2 : i0.bytes * size (mapD ops) ≤ 281474976710656 := by rw [hz2]; have := HB.out; have := HSZ.out; omega
      have b3 : size (mapD ops) ≤ maxLen := by have := HLE.out; have := HSZ.out; unfold maxLen; omega
      clear hq hi hlt
      go_wp2_with (first
        | (at_len; refine wpList_len_own _ rfl _ 59 rfl 9 29 Tryd.underlying59 opR b ops.length (mapD ops) rfl HOW.out ?_)
        | (at_make; refine wpList_make_own _ rfl _ _ 22 rfl 0 29 i0 (.agg #[.bool false, .string ⟨#[]⟩, .string ⟨#[]⟩]) 3 Tryd.underlying22 hi0 hz0 hz1 .i64 .i64 _ (size (mapD ops)) rfl rfl rfl b2 b3 (Nat.zero_le _) ?_; intro w1 own1 gr1)
        | (at_range; refine wpList_range_own _ rfl _ 59 rfl 9 29 keyedStr Tryd.underlying59 opR b ops.length (mapD ops) rfl (HOW.out.kept gr1 (by simp)) ?_; intro w2 hrg hg hs))
      go_frame
      obtain ⟨r, hr⟩ : ∃ r, w1.heap.size = r := ⟨_, rfl⟩
      rw [hr] at hrg hs ⊢
      have HBL := Lib.hid (show b < y0.heap.size from HOW.out.lt)
      have HRL := Lib.hid (show y0.heap.size < r from by rw [← hr]; exact ownsRow_lt own1 rfl)
      have q1 : Qt y0 w1 := ⟨gr1.os, gr1.tape, gr1.output, gr1.size, fun k hk _ => gr1.block k hk (by simp)⟩
      have q2 : Qt w1 w2 := ⟨hg.os, hg.tape, hg.output, hg.size, fun k hk _ => hg.block k hk (by simp)⟩
      have HY := Lib.hid (show w.heap.size ≤ y0.heap.size from HQ.out.size)
      have START := Lib.hid (show NdAt w ops b r (size (mapD ops)) (.slice (some ⟨y0.heap.size, 0, none⟩) 0 (size (mapD ops))) w2 from
        ⟨has (mapD ops), size (mapD ops), [], hrg, by simp, came_start ops, ⟨ownsRow_kept own1 q2 (fun _ _ e => e), fun g e => by injection e with e; have := HY.out; simp only at e; omega, Qt.trans (Qt.trans HQ.out q1) q2⟩,
          fun e => by have e2 := Option.some.inj e; simp only at e2; have := HBL.out; omega, fun e => by have e2 := Option.some.inj e; simp only at e2; have := HRL.out; omega⟩)
      clear own1 gr1 hrg hg hs hr q1 q2 b2 b3 hown
      go_loopw [6] (fun ov wr => NdAt w ops b r (size (mapD ops)) ov wr) (fun _ wr => wr.rangeLeft b r)
      case atStart => exact START.out
      case round =>
        obtain ⟨left, cnt, xs, hrg, hlen, came, N, nb, nr⟩ := hrel
        have HRG := Lib.hid hrg
        have CM := Lib.hid came
        have NN := Lib.hid N
        have HLEN := Lib.hid hlen
        have HNB := Lib.hid nb
        have HNR := Lib.hid nr
        obtain ⟨oa, oc, rfl⟩ := ownG_shape N.own
        clear START came N hlen nb nr hrg
        go_wp2_with (at_next; refine wpList_next_ranges (α := ByteArray) (β := Bt.O) _ rfl _ rfl 9 keyedStr opR Value.string opV ?iK (fun v y h => opR_inv h) b r ops.length (mapD ops) left cnt rfl HRG.out ?done ?more)
        case iK =>
          intro key kl h
          obtain ⟨x, hx, _⟩ := keyStr_inv h
          exact ⟨x, hx⟩
        case done =>
          intro hc0 hl0
          have CE := came_end CM.out hl0
          have SO := sorted12_any w wr NN.out CM.out.apart (Bt.normal_norm ops) CE (by have := HLEN.out; have := HSZ.out; have := HLE.out; omega)
          clear CE hc0 hl0
          go_wp2_with fail
          refine SO.mono ?_
          rintro e w5 ⟨rfl, N5, _⟩
          have N6 := Lib.hid N5
          clear N5 SO
          go_wp2
          go_ret
          exact ⟨_, rfl, N6.out⟩
        case more =>
          intro x c kl yd yp w4 cnt4 hkey hlk hv hat hrg4 hlt4 hg4 hs4 hen
          obtain ⟨x2, ex, rfl⟩ := keyStr_inv hkey
          have ex2 : x = x2 := by injection ex
          subst ex2
          obtain rfl : opDat c = yd := congrArg Prod.fst (Option.some.inj ((opR_mk c).symm.trans hv))
          obtain ⟨hc, hck⟩ := mapD_entry hat
          rw [← hck] at hlk hrg4
          have CS := Lib.hid (came_step CM.out hc hlk)
          have hN1 : xs.length + 1 ≤ ops.length := by have := HLEN.out; have := HSZ.out; omega
          have K4 : Keeps (fun k => k = r) wr w4 := Keeps.grown (S := fun k => k = r) (Keeps.refl _ _) hg4 (fun k _ e => Option.some.inj e)
          have OWN4 : w4.ownsRow 0 29 3 (.slice oa xs.length oc) xs.length (opsC xs) := ownsRow_kept NN.out.own K4 (fun k e1 e2 => HNR.out (by rw [e1, e2]))
          have OW := Lib.hid (fun o1 o2 => (show ((w4.alloc o1).alloc o2).ownsRow 0 29 3 (.slice oa xs.length oc) xs.length (opsC xs) from ownsRow_kept OWN4 (((Keeps.refl (fun _ => False) w4).alloc o1).alloc o2) (fun _ _ e => e)))
          have Q4 := Lib.hid (show Qt w w4 from Keeps.trans NN.out.qt K4 (fun i hi e => by have := HRL.out; have := HY.out; omega))
          have RG := Lib.hid hrg4
          have HM4 := Lib.hid (show w4.rangeLeft b r = cnt4 ∧ wr.rangeLeft b r = cnt from ⟨hrg4.left_eq, HRG.out.left_eq⟩)
          have HLT4 := Lib.hid hlt4
          have HN1 := Lib.hid hN1
          obtain ⟨K, hK⟩ : ∃ K : ByteArray, strV c.key = .string K := ⟨_, rfl⟩
          obtain ⟨V, hV⟩ : ∃ V : ByteArray, strV c.val = .string V := ⟨_, rfl⟩
          have HCV := Lib.hid (show opC c = [.bool c.del, .string K, .string V] by unfold opC; rw [hK, hV])
          have hb1 : xs.length + 1 ≤ maxLen := by have := HLE.out; unfold maxLen; omega
          have hb2 : (xs.length + 1) * 40 ≤ 140737488355328 := by have := HB.out; omega
          have OPC : opV c = .agg #[.bool c.del, .string K, .string V] := by unfold opV; rw [hK, hV]
          rw [OPC] at hen ⊢
          clear hkey hat hv hlk hc hck hrg4 hlt4 hg4 hs4 ex hK hV OWN4 K4 hN1 OPC
          go_wp2_with (at_builtin; refine wpList_append_rows _ rfl _ _ 22 rfl 29 i0 (.agg #[.bool false, .string ⟨#[]⟩, .string ⟨#[]⟩]) 3 40 Tryd.underlying22 hi0 hz0 hz1 hz2 rfl (by decide) _ xs.length (opsC xs) rfl (OW.out _ _) (some ⟨w4.heap.size + 1, 0, none⟩) 1 1 [.bool c.del, .string K, .string V] rfl rfl (fun _ => ⟨_, rfl, fun j u h => by have := newsG (w4.alloc (.cells #[.bool c.del, .string K, .string V] 29)) [.bool c.del, .string K, .string V] 29 j u h; rw [show (w4.alloc (.cells #[.bool c.del, .string K, .string V] 29)).heap.size = w4.heap.size + 1 by simp] at this; exact this⟩) (by intro y hy; simp at hy; rcases hy with rfl | rfl | rfl <;> rfl) hb1 hb2 ?_)
          intro v5 w5 own5 gr5 la5
          have Q5 : Qt w ((w4.alloc (.cells #[.bool c.del, .string K, .string V] 29)).alloc (.cells #[.bool c.del, .string K, .string V] 29)) := (Q4.out.alloc _).alloc _
          have N5 := Lib.hid (ownG_more (f := opC) (W := w) (l := xs) (k := [c]) NN.out.new Q5 (by simp) (by rw [cellsG_append, cellsG_one, HCV.out]) own5 gr5 la5)
          have FIN := Lib.hid (show NdAt w ops b r (size (mapD ops)) v5 w5 from
            ⟨_, cnt4, xs ++ [c], ((RG.out.alloc _).alloc _).kept gr5 (fun e => HNB.out e.symm) (fun e => HNR.out e.symm), by rw [List.length_append, List.length_singleton]; have := HLEN.out; have := HLT4.out; omega, CS.out, N5.out,
              fun e => by
                rcases la5 with e2 | ⟨z, e2, hz⟩
                · exact HNB.out (e2 ▸ e)
                · rw [e2] at e; have e3 := Option.some.inj e; have := RG.out.owns.lt; simp at hz; omega,
              fun e => by
                rcases la5 with e2 | ⟨z, e2, hz⟩
                · exact HNR.out (e2 ▸ e)
                · rw [e2] at e; have e3 := Option.some.inj e; have := RG.out.lt; simp at hz; omega⟩)
          have HMM := Lib.hid (show w5.rangeLeft b r < wr.rangeLeft b r from by
            obtain ⟨_, cnt5, _, h5, _⟩ := FIN.out
            have h6 := (((RG.out.alloc (.cells #[.bool c.del, .string K, .string V] 29)).alloc (.cells #[.bool c.del, .string K, .string V] 29)).kept gr5 (fun e => HNB.out e.symm) (fun e => HNR.out e.symm)).left_eq
            rw [h6, HM4.out.2]
            exact HLT4.out)
          clear own5 gr5 la5 Q5
          obtain ⟨a5, c5, rfl⟩ := ownG_shape N5.out.own
          go_wp2
          exact ⟨FIN.out, HMM.out⟩
end Go.Proofs.YtffjleceogablaaDoor
