/-
  The document's own batch: the contract of Apply.
  The landed batch: Apply.
-/
import Derived.Test.YtffjleceogablaaDoorP16
import Derived.Test.YtffjleceogablaaDoorP38
import Derived.RangeFuncBox
import Derived.StillTailTactics
import Derived.LoopTactic
import Derived.Test.YtffjleceogablaaDoorP37
namespace Go.Proofs.YtffjleceogablaaDoor
open Go.RowKit Go.WideShapes
set_option maxRecDepth 100000

def ApAt (w : World) (l : List Tb.R) (ops : List Bt.O) (ov iv : Value) (wr : World) : Prop := ∃ i : Nat, i ≤ ops.length ∧ iv = .int .i64 i ∧ NewG rowC 2 64 w wr ov (Bt.apply l (ops.take i))
theorem apply_length (l : List Tb.R) : ∀ ops : List Bt.O, (Bt.apply l ops).length ≤ l.length + ops.length := by
  intro ops
  generalize hr : ops.reverse = rev
  induction rev generalizing ops with
  | nil =>
    obtain rfl : ops = [] := by simpa using hr
    exact Nat.le_refl _
  | cons a rev ih =>
    obtain rfl : ops = rev.reverse ++ [a] := by simpa using congrArg List.reverse hr
    have := ih rev.reverse (by simp)
    rw [Bt.apply_snoc, List.length_append, List.length_singleton]
    unfold Bt.doOp
    split
    · have := List.length_filter_le (fun r : Tb.R => r.1 != a.key) (Bt.apply l rev.reverse)
      unfold Tb.del
      omega
    · have := Tb.put_length_le (Bt.apply l rev.reverse) a.key a.val
      omega
/-- What the inner loop keeps: from k on all has moved up by one. -/
def SvAt (w x4 : World) (gk : Nat) (ks : List Tb.R) (N ck p : Nat) (kv : Value) (wr : World) : Prop :=
  ∃ k : Nat, p ≤ k ∧ k ≤ ks.length ∧ kv = .int .i64 k ∧ NewG rowC 2 64 w wr (.slice (some ⟨gk, 0, none⟩) N ck) (Bt.shiftL ks ([], []) k) ∧ Keeps (fun b => b = gk) x4 wr
set_option maxHeartbeats 3200000 in
theorem rapply12_any {v u : Value} {g o g2 o2 : Nat} {l : List Tb.R} {ops : List Bt.O} (w : World) (hr : RowsIn w v g o l) (ho : OpsIn w u g2 o2 ops) (hs : Tb.Sorted l) (hb : (l.length + ops.length) * 32 ≤ 140737488355328) :
    Calls Tryd.prog 23 #[v, u] w fun e w' => ∃ v', e = .returned v' ∧ NewG rowC 2 64 w w' v' (Bt.apply l ops) := by
  have HR := Lib.hid hr
  have HO := Lib.hid ho
  have HS := Lib.hid hs
  have HB := Lib.hid hb
  have HOL := Lib.hid ho.le
  obtain ⟨a, cap, rfl, ha⟩ := hr.val
  obtain ⟨a', cap', rfl, ha'⟩ := ho.val
  clear hr ho hs hb ha ha'
  obtain ⟨j0, hj0, jz0, jz1, jz2⟩ := info_parts infoRow
  have q0 : Qt w (w.alloc (.cells #[] 64)) := (Qt.refl w).alloc _
  have NW1 := recs_news rowC_len (by decide) (recs_turn HR.out q0)
  have hb1 : 0 + l.length ≤ maxLen := by have := HB.out; unfold maxLen; omega
  have hb2 : (0 + l.length) * 32 ≤ 140737488355328 := by have := HB.out; omega
  have Q0 := Lib.hid q0
  clear q0
  go_enter Tryd.func23, Tryd.ntmps23
  go_wp2_with (at_builtin; refine wpList_append_rows _ rfl _ _ 45 rfl 64 j0 (.agg #[.string ⟨#[]⟩, .string ⟨#[]⟩]) 2 32 Tryd.underlying45 hj0 jz0 jz1 jz2 rfl (by decide) _ 0 (cellsG rowC []) rfl (row_new0G w) _ l.length _ (cellsG rowC l) rfl (cellsG_length rowC_len l) NW1 (rowC_one' l) hb1 hb2 ?_)
  intro v1 x1 own1 gr1 la1
  have NG := ownG_more (W := w) (l := []) (k := l) (fun g e => by injection e with e; subst e; exact Nat.le_refl _) Q0.out (by simp) (by rw [cellsG_append]) own1 gr1 la1
  rw [List.nil_append] at NG
  clear own1 hb1 hb2 NW1 gr1 la1 Q0
  have START := Lib.hid (show ApAt w l ops v1 (.int .i64 0) x1 from ⟨0, Nat.zero_le _, rfl, NG⟩)
  clear NG
  go_wp2
  go_loopw [5, 16] (fun ov iv wr => ApAt w l ops ov iv wr) (fun _ iv _ => ops.length - (intOf iv).toNat)
  case atStart => exact START.out
  case round =>
    obtain ⟨i, hi, rfl, NG⟩ := hrel
    have HN := Lib.hid NG
    clear NG START
    by_cases hlt : i < ops.length
    · have zlt : decide ((i : Int) < (ops.length : Int)) = true := decide_eq_true (by omega)
      have zlt' : decide (i < ops.length) = true := decide_eq_true hlt
      obtain ⟨op, c1, hop, e0⟩ := HO.out.elem hlt
      injection e0 with e0 q1 q2
      clear q1 q2
      subst e0
      obtain ⟨x1, x2, x3⟩ := OpsIn.cell (recs_turn HO.out HN.out.qt) hop
      obtain ⟨K, hK, hKl⟩ : ∃ K : ByteArray, strV op.key = .string K ∧ K.data.toList = op.key := ⟨⟨op.key.toArray⟩, rfl, rfl⟩
      obtain ⟨V, hV, hVl⟩ : ∃ V : ByteArray, strV op.val = .string V ∧ V.data.toList = op.val := ⟨⟨op.val.toArray⟩, rfl, rfl⟩
      rw [hK] at x2
      rw [hV] at x3
      have k0 : (0 : Int) ≤ (i : Int) := by omega
      have k1 : (i : Int) < (ops.length : Int) := by omega
      have hml : (Bt.apply l (ops.take i)).length ≤ l.length + i := by have := apply_length l (ops.take i); rw [List.length_take] at this; omega
      have hms := Bt.apply_sorted (ops.take i) HS.out
      have hdo : Bt.apply l (ops.take (i + 1)) = Bt.doOp (Bt.apply l (ops.take i)) op := by
        rw [List.take_add_one, hop]
        exact Bt.apply_snoc l (ops.take i) op
      generalize hm : Bt.apply l (ops.take i) = m at *
      clear hm
      have HML := Lib.hid hml
      have HMS := Lib.hid hms
      have HDO := Lib.hid hdo
      have HLT := Lib.hid hlt
      obtain ⟨oa, oc, hov⟩ := ownG_shape HN.out.own
      subst hov
      obtain ⟨B0, hB0⟩ : ∃ b, wr.heap.size = b := ⟨_, rfl⟩
      obtain ⟨W2, hW2⟩ : ∃ W, wr.alloc (.cells #[.bool op.del, .string K, .string V] 29) = W := ⟨_, rfl⟩
      have BB := newsG wr [.bool op.del, .string K, .string V] 29
      rw [show (wr.alloc (.cells ([Value.bool op.del, .string K, .string V] : List Value).toArray 29)) = W2 from hW2] at BB
      have N2 := Lib.hid (HN.out.quiet (hW2 ▸ (Qt.refl wr).alloc _ : Qt wr W2))
      have HBM := Lib.hid (show ∀ k, (Value.slice oa m.length oc).ownBlock = some k → k < B0 from fun k e => hB0 ▸ ownsRow_lt HN.out.own e)
      obtain ⟨gm, RM, nx⟩ := ownG_in rowC_len N2.out.own (by have := HML.out; have := HB.out; omega)
      clear nx
      have PL := rplace12_any K W2 RM HMS.out
      have c0 : W2.cell? ⟨B0, 0, none⟩ = some (.bool op.del) := hB0 ▸ BB 0 _ rfl
      have c1 : W2.cell? ⟨B0, 1, none⟩ = some (.string K) := hB0 ▸ BB 1 _ rfl
      have c2 : W2.cell? ⟨B0, 2, none⟩ = some (.string V) := hB0 ▸ BB 2 _ rfl
      have HW2 := Lib.hid hW2
      have CC := Lib.hid (And.intro c0 (And.intro c1 c2))
      clear hW2 BB hop hml hms hdo hlt hi RM c0 c2
      go_wp2_with fail
      rw [HW2.out]
      clear HW2 hB0
      go_wp2_with fail
      refine PL.mono ?_
      rintro e w3 ⟨rfl, q3⟩
      have N3 := Lib.hid (N2.out.quiet q3)
      have c0 := q3.cellv CC.out.1
      have c1 := q3.cellv CC.out.2.1
      have c2 := q3.cellv CC.out.2.2
      clear PL q3 CC N2
      rw [hKl]
      have HP := Lib.hid (Tb.place_le m op.key)
      have hwi : wrap64 ((i : Int) + 1) = (i : Int) + 1 := by have := HOL.out; have := HLT.out; unfold wrap64; omega
      have HM := Lib.hid (show ops.length - (intOf (.int .i64 ((i : Int) + 1))).toNat < ops.length - (intOf (.int .i64 (i : Int))).toNat by have := HLT.out; simp [intOf]; omega)
      have HFN := Lib.hid (fun (W : World) (z : Value) (r : List Tb.R) (h : NewG rowC 2 64 w W z r) (e : r = Bt.doOp m op) => (show ApAt w l ops z (.int .i64 ((i : Int) + 1)) W from ⟨i + 1, HLT.out, by push_cast; rfl, by rw [HDO.out, ← e]; exact h⟩))
      cases hd : op.del with
      | true =>
        rw [hd] at c0
        cases hh : Tb.has m op.key with
        | true =>
          obtain ⟨r, hrp, hrk⟩ := Tb.place_lt_of_has HMS.out hh
          have hpl := (List.getElem?_eq_some_iff.1 hrp).1
          obtain ⟨gk, rfl⟩ := ownG_some N3.out.own (by omega)
          have hcap := (ownG_cap N3.out.own).1
          have HDL := Lib.hid (Tb.del_yes HMS.out hh)
          clear hrp hrk
          generalize Tb.place m op.key = p at *
          have HPL := Lib.hid hpl
          have SH := fun W => sliceR_h (.inr ⟨gk, rfl⟩) m.length oc p (by omega) W
          have hq0 : (0 : Int) ≤ (p : Int) + 1 := by omega
          have hq1 : (p : Int) + 1 ≤ (m.length : Int) := by omega
          have ND := Lib.hid (news_dropG (W := w3.drew) (ownsRow_kept N3.out.own (Keeps.drew (Keeps.refl (fun _ => False) w3)) (fun _ _ e => e)) (p + 1) hcap)
          have PF := Lib.hid (show w3.drew.ownsRow 0 64 2 (.slice (some ⟨gk, 0, none⟩) p oc) p (cellsG rowC (m.take p)) from by
            have h := ownG_prefix rowC_len (by decide) (w := w3.drew) (l := m.take p) (k := m.drop p) (g := gk) (N := m.length) (m := m.length) (c := oc) (E := 64) (by rw [List.take_append_drop]; exact ownsRow_kept N3.out.own (Keeps.drew (Keeps.refl (fun _ => False) w3)) (fun _ _ e => e))
            rw [List.length_take, Nat.min_eq_left (by omega)] at h
            exact h)
          have LEN := Lib.hid (show (cellsG rowC (m.drop (p + 1))).length = (m.length - (p + 1)) * 2 by rw [cellsG_length rowC_len, List.length_drop])
          rw [show (some (⟨gk, 0, none⟩ : Addr)).map (·.add ((p + 1) * 2)) = some ⟨gk, (p + 1) * 2, none⟩ by rw [Option.map_some, add_plain, Nat.zero_add]] at ND
          obtain ⟨ad, had⟩ : ∃ a, (if oc = p + 1 then some (⟨gk, 0, none⟩ : Addr) else some ⟨gk, (p + 1) * 2, none⟩) = a := ⟨_, rfl⟩
          rw [had] at ND
          have hb1 := Lib.hid (show p + (m.length - (p + 1)) ≤ maxLen by have := HML.out; have := HB.out; unfold maxLen; omega)
          have hb2 := Lib.hid (show (p + (m.length - (p + 1))) * 32 ≤ 140737488355328 by have := HML.out; have := HB.out; have := HLT.out; omega)
          have hwp : IntKind.i64.wrap ((p : Int) + 1) = ((p + 1 : Nat) : Int) := by rw [IntKind.wrap_i64]; have := HML.out; have := HB.out; omega
          have hwp2 : wrap64 ((p : Int) + 1) = ((p + 1 : Nat) : Int) := by unfold wrap64; have := HML.out; have := HB.out; omega
          have DR := Lib.hid (show Qt w3 w3.drew from Keeps.drew (Qt.refl w3))
          clear hpl hcap
          go_wp2
          go_still_tail 7, (by kernel_rfl)
          change wpList _ _ _ _ _ w3.drew
          refine wpList_append_rows _ (by rfl) _ _ 45 (by rfl) 64 j0 (.agg #[.string ⟨#[]⟩, .string ⟨#[]⟩]) 2 32 Tryd.underlying45 hj0 jz0 jz1 jz2 rfl (by decide) (.slice (some ⟨gk, 0, none⟩) p oc) p (cellsG rowC (m.take p)) (by rfl) PF.out ad (m.length - (p + 1)) (oc - (p + 1)) (cellsG rowC (m.drop (p + 1))) (by rfl) LEN.out ND.out (rowC_one' _) hb1.out hb2.out ?_
          intro v5 w5 own5 gr5 la5
          have N5 := Lib.hid (newR_cut N3.out DR.out (by rw [List.length_append, List.length_take, List.length_drop]; have := HPL.out; omega) own5 gr5 la5)
          have FN := Lib.hid (HFN.out _ _ _ N5.out (by unfold Bt.doOp; rw [hd, if_pos rfl, HDL.out]))
          clear own5 gr5 la5
          go_wp2
          rw [hwi]
          exact ⟨FN.out, HM.out⟩
        | false =>
          have FN := Lib.hid (HFN.out _ _ _ N3.out (by unfold Bt.doOp; rw [hd, if_pos rfl, Tb.del_no hh]))
          go_wp2
          first | exact ⟨FN.out, HM.out⟩ | (rw [hwi]; exact ⟨FN.out, HM.out⟩)
      | false =>
        rw [hd] at c0
        cases hh : Tb.has m op.key with
        | true =>
          obtain ⟨r, hrp, hrk⟩ := Tb.place_lt_of_has HMS.out hh
          obtain ⟨gk, rfl⟩ := ownG_some N3.out.own (by have := (List.getElem?_eq_some_iff.1 hrp).1; omega)
          have fk : ∀ x, w3.frozen? ⟨gk, x, none⟩ = false := ownG_frozen N3.out.own
          have t2 : w3.cell? ⟨gk, Tb.place m op.key * 2 + 1, none⟩ = some (strV r.2) := ownG_cell1 rowC_len N3.out.own hrp (j := 1) rfl
          have p0 : (0 : Int) ≤ (Tb.place m op.key : Int) := by omega
          have p1 : (Tb.place m op.key : Int) < (m.length : Int) := by have := (List.getElem?_eq_some_iff.1 hrp).1; omega
          have FN := Lib.hid (HFN.out _ _ _ (newR_val N3.out hrp op.val) (by unfold Bt.doOp; rw [hd, if_neg (by decide), Tb.put_yes HMS.out hh, hrk]))
          rw [hV] at FN
          clear hrp
          go_wp2
          first | exact ⟨FN.out, HM.out⟩ | (rw [hwi]; exact ⟨FN.out, HM.out⟩)
        | false =>
          obtain ⟨oa3, oc3, hov3⟩ : ∃ a c, Value.slice oa m.length oc = .slice a m.length c := ⟨_, _, rfl⟩
          clear hov3 oa3 oc3
          have hpm : Tb.place m op.key ≤ m.length := HP.out
          have HPUT := Lib.hid (show Bt.doOp m op = m.take (Tb.place m op.key) ++ (op.key, op.val) :: m.drop (Tb.place m op.key) from by unfold Bt.doOp; rw [hd, if_neg (by decide), Tb.put_no hh])
          generalize Tb.place m op.key = p at *
          have OK := Lib.hid (fun o => (show (w3.alloc o).ownsRow 0 64 2 (.slice oa m.length oc) m.length (cellsG rowC m) from ownsRow_kept N3.out.own ((Keeps.refl (fun _ => False) _).alloc o) (fun _ _ e => e)))
          have hb1 : m.length + 1 ≤ maxLen := by have := HML.out; have := HB.out; have := HLT.out; unfold maxLen; omega
          have hb2 : (m.length + 1) * 32 ≤ 140737488355328 := by have := HML.out; have := HB.out; have := HLT.out; omega
          have CC := Lib.hid (And.intro c0 (And.intro c1 c2))
          have hz3 := Lib.hid (World.block_lt_of_cell? _ _ c1)
          clear c1 c2
          go_wp2_with (at_builtin; refine wpList_append_rows _ rfl _ _ 45 rfl 64 j0 (.agg #[.string ⟨#[]⟩, .string ⟨#[]⟩]) 2 32 Tryd.underlying45 hj0 jz0 jz1 jz2 rfl (by decide) _ m.length (cellsG rowC m) rfl (OK.out _) (some ⟨w3.heap.size, 0, none⟩) 1 1 (rowC ([], [])) rfl rfl (fun _ => ⟨_, rfl, newsG w3 (rowC ([], [])) 64⟩) (by intro y hy; simp [rowC] at hy; subst hy; rfl) hb1 hb2 ?_)
          intro v4 x4 own4 gr4 la4
          obtain ⟨N4, K4⟩ := NewG.grow N3.out (z := ([], [])) own4 gr4 la4
          obtain ⟨gk, ck, rfl⟩ := ownsRow_succ own4
          have c1 : x4.cell? ⟨B0, 1, none⟩ = some (.string K) := K4.cellv CC.out.2.1 (fun e => by have := HBM.out _ e; simp only at this; omega)
          have c2 : x4.cell? ⟨B0, 2, none⟩ = some (.string V) := K4.cellv CC.out.2.2 (fun e => by have := HBM.out _ e; simp only at this; omega)
          have GK := Lib.hid (show gk ≠ B0 from by
            rcases la4 with r | ⟨x, r, hx⟩
            · exact fun e => by have := HBM.out gk r.symm; omega
            · exact fun e => by have e2 : gk = x := Option.some.inj r; have hx : w3.heap.size ≤ x := Nat.le_trans (by simp) hx; have h3 : B0 < w3.heap.size := hz3.out; omega)
          have CC4 := Lib.hid (And.intro c1 c2)
          clear own4 gr4 la4 hb1 hb2 K4 c1 c2 CC
          have START2 := Lib.hid (show SvAt w x4 gk m (m.length + 1) ck p (.int .i64 (m.length : Int)) x4 from ⟨m.length, hpm, Nat.le_refl _, rfl, by rw [Bt.shift_start]; exact N4, Keeps.refl _ _⟩)
          have hw2 : wrap64 ((m.length : Int) + 1 - 1) = (m.length : Int) := by have := HML.out; have := HB.out; unfold wrap64; omega
          have hw2' : wrap64 (((m.length + 1 : Nat) : Int) - 1) = (m.length : Int) := by have := HML.out; have := HB.out; unfold wrap64; omega
          have hw2'' : wrap64 (m.length : Int) = (m.length : Int) := by have := HML.out; have := HB.out; unfold wrap64; omega
          go_wp2
          rw [hw2'']
          clear hw2 hw2' hw2''
          generalize hn1 : m.length + 1 = n1 at START2 ⊢
          have HN1 := Lib.hid hn1
          clear hn1 N4 OK N3 c0
          go_loopw [10] (fun kv wr => SvAt w x4 gk m n1 ck p kv wr) (fun kv _ => (intOf kv).toNat)
          case atStart => exact START2.out
          case round =>
            obtain ⟨k, hk1, hk2, rfl, TT, KK⟩ := hrel
            have fk : ∀ x, wr.frozen? ⟨gk, x, none⟩ = false := ownG_frozen TT.own
            have k0 : (0 : Int) ≤ (k : Int) := by omega
            have kn : (k : Int) < (n1 : Int) := by have := HN1.out; omega
            obtain ⟨yk, hyk⟩ := Bt.shift_at (xs := m) (z := ([], [])) (k := k) hk2
            have t1 : wr.cell? ⟨gk, k * 2, none⟩ = some (strV yk.1) := ownG_cell1 rowC_len TT.own hyk (j := 0) rfl
            have t2 : wr.cell? ⟨gk, k * 2 + 1, none⟩ = some (strV yk.2) := ownG_cell1 rowC_len TT.own hyk (j := 1) rfl
            clear hyk
            by_cases hlt2 : p < k
            · have zgt : decide ((p : Int) < (k : Int)) = true := decide_eq_true (by omega)
              have zgt' : decide (p < k) = true := decide_eq_true hlt2
              obtain ⟨j, hkj⟩ : ∃ j, k = j + 1 := ⟨k - 1, by omega⟩
              have hwk : wrap64 ((k : Int) - 1) = (j : Int) := by have := HML.out; have := HB.out; unfold wrap64; omega
              have jk0 : (0 : Int) ≤ (j : Int) := by omega
              have jn : (j : Int) < (n1 : Int) := by have := HN1.out; omega
              have hjm : j < m.length := by omega
              have e1 : (Bt.shiftL m ([], []) k)[j]? = some m[j] := by rw [hkj, Bt.shift_get hjm]; exact List.getElem?_eq_getElem hjm
              obtain ⟨r, hr⟩ : ∃ r, m[j] = r := ⟨_, rfl⟩
              rw [hr] at e1
              have s1 : wr.cell? ⟨gk, j * 2, none⟩ = some (strV r.1) := ownG_cell1 rowC_len TT.own e1 (j := 0) rfl
              have s2 : wr.cell? ⟨gk, j * 2 + 1, none⟩ = some (strV r.2) := ownG_cell1 rowC_len TT.own e1 (j := 1) rfl
              have FN := Lib.hid (show SvAt w x4 gk m n1 ck p (.int .i64 (j : Int)) ((wr.setCell ⟨gk, k * 2, none⟩ (strV r.1)).setCell ⟨gk, k * 2 + 1, none⟩ (strV r.2)) from ⟨j, by omega, by omega, rfl, by
                have h1 := newR_set TT (i := k) (by rw [Bt.shift_length hk2]; omega) r
                have f1 := Bt.shift_step (z := (([], []) : Tb.R)) hjm
                rw [hr, ← hkj] at f1
                rw [f1] at h1
                exact h1, keeps_set2 KK (fun _ => rfl) k _ _⟩)
              have HMM := Lib.hid (show (intOf (.int .i64 (j : Int))).toNat < (intOf (.int .i64 (k : Int))).toNat by simp [intOf]; omega)
              obtain ⟨A1, hA1⟩ : ∃ A : ByteArray, strV r.1 = .string A := ⟨_, rfl⟩
              obtain ⟨A2, hA2⟩ : ∃ A : ByteArray, strV r.2 = .string A := ⟨_, rfl⟩
              rw [hA1, hA2] at FN
              rw [hA1] at s1
              rw [hA2] at s2
              clear hA1 hA2 TT KK hk1 hk2 hlt2 hkj hjm e1 hr
              go_wp2
              rw [hwk]
              exact ⟨FN.out, HMM.out⟩
            · have hke : k = p := by omega
              have zgt : decide ((p : Int) < (k : Int)) = false := decide_eq_false (by omega)
              have zgt' : decide (p < k) = false := decide_eq_false hlt2
              have s1 : wr.cell? ⟨B0, 1, none⟩ = some (.string K) := KK.cellv CC4.out.1 (fun e => GK.out e.symm)
              have s2 : wr.cell? ⟨B0, 2, none⟩ = some (.string V) := KK.cellv CC4.out.2 (fun e => GK.out e.symm)
              have FN := Lib.hid (HFN.out _ _ _ (newR_set TT (i := k) (by rw [Bt.shift_length hk2]; omega) (op.key, op.val)) (by rw [Bt.shift_set hk2, HPUT.out, hke]))
              rw [hK, hV] at FN
              have bk : B0 ≠ gk := fun e => GK.out e.symm
              rw [← hke]
              clear TT KK hk1 hk2 hlt2 hke
              go_wp2
              rw [hwi]
              exact ⟨FN.out, HM.out⟩
    · obtain rfl : i = ops.length := by omega
      have zlt : decide ((ops.length : Int) < (ops.length : Int)) = false := decide_eq_false (by omega)
      have zlt' : decide (ops.length < ops.length) = false := decide_eq_false (by omega)
      rw [List.take_length] at HN
      clear hi hlt
      go_wp2
      go_ret
      exact ⟨_, rfl, HN.out⟩
end Go.Proofs.YtffjleceogablaaDoor
namespace Go.Proofs.YtffjleceogablaaDoor
open Go.RowKit Go.WideShapes
set_option maxRecDepth 100000

namespace Bt
/-- The bytes of keys and Values. -/
def opsW (ops : List O) : Nat := (ops.map fun o => o.key.length + o.val.length).sum
theorem opsW_take (ops : List O) (i : Nat) : opsW (ops.take i) ≤ opsW ops := by
  have h : opsW ops = opsW (ops.take i) + opsW (ops.drop i) := by
    unfold opsW
    rw [← List.sum_append, ← List.map_append, List.take_append_drop]
  omega
theorem opsW_snoc (ops : List O) (o : O) : opsW (ops ++ [o]) = opsW ops + (o.key.length + o.val.length) := by simp [opsW]
theorem doOp_bytes (l : List Tb.R) (o : O) : Tb.bytes (doOp l o) ≤ Tb.bytes l + (o.key.length + o.val.length) := by
  unfold doOp
  split
  · have := Tb.del_bytes l o.key; omega
  · exact Tb.put_bytes l o.key o.val
theorem apply_bytes (l : List Tb.R) : ∀ (ops : List O), Tb.bytes (apply l ops) ≤ Tb.bytes l + opsW ops := by
  intro ops
  induction h : ops.length generalizing ops with
  | zero =>
    obtain rfl := List.length_eq_zero_iff.1 h
    exact Nat.le_refl _
  | succ n ih =>
    obtain ⟨pre, o, rfl⟩ : ∃ pre o, ops = pre ++ [o] := by
      have hne : ops ≠ [] := by rintro rfl; simp at h
      exact ⟨ops.dropLast, ops.getLast hne, (List.dropLast_concat_getLast hne).symm⟩
    have h1 := ih pre (by simpa using h)
    have h2 := doOp_bytes (apply l pre) o
    rw [apply_snoc, opsW_snoc]
    omega
end Bt
def ApT (w : World) (b : Nat) (A : Nat → Prop) (l : List Tb.R) (ops : List Bt.O) (iv : Value) (wr : World) : Prop :=
  ∃ (i : Nat) (A2 : Nat → Prop), i ≤ ops.length ∧ iv = .int .i64 i ∧ Tbl wr b (Bt.apply l (ops.take i)) A2 ∧ (∀ k, A2 k → A k ∨ w.heap.size ≤ k) ∧ Keeps (fun k => k = b) w wr
theorem turned_ap {w wr w2 : World} {b : Nat} {A A2 : Nat → Prop} {l l2 : List Tb.R} {ops : List Bt.O} {i : Nat} {op : Bt.O} (hop : ops[i]? = some op) (K : Keeps (fun k => k = b) w wr) (hA : ∀ k, A2 k → A k ∨ w.heap.size ≤ k) (hl : l2 = Bt.doOp (Bt.apply l (ops.take i)) op) (t : Turned wr b A2 l2 w2) : ApT w b A l ops (.int .i64 ((i : Int) + 1)) w2 := by
  obtain ⟨A3, t3, h3, k3⟩ := t
  refine ⟨i + 1, A3, (List.getElem?_eq_some_iff.1 hop).1, by simp, ?_, fun k hk => ?_, K.trans k3 (fun _ _ e => e)⟩
  · rw [List.take_add_one, hop]
    show Tbl w2 b (Bt.apply l (ops.take i ++ [op])) A3
    rw [Bt.apply_snoc, ← hl]
    exact t3
  · rcases h3 k hk with h | h
    · exact hA k h
    · have := K.size; exact .inr (by omega)
set_option maxHeartbeats 3200000 in
theorem apply12_any {v : Value} {g o b : Nat} {ops : List Bt.O} {l : List Tb.R} {A : Nat → Prop} (w : World) (hT : Tbl w b l A) (hr : OpsIn w v g o ops) (hd : ops ≠ [] → g ≠ b)
    (htx : ∀ o ∈ ops, o.key.length ≤ 281474976710656 ∧ o.val.length ≤ 281474976710656) (hn : l.length + ops.length ≤ 4398046511104) (hs : Tb.bytes l + Bt.opsW ops ≤ 9223372036854775807) :
    Calls Tryd.prog 22 #[ptrV b, v] w fun e w' => e = .returned (.tuple #[]) ∧ Turned w b A (Bt.apply l ops) w' := by
  have HR := Lib.hid hr
  have HD := Lib.hid hd
  have HX := Lib.hid htx
  have HN := Lib.hid hn
  have HS := Lib.hid hs
  have HLE := Lib.hid hr.le
  have START := Lib.hid (show ApT w b A l ops (.int .i64 0) w from ⟨0, A, Nat.zero_le _, rfl, hT, fun _ h => .inl h, Keeps.refl _ _⟩)
  obtain ⟨a, cap, rfl, ha⟩ := hr.val
  clear hr hd htx hn hs ha hT
  go_enter Tryd.func22, Tryd.ntmps22
  go_wp2
  go_loopw [8] (fun iv wr => ApT w b A l ops iv wr) (fun iv _ => ops.length - (intOf iv).toNat)
  case atStart => exact START.out
  case round =>
    obtain ⟨i, A2, hi, rfl, hT, hA, hK⟩ := hrel
    have HT := Lib.hid hT
    have HA := Lib.hid hA
    have HK := Lib.hid hK
    clear START
    by_cases hlt : i < ops.length
    · have zlt : decide ((i : Int) < (ops.length : Int)) = true := decide_eq_true (by omega)
      have zlt' : decide (i < ops.length) = true := decide_eq_true hlt
      have hne : ops ≠ [] := by rintro rfl; simp at hlt
      obtain ⟨op, c1, hop, e0⟩ := HR.out.elem hlt
      injection e0 with e0 q1 q2
      clear q1 q2
      subst e0
      obtain ⟨x1, x2, x3⟩ := OpsIn.cell (recs_kept HR.out hK HD.out) hop
      obtain ⟨K, hK1, hKl⟩ : ∃ K : ByteArray, strV op.key = .string K ∧ K.data.toList = op.key := ⟨⟨op.key.toArray⟩, rfl, rfl⟩
      obtain ⟨V, hV1, hVl⟩ : ∃ V : ByteArray, strV op.val = .string V ∧ V.data.toList = op.val := ⟨⟨op.val.toArray⟩, rfl, rfl⟩
      rw [hK1] at x2
      rw [hV1] at x3
      have k0 : (0 : Int) ≤ (i : Int) := by omega
      have k1 : (i : Int) < (ops.length : Int) := by omega
      have hw1 := pl_w1 (k := i) (by have := HLE.out; omega)
      have HM := Lib.hid (pl_meas hlt)
      have HOP := Lib.hid hop
      have hal : (Bt.apply l (ops.take i)).length ≤ l.length + i := by
        have h1 := apply_length l (ops.take i)
        rw [List.length_take] at h1
        omega
      have hab : Tb.bytes (Bt.apply l (ops.take i)) + (op.key.length + op.val.length) ≤ 9223372036854775807 := by
        have h1 := Bt.apply_bytes l (ops.take i)
        have h2 := Bt.opsW_take ops (i + 1)
        rw [List.take_add_one, hop, Option.toList_some, Bt.opsW_snoc] at h2
        have := HS.out
        omega
      have htx := HX.out op (List.mem_of_getElem? hop)
      have hKs : K.size = op.key.length := by rw [← hKl]; rfl
      have hVs : V.size = op.val.length := by rw [← hVl]; rfl
      cases hdel : op.del with
      | true =>
        rw [hdel] at x1
        have DL := fun o => del11_any (hT.qt ((Qt.refl wr).alloc o)) K
        rw [hKl] at DL
        have FN := Lib.hid (fun o w2 (t : Turned (wr.alloc o) b A2 (Tb.del (Bt.apply l (ops.take i)) op.key) w2) => turned_ap (w := w) (wr := wr.alloc o) HOP.out (HK.out.alloc o) HA.out (by unfold Bt.doOp; rw [hdel, if_pos rfl]) t)
        clear hT hA hK hlt hi hop hK1 hKl hV1 hVl hal hab htx hKs hVs hdel
        go_wp2_with fail
        refine (DL _).mono ?_
        rintro e w2 ⟨rfl, t⟩
        have FIN := Lib.hid (FN.out _ _ t)
        clear t DL
        go_wp2
        rw [hw1]
        exact ⟨FIN.out, HM.out⟩
      | false =>
        rw [hdel] at x1
        have PT := fun o => put11_any (hT.qt ((Qt.refl wr).alloc o)) K V (by omega) (by omega) (by
          rw [hKl, hVl]
          have h1 := Tb.put_length_le (Bt.apply l (ops.take i)) op.key op.val
          have := HN.out
          omega) (by rw [hKs, hVs]; exact hab)
        rw [hKl, hVl] at PT
        have FN := Lib.hid (fun o w2 (t : Turned (wr.alloc o) b A2 (Tb.put (Bt.apply l (ops.take i)) op.key op.val) w2) => turned_ap (w := w) (wr := wr.alloc o) HOP.out (HK.out.alloc o) HA.out (by unfold Bt.doOp; rw [hdel, if_neg (by decide)]) t)
        clear hT hA hK hlt hi hop hK1 hKl hV1 hVl hal hab htx hKs hVs hdel
        go_wp2_with fail
        refine (PT _).mono ?_
        rintro e w2 ⟨rfl, t⟩
        have FIN := Lib.hid (FN.out _ _ t)
        clear t PT
        go_wp2
        rw [hw1]
        exact ⟨FIN.out, HM.out⟩
    · obtain rfl : i = ops.length := by omega
      have zlt : decide ((ops.length : Int) < (ops.length : Int)) = false := decide_eq_false (by omega)
      have zlt' : decide (ops.length < ops.length) = false := decide_eq_false (by omega)
      have FIN := Lib.hid (show Turned w b A (Bt.apply l ops) wr from by
        have h := HT.out
        rw [List.take_length] at h
        exact ⟨A2, h, HA.out, HK.out⟩)
      clear hT hA hK hlt hi
      go_wp2
      go_end0
      exact ⟨rfl, FIN.out⟩
end Go.Proofs.YtffjleceogablaaDoor
