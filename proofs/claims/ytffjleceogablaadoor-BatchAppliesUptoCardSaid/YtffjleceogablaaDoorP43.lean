/-
  The contracts of remitlaw12.made and of the landed table's Rows; ops of one's own as ops that lie.
  The contract of remitlaw12.BatchApplies: it answers true.
-/
import Derived.Test.YtffjleceogablaaDoorP15
import Derived.Test.YtffjleceogablaaDoorP39
import Derived.Test.YtffjleceogablaaDoorP37
import Derived.Test.YtffjleceogablaaDoorP41
import Derived.Test.YtffjleceogablaaDoorP42
import Derived.Test.YtffjleceogablaaDoorP06
import Derived.LoopTactic
import Derived.RangeFuncBox
import Derived.Test.YtffjleceogablaaDoorP14
import Derived.Test.YtffjleceogablaaDoorP26
import Derived.Test.YtffjleceogablaaDoorP18
import Derived.Test.YtffjleceogablaaDoorP40
import Derived.Test.YtffjleceogablaaDoorP16
namespace Go.Proofs.YtffjleceogablaaDoor
open Go.RowKit Go.WideShapes
set_option maxRecDepth 100000

theorem newO_in {w w' : World} {v : Value} {l : List Bt.O} (h : NewO w w' v l) (hl : l.length ≤ 17592186044416) : ∃ g, OpsIn w' v g 0 l ∧ (l ≠ [] → w.heap.size ≤ g ∧ g < w'.heap.size) := by
  obtain ⟨g, h1, h2⟩ := ownG_in opC_len h.own hl
  refine ⟨g, h1, fun hne => ?_⟩
  rcases h.own.2 with ⟨e, h0⟩ | ⟨g', cap, cur, e, _⟩
  · exact absurd (List.length_eq_zero_iff.1 h0) hne
  · have e1 : v.ownBlock = some g' := by rw [e]; rfl
    have e2 := h2 g' e1
    subst e2
    exact ⟨h.new _ e1, ownsRow_lt h.own e1⟩
theorem rows12_any {W : World} {b : Nat} {l : List Tb.R} {A : Nat → Prop} (h : Tbl W b l A) :
    Calls Tryd.prog 26 #[ptrV b] W fun e w' => ∃ v, e = .returned v ∧ NewR W w' v l :=
  rows11_any h (fun w q => by
    have f := from11_any (h.qt q) ⟨#[]⟩
    rwa [show Tb.fromL l (⟨#[]⟩ : ByteArray).data.toList = l from Tb.from_nil l] at f)
set_option maxHeartbeats 1600000 in
theorem made12_any {v : Value} {g o : Nat} {rows : List Tb.R} (w : World) (hr : RowsIn w v g o rows) (hb : Tb.bytes rows ≤ 9223372036854775807) (ht : ∀ r ∈ rows, r.1.length ≤ 281474976710656 ∧ r.2.length ≤ 281474976710656) (hn : rows.length ≤ 1048576) :
    Calls Tryd.prog 21 #[v] w fun e w' => ∃ b A, e = .returned (ptrV b) ∧ Tbl w' b (Tb.ofL rows) A ∧ (∀ k, A k → w.heap.size ≤ k) ∧ Qt w w' := by
  have HR := Lib.hid hr
  have HB := Lib.hid hb
  have HT := Lib.hid ht
  have HN := Lib.hid hn
  obtain ⟨a, cap, rfl, ha⟩ := hr.val
  clear hr hb ht hn ha
  obtain ⟨j0, hj0, jz0, jz1, jz2⟩ := info_parts infoRow
  have q0 : Qt w (w.alloc (.cells #[] 64)) := (Qt.refl w).alloc _
  have NW1 := recs_news rowC_len (by decide) (recs_turn HR.out q0)
  have hb1 : 0 + rows.length ≤ maxLen := by have := HN.out; unfold maxLen; omega
  have hb2 : (0 + rows.length) * 32 ≤ 140737488355328 := by have := HN.out; omega
  have Q0 := Lib.hid q0
  clear q0
  go_enter Tryd.func21, Tryd.ntmps21
  go_wp2_with (at_builtin; refine wpList_append_rows _ rfl _ _ 45 rfl 64 j0 (.agg #[.string ⟨#[]⟩, .string ⟨#[]⟩]) 2 32 Tryd.underlying45 hj0 jz0 jz1 jz2 rfl (by decide) _ 0 (cellsG rowC []) rfl (row_new0G w) _ rows.length _ (cellsG rowC rows) rfl (cellsG_length rowC_len rows) NW1 (rowC_one' rows) hb1 hb2 ?_)
  intro v1 x1 own1 gr1 la1
  have NG := ownG_more (W := w) (l := []) (k := rows) (fun g e => by injection e with e; subst e; exact Nat.le_refl _) Q0.out (by simp) (by rw [cellsG_append]) own1 gr1 la1
  rw [List.nil_append] at NG
  clear own1 hb1 hb2 NW1 gr1 la1 Q0
  obtain ⟨gr, RR, _⟩ := ownG_in rowC_len NG.own (by have := HN.out; omega)
  have OF := of11_any x1 RR HB.out HT.out HN.out
  have NQ := Lib.hid NG.qt
  clear NG RR
  go_wp2_with fail
  refine OF.mono ?_
  rintro e w2 ⟨b, A, rfl, t, n, q⟩
  have FIN := Lib.hid (show Tbl w2 b (Tb.ofL rows) A ∧ (∀ k, A k → w.heap.size ≤ k) ∧ Qt w w2 from ⟨t, fun k hk => by have := n k hk; have := NQ.out.size; omega, Qt.trans NQ.out q⟩)
  clear OF t n q
  go_wp2
  go_ret
  exact ⟨b, A, rfl, FIN.out⟩
end Go.Proofs.YtffjleceogablaaDoor
namespace Go.Proofs.YtffjleceogablaaDoor
open Go.RowKit Go.WideShapes
set_option maxRecDepth 100000

theorem Tb.bytes_mem {rows : List Tb.R} {r : Tb.R} (h : r ∈ rows) : r.1.length + r.2.length ≤ Tb.bytes rows := by
  induction rows with
  | nil => cases h
  | cons x xs ih =>
    rw [Tb.bytes_cons]
    rcases List.mem_cons.1 h with rfl | h
    · omega
    · have := ih h; omega
theorem Bt.opsW_most : ∀ (ops : List Bt.O), (∀ o ∈ ops, o.key.length ≤ 1048576 ∧ o.val.length ≤ 1048576) → Bt.opsW ops ≤ ops.length * 2097152
  | [], _ => Nat.zero_le _
  | o :: os, h => by
    have ih := opsW_most os (fun p hp => h p (by simp [hp]))
    have h0 := h o (by simp)
    have e : Bt.opsW (o :: os) = o.key.length + o.val.length + Bt.opsW os := by simp [Bt.opsW]
    rw [e, List.length_cons]
    omega
/-- Apply of ops that are light enough. -/
theorem apply12_do {v : Value} {g o b : Nat} {ops : List Bt.O} {l : List Tb.R} {A : Nat → Prop} (w : World) (hT : Tbl w b l A) (hr : OpsIn w v g o ops) (hd : ops ≠ [] → g ≠ b)
    (hk : ∀ o ∈ ops, o.key.length ≤ 1048576 ∧ o.val.length ≤ 1048576) (hn : ops.length ≤ 1048576) (hl : l.length ≤ 8388608) (hs : Tb.bytes l ≤ 1125899906842624) :
    Calls Tryd.prog 22 #[ptrV b, v] w fun e w' => e = .returned (.tuple #[]) ∧ Turned w b A (Bt.apply l ops) w' :=
  apply12_any w hT hr hd (fun o ho => by have := hk o ho; omega) (by omega) (by have := Bt.opsW_most ops hk; omega)
theorem Tbl.ap_len {ops : List Bt.O} {l : List Tb.R} (hn : ops.length ≤ 1048576) (hl : l.length ≤ 1048576) : (Bt.apply l ops).length ≤ 2097152 := by
  have := apply_length l ops; omega
theorem Tbl.ap_bytes {ops : List Bt.O} {l : List Tb.R} (hk : ∀ o ∈ ops, o.key.length ≤ 1048576 ∧ o.val.length ≤ 1048576) (hn : ops.length ≤ 1048576) (hs : Tb.bytes l ≤ 1048576) : Tb.bytes (Bt.apply l ops) ≤ 4398046511104 := by
  have h1 := Bt.apply_bytes l ops
  have h2 := Bt.opsW_most ops hk
  omega
set_option maxHeartbeats 12800000 in
theorem applies_any {ad : Nat → Addr} {g o g0 o0 : Nat} {v v0 : Value} {rows : List Tb.R} {ops : List Bt.O} (w : World) (hE : E2 ad w) (hrr : RowsIn w v0 g0 o0 rows) (hr : OpsIn w v g o ops) (hrb : Tb.bytes rows ≤ 1048576) (hrn : rows.length ≤ 1048576) (hb : Bt.wt ops ≤ 1048576) :
    Calls Tryd.prog 7 #[v0, v] w fun e w' => e = .returned (.bool true) ∧ Qt w w' := by
  have LV := lives12_any w hE
  have HL0 := Bt.wt_len ops
  have HB := Lib.hid (show ops.length ≤ 262144 by omega)
  have HKO := Lib.hid (show ∀ z ∈ ops, z.key.length ≤ maxLen from fun z hz => by have := Bt.wt_op hz; unfold maxLen; omega)
  have HKV := Lib.hid (show ∀ z ∈ ops, z.key.length ≤ 1048576 ∧ z.val.length ≤ 1048576 from fun z hz => by have := Bt.wt_op hz; omega)
  have NLG := Lib.hid (Bt.normal_light hb)
  have HR := Lib.hid hr
  have HRR := Lib.hid hrr
  have HRN := Lib.hid hrn
  have HLL := Lib.hid (show (Tb.ofL rows).length ≤ 1048576 from Nat.le_trans (Tb.ofL_length rows) hrn)
  have HLB := Lib.hid (show Tb.bytes (Tb.ofL rows) ≤ 1048576 from Nat.le_trans (Tb.ofL_bytes rows) hrb)
  have HRB := Lib.hid hrb
  have HRT := Lib.hid (show ∀ r ∈ rows, r.1.length ≤ 281474976710656 ∧ r.2.length ≤ 281474976710656 from fun r hr => by have := Tb.bytes_mem hr; omega)
  obtain ⟨i0, hi0, hz0, hz1, hz2⟩ := info_parts infoOp12
  obtain ⟨a, cap, rfl, ha⟩ := hr.val
  obtain ⟨a0, cap0, rfl, ha0⟩ := hrr.val
  clear hr hrr ha ha0 hrb hrn hb hE HL0
  go_enter Tryd.func7, Tryd.ntmps7
  go_wp2_with fail
  refine LV.mono ?_
  rintro e w1 ⟨rfl, q1⟩
  have Q1 := Lib.hid q1
  have M1 := made12_any w1 (recs_turn HRR.out q1) (by have := HRB.out; omega) HRT.out HRN.out
  clear LV q1
  go_wp2_with fail
  refine M1.mono ?_
  rintro e w2 ⟨b1, A1, rfl, t1, n1, q2⟩
  have Q2 := Lib.hid (Qt.trans Q1.out q2)
  have T1 := Lib.hid t1
  have N1 := Lib.hid (fun k (h : A1 k) => (show w.heap.size ≤ k ∧ k < w2.heap.size from ⟨by have := n1 k h; have := Q1.out.size; omega, t1.lt k h⟩))
  have M2 := made12_any w2 (recs_turn HRR.out Q2.out) (by have := HRB.out; omega) HRT.out HRN.out
  clear M1 t1 n1 q2
  go_wp2_with fail
  refine M2.mono ?_
  rintro e w3 ⟨b2, A2, rfl, t2, n2, q3⟩
  have Q3 := Lib.hid (Qt.trans Q2.out q3)
  have T1b := Lib.hid (T1.out.qt q3)
  have T2 := Lib.hid t2
  have N2 := Lib.hid (fun k (h : A2 k) => (show w2.heap.size ≤ k ∧ k < w3.heap.size from ⟨n2 k h, t2.lt k h⟩))
  have SP := spare12_any w3 (recs_turn HR.out Q3.out) (by have := HB.out; omega)
  clear M2 t2 n2 q3
  go_wp2_with fail
  refine SP.mono ?_
  rintro e w4 ⟨gm, cm, rfl, hgm, own4, q4⟩
  have Q4 := Lib.hid (Qt.trans Q3.out q4)
  have GM := Lib.hid (show w3.heap.size ≤ gm ∧ gm < w4.heap.size from ⟨hgm, ownsRow_lt own4 rfl⟩)
  have OM := Lib.hid own4
  have B1 := Lib.hid (N1.out b1 T1.out.own)
  have B2 := Lib.hid (N2.out b2 T2.out.own)
  have Z := Lib.hid (show w.heap.size ≤ w2.heap.size ∧ w2.heap.size ≤ w3.heap.size from ⟨Q2.out.size, by have := B2.out; omega⟩)
  have AP := apply12_do w4 (T1b.out.qt q4) (ownG_take opC_len (l := ops) (k := [spO, rmO]) own4 (by have := HB.out; omega) cm) (fun _ => by have := GM.out; have := B1.out; have := Z.out; omega) HKV.out (by have := HB.out; omega) (by have := HLL.out; omega) (by have := HLB.out; omega)
  have T2b := Lib.hid (T2.out.qt q4)
  clear SP hgm own4 q4
  go_wp2_with fail
  refine AP.mono ?_
  rintro e w5 ⟨rfl, A3, t3, hA3, K5⟩
  have T3 := Lib.hid t3
  have KK5 := Lib.hid K5
  have N3 := Lib.hid (fun k (h : A3 k) => (show k ≠ b2 from fun e => by
    have h1 := B2.out; have h2 := GM.out
    rcases hA3 k h with h | h
    · have := N1.out k h; have := B1.out; omega
    · omega))
  have T2c := Lib.hid (T2b.out.kept K5 (fun j hj e => by have := N2.out j hj; have := B1.out; omega))
  have OM5 := Lib.hid (show w5.ownsRow 0 29 3 (.slice (some ⟨gm, 0, none⟩) (ops.length + 2) cm) (ops.length + 2) (opsC (ops ++ [spO, rmO])) from ownsRow_kept OM.out K5 (fun k e1 e2 => by have e3 : gm = k := Option.some.inj e1; have := GM.out; have := B1.out; have := Z.out; omega))
  have Q5 := Lib.hid (show Qt w w5 from Keeps.trans Q4.out K5 (fun k hk e => by have := B1.out; omega))
  have NW1 := recs_news opC_len (by decide) (recs_turn HR.out (Q5.out.alloc (.cells #[] 29)))
  have hb1 : 0 + ops.length ≤ maxLen := by have := HB.out; unfold maxLen; omega
  have hb2 : (0 + ops.length) * 40 ≤ 140737488355328 := by have := HB.out; omega
  clear AP t3 hA3 K5
  go_wp2_with (at_builtin; refine wpList_append_rows _ rfl _ _ 22 rfl 29 i0 (.agg #[.bool false, .string ⟨#[]⟩, .string ⟨#[]⟩]) 3 40 Tryd.underlying22 hi0 hz0 hz1 hz2 rfl (by decide) _ 0 (opsC []) rfl (op_new0 w5) _ ops.length _ (opsC ops) rfl (opsC_length ops) NW1 (opsC_one' ops) hb1 hb2 ?_)
  intro v1 x1 own1 gr1 la1
  have NG := ownG_more (W := w5) (l := []) (k := ops) (fun g e => by injection e with e; subst e; exact Nat.le_refl _) ((Qt.refl w5).alloc _) (by simp) (by rw [cellsG_append]) own1 gr1 la1
  rw [List.nil_append] at NG
  clear own1 hb1 hb2 NW1 gr1 la1
  obtain ⟨gc, RC⟩ := opsIn_own NG.own (by have := HB.out; omega)
  have NQ := Lib.hid NG.qt
  have NA := normal12_any x1 RC (by have := HB.out; omega) HKO.out
  clear NG RC
  go_wp2_with fail
  refine NA.mono ?_
  rintro e w6 ⟨va, rfl, n6⟩
  obtain ⟨gn, rn, hgn⟩ := newO_in n6 (by have := NLG.out.1; omega)
  have Q56 := Lib.hid (Qt.trans NQ.out n6.qt)
  have AP2 := apply12_do w6 (T2c.out.qt Q56.out) rn (fun hne e => by have h1 := (hgn hne).1; have h2 := B2.out; have h3 := GM.out; have h4 := KK5.out.size; have h5 := NQ.out.size; omega) NLG.out.2 (by have := NLG.out.1; omega) (by have := HLL.out; omega) (by have := HLB.out; omega)
  rw [Bt.apply_normal (Tb.ofL_sorted rows)] at AP2
  clear NA n6 rn hgn
  go_wp2_with fail
  refine AP2.mono ?_
  rintro e w7 ⟨rfl, A4, t4, hA4, K7⟩
  have T4 := Lib.hid t4
  have T3b := Lib.hid ((T3.out.qt Q56.out).kept K7 (fun j hj e => N3.out j hj e))
  have OM7 := Lib.hid (show w7.ownsRow 0 29 3 (.slice (some ⟨gm, 0, none⟩) (ops.length + 2) cm) (ops.length + 2) (opsC (ops ++ [spO, rmO])) from ownsRow_kept (ownsRow_kept OM5.out Q56.out (fun _ _ e => e)) K7 (fun k e1 e2 => by have e3 : gm = k := Option.some.inj e1; have := GM.out; have := B2.out; omega))
  have Q7 := Lib.hid (show Qt w w7 from Keeps.trans (Qt.trans Q5.out Q56.out) K7 (fun k hk e => by have := B2.out; have := Z.out; omega))
  have RW := rrows12_any w7 (recs_turn HRR.out Q7.out) (by have := HRN.out; omega)
  clear AP2 t4 hA4 K7
  go_wp2_with fail
  refine RW.mono ?_
  rintro e w8 ⟨vr, rfl, n8⟩
  have Q8 := Lib.hid (Qt.trans Q7.out n8.qt)
  have Q78 := Lib.hid n8.qt
  obtain ⟨gr, rr, _⟩ := ownG_in rowC_len n8.own (by have := HLL.out; omega)
  have RA := rapply12_any w8 rr (recs_turn HR.out Q8.out) (Tb.ofL_sorted rows) (by have := HLL.out; have := HB.out; omega)
  clear RW n8 rr
  go_wp2_with fail
  refine RA.mono ?_
  rintro e w9 ⟨vw, rfl, n9⟩
  obtain ⟨fl, hfl⟩ : ∃ fl, Bt.apply (Tb.ofL rows) ops = fl := ⟨_, rfl⟩
  have HFL := Lib.hid (show fl.length ≤ 2097152 by rw [← hfl]; exact Tbl.ap_len (by have := HB.out; omega) HLL.out)
  rw [hfl] at n9 T3b T4
  have WN := Lib.hid n9
  have Q9 := Lib.hid (Qt.trans Q8.out n9.qt)
  have Q79 := Lib.hid (Qt.trans Q78.out n9.qt)
  have KP := kept12_yes w9 (ownsRow_kept OM7.out Q79.out (fun _ _ e => e)) (recs_turn HR.out Q9.out)
  clear RA n9
  go_wp2_with fail
  refine KP.mono ?_
  rintro e w10 ⟨rfl, q10⟩
  have Q10 := Lib.hid (Qt.trans Q79.out q10)
  have R1 := rows12_any (T3b.out.qt Q10.out)
  have Q9A := Lib.hid q10
  clear KP q10
  go_wp2_with fail
  refine R1.mono ?_
  rintro e w11 ⟨vx, rfl, n11⟩
  have Q11 := Lib.hid (Qt.trans Q10.out n11.qt)
  have Q9B := Lib.hid (Qt.trans Q9A.out n11.qt)
  obtain ⟨gx, rx⟩ := n11.rows (by have := HFL.out; omega)
  obtain ⟨gw, rw1, _⟩ := ownG_in rowC_len (ownsRow_kept WN.out.own Q9B.out (fun _ _ e => e)) (by have := HFL.out; omega)
  have S1 := sameR12_yes rx rw1
  clear R1 n11 rx rw1
  go_wp2_with fail
  refine S1.mono ?_
  rintro e w12 ⟨rfl, q12⟩
  have Q12 := Lib.hid (Qt.trans Q11.out q12)
  have Q9C := Lib.hid (Qt.trans Q9B.out q12)
  have R2 := rows12_any (T4.out.qt Q12.out)
  clear S1 q12
  go_wp2_with fail
  refine R2.mono ?_
  rintro e w13 ⟨vy, rfl, n13⟩
  have Q13 := Lib.hid (Qt.trans Q12.out n13.qt)
  have Q9D := Lib.hid (Qt.trans Q9C.out n13.qt)
  obtain ⟨gy, ry⟩ := n13.rows (by have := HFL.out; omega)
  obtain ⟨gw2, rw2, _⟩ := ownG_in rowC_len (ownsRow_kept WN.out.own Q9D.out (fun _ _ e => e)) (by have := HFL.out; omega)
  have S2 := sameR12_yes ry rw2
  clear R2 n13 ry rw2
  go_wp2_with fail
  refine S2.mono ?_
  rintro e w14 ⟨rfl, q14⟩
  have FIN := Lib.hid (Qt.trans Q7.out (Qt.trans Q13.out q14))
  clear S2 q14
  go_wp2
  go_ret
  exact ⟨rfl, FIN.out⟩
end Go.Proofs.YtffjleceogablaaDoor
