/-
  The contract of remitlaw12.BatchJoins: it answers true.
-/
import Derived.Test.YtffjleceogablaaDoorP43
import Derived.Test.YtffjleceogablaaDoorP44
import Derived.Deep.QuietTactic
import Derived.BigQuiet
namespace Go.Proofs.YtffjleceogablaaDoor
open Go.RowKit Go.WideShapes
set_option maxRecDepth 100000

/-- Where a loop over a list of ops that asks only stands. -/
def AskAt (w : World) (n : Nat) (iv : Value) (wr : World) : Prop := ∃ i : Nat, i ≤ n ∧ iv = .int .i64 i ∧ Qt w wr
theorem Bt.wt_append (a b : List Bt.O) : Bt.wt (a ++ b) = Bt.wt a + Bt.wt b := by simp [Bt.wt]
set_option maxHeartbeats 25600000 in
theorem joins_any {ad : Nat → Addr} {g o g0 o0 g1 o1 : Nat} {v v0 v1 : Value} {rows : List Tb.R} {oa ob : List Bt.O} (w : World) (hE : E2 ad w) (hrr : RowsIn w v0 g0 o0 rows) (hra : OpsIn w v g o oa) (hrb' : OpsIn w v1 g1 o1 ob) (hrb : Tb.bytes rows ≤ 1048576) (hrn : rows.length ≤ 1048576) (hb : Bt.wt oa + Bt.wt ob ≤ 1048576) :
    Calls Tryd.prog 9 #[v0, v, v1] w fun e w' => e = .returned (.bool true) ∧ Qt w w' := by
  have LV := lives12_any w hE
  obtain ⟨xs, hxs⟩ : ∃ xs, Bt.normal oa = xs := ⟨_, rfl⟩
  obtain ⟨ys, hys⟩ : ∃ ys, Bt.normal ob = ys := ⟨_, rfl⟩
  obtain ⟨wh, hwh⟩ : ∃ wh, Bt.normal (oa ++ ob) = wh := ⟨_, rfl⟩
  have hwa := Bt.wt_append oa ob
  have LG := Lib.hid (show oa.length ≤ 262144 ∧ ob.length ≤ 262144 from ⟨by have := Bt.wt_len oa; omega, by have := Bt.wt_len ob; omega⟩)
  have KA := Lib.hid (show ∀ z ∈ oa, z.key.length ≤ maxLen from fun z hz => by have := Bt.wt_op hz; unfold maxLen; omega)
  have KB := Lib.hid (show ∀ z ∈ ob, z.key.length ≤ maxLen from fun z hz => by have := Bt.wt_op hz; unfold maxLen; omega)
  have LX := Bt.normal_light (show Bt.wt oa ≤ 1048576 by omega)
  have LY := Bt.normal_light (show Bt.wt ob ≤ 1048576 by omega)
  have LW := Bt.normal_light (show Bt.wt (oa ++ ob) ≤ 1048576 by omega)
  have JN := Bt.normal_join oa ob
  have JL := Bt.normal_join_length oa ob
  have NMW := Bt.normal_norm (oa ++ ob)
  rw [hxs] at LX JN JL
  rw [hys] at LY JN JL
  rw [hwh] at LW JN JL NMW
  have HX := Lib.hid LX
  have HY := Lib.hid LY
  have HW := Lib.hid LW
  have HJN := Lib.hid JN
  have HJL := Lib.hid JL
  have HNW := Lib.hid NMW
  have HLL := Lib.hid (show (Tb.ofL rows).length ≤ 1048576 from Nat.le_trans (Tb.ofL_length rows) hrn)
  have HLB := Lib.hid (show Tb.bytes (Tb.ofL rows) ≤ 1048576 from Nat.le_trans (Tb.ofL_bytes rows) hrb)
  have HRT := Lib.hid (show ∀ r ∈ rows, r.1.length ≤ 281474976710656 ∧ r.2.length ≤ 281474976710656 from fun r hr => by have := Tb.bytes_mem hr; omega)
  have SRT := Lib.hid (Tb.ofL_sorted rows)
  obtain ⟨l, hl⟩ : ∃ l, Tb.ofL rows = l := ⟨_, rfl⟩
  rw [hl] at HLL HLB SRT
  -- what stands at the end
  have HAP := Lib.hid (show Bt.apply (Bt.apply l xs) ys = Bt.apply l wh by
    rw [← hxs, ← hys, ← hwh, Bt.apply_normal SRT.out, Bt.apply_normal SRT.out, Bt.apply_normal (Bt.apply_sorted oa SRT.out), Bt.apply_append])
  have HL := Lib.hid hl
  have HRA := Lib.hid hra
  have HRB := Lib.hid hrb'
  have HRR := Lib.hid hrr
  have HRN := Lib.hid hrn
  have HBY := Lib.hid hrb
  have HXS := Lib.hid hxs
  have HYS := Lib.hid hys
  have HWH := Lib.hid hwh
  obtain ⟨i0, hi0, hz0, hz1, hz2⟩ := info_parts infoOp12
  obtain ⟨a, cap, rfl, ha⟩ := hra.val
  obtain ⟨a0, cap0, rfl, ha0⟩ := hrr.val
  obtain ⟨a1, cap1, rfl, ha1⟩ := hrb'.val
  clear hrr hra hrb' ha ha0 ha1 hrb hrn hb hE hwa LX LY LW JN JL NMW hxs hys hwh hl
  go_enter Tryd.func9, Tryd.ntmps9
  go_wp2_with fail
  refine LV.mono ?_
  rintro e w1 ⟨rfl, q1⟩
  have Q1 := Lib.hid q1
  -- all
  have NW1 := recs_news opC_len (by decide) (recs_turn HRA.out (q1.alloc (.cells #[] 29)))
  have hb1 : 0 + oa.length ≤ maxLen := by have := LG.out; unfold maxLen; omega
  have hb2 : (0 + oa.length) * 40 ≤ 140737488355328 := by have := LG.out; omega
  clear LV q1
  go_wp2_with (at_builtin; refine wpList_append_rows _ rfl _ _ 22 rfl 29 i0 (.agg #[.bool false, .string ⟨#[]⟩, .string ⟨#[]⟩]) 3 40 Tryd.underlying22 hi0 hz0 hz1 hz2 rfl (by decide) _ 0 (opsC []) rfl (op_new0 w1) _ oa.length _ (opsC oa) rfl (opsC_length oa) NW1 (opsC_one' oa) hb1 hb2 ?_)
  intro u1 x1 own1 gr1 la1
  have NG := ownG_more (W := w1) (l := []) (k := oa) (fun g e => by injection e with e; subst e; exact Nat.le_refl _) ((Qt.refl w1).alloc _) (by simp) (by rw [cellsG_append]) own1 gr1 la1
  rw [List.nil_append] at NG
  have N1 := Lib.hid NG
  have NW1 := recs_news opC_len (by decide) (recs_turn HRB.out (Qt.trans Q1.out NG.qt))
  have hb1 : oa.length + ob.length ≤ maxLen := by have := LG.out; unfold maxLen; omega
  have hb2 : (oa.length + ob.length) * 40 ≤ 140737488355328 := by have := LG.out; omega
  clear own1 gr1 la1 NG
  go_wp2_with (at_builtin; refine wpList_append_rows _ rfl _ _ 22 rfl 29 i0 (.agg #[.bool false, .string ⟨#[]⟩, .string ⟨#[]⟩]) 3 40 Tryd.underlying22 hi0 hz0 hz1 hz2 rfl (by decide) _ oa.length (opsC oa) rfl N1.out.own _ ob.length _ (opsC ob) rfl (opsC_length ob) NW1 (opsC_one' ob) hb1 hb2 ?_)
  intro u2 x2 own2 gr2 la2
  have NG := ownG_more (W := w1) (l := oa) (k := ob) N1.out.new N1.out.qt (by simp) (by rw [cellsG_append]) own2 gr2 la2
  have N2 := Lib.hid NG
  have Q2 := Lib.hid (Qt.trans Q1.out NG.qt)
  -- Normal of a
  have NW1 := recs_news opC_len (by decide) (recs_turn HRA.out (Q2.out.alloc (.cells #[] 29)))
  have hb1 : 0 + oa.length ≤ maxLen := by have := LG.out; unfold maxLen; omega
  have hb2 : (0 + oa.length) * 40 ≤ 140737488355328 := by have := LG.out; omega
  clear own2 gr2 la2 NG
  go_wp2_with (at_builtin; refine wpList_append_rows _ rfl _ _ 22 rfl 29 i0 (.agg #[.bool false, .string ⟨#[]⟩, .string ⟨#[]⟩]) 3 40 Tryd.underlying22 hi0 hz0 hz1 hz2 rfl (by decide) _ 0 (opsC []) rfl (op_new0 x2) _ oa.length _ (opsC oa) rfl (opsC_length oa) NW1 (opsC_one' oa) hb1 hb2 ?_)
  intro u3 x3 own3 gr3 la3
  have NG := ownG_more (W := x2) (l := []) (k := oa) (fun g e => by injection e with e; subst e; exact Nat.le_refl _) ((Qt.refl x2).alloc _) (by simp) (by rw [cellsG_append]) own3 gr3 la3
  rw [List.nil_append] at NG
  obtain ⟨gc, RC⟩ := opsIn_own NG.own (by have := LG.out; omega)
  have NA := normal12_any x3 RC (by have := LG.out; omega) KA.out
  rw [HXS.out] at NA
  have P3 := Lib.hid NG.qt
  clear own3 gr3 la3 NG RC hb1 hb2 NW1
  go_wp2_with fail
  refine NA.mono ?_
  rintro e w2 ⟨va, rfl, n2⟩
  have NX := Lib.hid n2
  have P4 := Lib.hid (Qt.trans P3.out n2.qt)
  have Q4 := Lib.hid (Qt.trans Q2.out P4.out)
  -- Normal of b
  have NW1 := recs_news opC_len (by decide) (recs_turn HRB.out (Q4.out.alloc (.cells #[] 29)))
  have hb1 : 0 + ob.length ≤ maxLen := by have := LG.out; unfold maxLen; omega
  have hb2 : (0 + ob.length) * 40 ≤ 140737488355328 := by have := LG.out; omega
  clear NA n2
  go_wp2_with (at_builtin; refine wpList_append_rows _ rfl _ _ 22 rfl 29 i0 (.agg #[.bool false, .string ⟨#[]⟩, .string ⟨#[]⟩]) 3 40 Tryd.underlying22 hi0 hz0 hz1 hz2 rfl (by decide) _ 0 (opsC []) rfl (op_new0 w2) _ ob.length _ (opsC ob) rfl (opsC_length ob) NW1 (opsC_one' ob) hb1 hb2 ?_)
  intro u4 x4 own4 gr4 la4
  have NG := ownG_more (W := w2) (l := []) (k := ob) (fun g e => by injection e with e; subst e; exact Nat.le_refl _) ((Qt.refl w2).alloc _) (by simp) (by rw [cellsG_append]) own4 gr4 la4
  rw [List.nil_append] at NG
  obtain ⟨gc2, RC⟩ := opsIn_own NG.own (by have := LG.out; omega)
  have NB := normal12_any x4 RC (by have := LG.out; omega) KB.out
  rw [HYS.out] at NB
  have P5 := Lib.hid NG.qt
  clear own4 gr4 la4 NG RC hb1 hb2 NW1
  go_wp2_with fail
  refine NB.mono ?_
  rintro e w3 ⟨vb, rfl, n3⟩
  have NY := Lib.hid n3
  have P6 := Lib.hid (Qt.trans P5.out n3.qt)
  have P7 := Lib.hid (Qt.trans P4.out P6.out)
  obtain ⟨gal, ral⟩ := opsIn_own (ownsRow_kept N2.out.own P7.out (fun _ _ e => e)) (by have := LG.out; simp; omega)
  have NWA := normal12_any w3 ral (by have := LG.out; simp; omega) (fun z hz => by
    rcases List.mem_append.1 hz with h | h
    · exact KA.out z h
    · exact KB.out z h)
  rw [HWH.out] at NWA
  clear NB n3 ral
  go_wp2_with fail
  refine NWA.mono ?_
  rintro e w4 ⟨vw, rfl, n4⟩
  have NW := Lib.hid n4
  have Q7 := Lib.hid (Qt.trans (Qt.trans Q2.out P7.out) n4.qt)
  have Q74 := Lib.hid n4.qt
  obtain ⟨aw, cw, rfl⟩ := ownG_shape n4.own
  obtain ⟨ax, cx, rfl⟩ := ownG_shape NX.out.own
  obtain ⟨ay, cy, rfl⟩ := ownG_shape NY.out.own
  have PX := Lib.hid (Qt.trans P6.out Q74.out)
  obtain ⟨gx, rx⟩ := opsIn_own (ownsRow_kept NX.out.own PX.out (fun _ _ e => e)) (by have := HX.out.1; omega)
  obtain ⟨gy, ry⟩ := opsIn_own (ownsRow_kept NY.out.own Q74.out (fun _ _ e => e)) (by have := HY.out.1; omega)
  have RX := Lib.hid rx
  have RY := Lib.hid ry
  have NW1 := recs_news opC_len (by decide) (recs_turn rx ((Qt.refl w4).alloc (.cells #[] 29)))
  have hb1 : 0 + xs.length ≤ maxLen := by have := HX.out.1; unfold maxLen; omega
  have hb2 : (0 + xs.length) * 40 ≤ 140737488355328 := by have := HX.out.1; omega
  clear NWA n4 rx ry
  go_wp2_with (at_builtin; refine wpList_append_rows _ rfl _ _ 22 rfl 29 i0 (.agg #[.bool false, .string ⟨#[]⟩, .string ⟨#[]⟩]) 3 40 Tryd.underlying22 hi0 hz0 hz1 hz2 rfl (by decide) _ 0 (opsC []) rfl (op_new0 w4) _ xs.length _ (opsC xs) rfl (opsC_length xs) NW1 (opsC_one' xs) hb1 hb2 ?_)
  intro u5 x5 own5 gr5 la5
  have NG := ownG_more (W := w4) (l := []) (k := xs) (fun g e => by injection e with e; subst e; exact Nat.le_refl _) ((Qt.refl w4).alloc _) (by simp) (by rw [cellsG_append]) own5 gr5 la5
  rw [List.nil_append] at NG
  have N5 := Lib.hid NG
  have NW1 := recs_news opC_len (by decide) (recs_turn RY.out NG.qt)
  have hb1 : xs.length + ys.length ≤ maxLen := by have := HX.out.1; have := HY.out.1; unfold maxLen; omega
  have hb2 : (xs.length + ys.length) * 40 ≤ 140737488355328 := by have := HX.out.1; have := HY.out.1; omega
  clear own5 gr5 la5 NG
  go_wp2_with (at_builtin; refine wpList_append_rows _ rfl _ _ 22 rfl 29 i0 (.agg #[.bool false, .string ⟨#[]⟩, .string ⟨#[]⟩]) 3 40 Tryd.underlying22 hi0 hz0 hz1 hz2 rfl (by decide) _ xs.length (opsC xs) rfl N5.out.own _ ys.length _ (opsC ys) rfl (opsC_length ys) NW1 (opsC_one' ys) hb1 hb2 ?_)
  intro u6 x6 own6 gr6 la6
  have NG := ownG_more (W := w4) (l := xs) (k := ys) N5.out.new N5.out.qt (by simp) (by rw [cellsG_append]) own6 gr6 la6
  have P8 := Lib.hid NG.qt
  obtain ⟨gxy, rxy⟩ := opsIn_own NG.own (by have := HX.out.1; have := HY.out.1; simp; omega)
  have NZ := normal12_any x6 rxy (by have := HX.out.1; have := HY.out.1; simp; omega) (fun z hz => by
    rcases List.mem_append.1 hz with h | h
    · have := (HX.out.2 z h).1; unfold maxLen; omega
    · have := (HY.out.2 z h).1; unfold maxLen; omega)
  rw [← HJN.out] at NZ
  clear own6 gr6 la6 NG rxy hb1 hb2 NW1
  go_wp2_with fail
  refine NZ.mono ?_
  rintro e w5 ⟨vz, rfl, n5⟩
  have P9 := Lib.hid (Qt.trans P8.out n5.qt)
  obtain ⟨gz, rz⟩ := opsIn_own n5.own (by have := HW.out.1; omega)
  obtain ⟨gw, rw5⟩ := opsIn_own (ownsRow_kept NW.out.own P9.out (fun _ _ e => e)) (by have := HW.out.1; omega)
  have S1 := sameO_yes rw5 rz
  have jl1 : wh.length ≤ xs.length + ys.length := HJL.out
  have jl2 : (wh.length : Int) ≤ (xs.length : Int) + (ys.length : Int) := by omega
  have jl3 : xs.length ≤ 262144 := HX.out.1
  have jl4 : ys.length ≤ 262144 := HY.out.1
  have jl5 : decide ((xs.length : Int) + (ys.length : Int) < (wh.length : Int)) = false := decide_eq_false (by omega)
  have jl6 : decide (xs.length + ys.length < wh.length) = false := decide_eq_false (by omega)
  clear NZ n5 rz rw5
  go_wp2_with fail
  refine S1.mono ?_
  rintro e w6 ⟨rfl, q6⟩
  have P10 := Lib.hid (Qt.trans P9.out q6)
  have Q10 := Lib.hid (Qt.trans Q7.out P10.out)
  have M1 := made12_any w6 (recs_turn HRR.out Q10.out) (by have := HBY.out; omega) HRT.out HRN.out
  rw [HL.out] at M1
  clear S1 q6
  go_wp2_with fail
  refine M1.mono ?_
  rintro e w7 ⟨b1, A1, rfl, t1, n1, q7⟩
  have Q11 := Lib.hid (Qt.trans Q10.out q7)
  have P11 := Lib.hid (Qt.trans P10.out q7)
  have T1 := Lib.hid t1
  have N1' := Lib.hid (fun k (h : A1 k) => (show w6.heap.size ≤ k ∧ k < w7.heap.size from ⟨n1 k h, t1.lt k h⟩))
  have M2 := made12_any w7 (recs_turn HRR.out Q11.out) (by have := HBY.out; omega) HRT.out HRN.out
  rw [HL.out] at M2
  clear M1 t1 n1 q7 jl1 jl2 jl3 jl4 jl5 jl6
  go_wp2_with fail
  refine M2.mono ?_
  rintro e w8 ⟨b2, A2, rfl, t2, n2, q8⟩
  have Q12 := Lib.hid (Qt.trans Q11.out q8)
  have P12 := Lib.hid (Qt.trans P11.out q8)
  have T1b := Lib.hid (T1.out.qt q8)
  have T2 := Lib.hid t2
  have N2' := Lib.hid (fun k (h : A2 k) => (show w7.heap.size ≤ k ∧ k < w8.heap.size from ⟨n2 k h, t2.lt k h⟩))
  have B1 := Lib.hid (N1'.out b1 T1.out.own)
  have B2 := Lib.hid (N2'.out b2 T2.out.own)
  obtain ⟨gw4, rw4⟩ := opsIn_own NW.out.own (by have := HW.out.1; omega)
  have RW := Lib.hid rw4
  have Z4 := Lib.hid (show w4.heap.size ≤ w6.heap.size ∧ w.heap.size ≤ w4.heap.size from ⟨P10.out.size, Q7.out.size⟩)
  have GX := Lib.hid (fun hne : xs ≠ [] => (show gx < w6.heap.size from by have := recs_lt (by decide) opC_len RX.out hne; have := Z4.out; omega))
  have GY := Lib.hid (fun hne : ys ≠ [] => (show gy < w6.heap.size from by have := recs_lt (by decide) opC_len RY.out hne; have := Z4.out; omega))
  have GW := Lib.hid (fun hne : wh ≠ [] => (show gw4 < w6.heap.size from by have := recs_lt (by decide) opC_len RW.out hne; have := Z4.out; omega))
  have AP := apply12_do w8 T1b.out (recs_turn RX.out P12.out) (fun hne e => by have := GX.out hne; have := B1.out; omega) HX.out.2 (by have := HX.out.1; omega) (by have := HLL.out; omega) (by have := HLB.out; omega)
  clear M2 t2 n2 q8 rw4
  go_wp2_with fail
  refine AP.mono ?_
  rintro e w9 ⟨rfl, A3, t3, hA3, K9⟩
  have T3 := Lib.hid t3
  have KK9 := Lib.hid K9
  have HA3 := Lib.hid hA3
  have AP2 := apply12_do w9 t3 (recs_kept (recs_turn RY.out P12.out) K9 (fun hne e => by have := GY.out hne; have := B1.out; omega)) (fun hne e => by have := GY.out hne; have := B1.out; omega) HY.out.2 (by have := HY.out.1; omega) (by have := Tbl.ap_len (ops := xs) (l := l) (by have := HX.out.1; omega) HLL.out; omega) (by have := Tbl.ap_bytes (ops := xs) (l := l) HX.out.2 (by have := HX.out.1; omega) HLB.out; omega)
  rw [HAP.out] at AP2
  have T2c := Lib.hid (T2.out.kept K9 (fun j hj e => by have := N2'.out j hj; have := B1.out; omega))
  clear AP t3 hA3 K9
  go_wp2_with fail
  refine AP2.mono ?_
  rintro e w10 ⟨rfl, A4, t4, hA4, K10⟩
  have T4 := Lib.hid t4
  have KK10 := Lib.hid (show Keeps (fun k => k = b1) w8 w10 from Keeps.trans KK9.out K10 (fun _ _ e => e))
  have HA4 := Lib.hid (fun k (h : A4 k) => (show k ≠ b2 from fun e => by
    have h1 := B2.out
    have h3 := KK9.out.size
    rcases hA4 k h with h | h
    · rcases HA3.out k h with h | h
      · have := N1'.out k h; omega
      · omega
    · omega))
  have AP3 := apply12_do w10 (T2c.out.kept K10 (fun j hj e => by have := N2'.out j hj; have := B1.out; omega)) (recs_kept (recs_turn RW.out P12.out) KK10.out (fun hne e => by have := GW.out hne; have := B1.out; omega)) (fun hne e => by have := GW.out hne; have := B1.out; have := B2.out; omega) HW.out.2 (by have := HW.out.1; omega) (by have := HLL.out; omega) (by have := HLB.out; omega)
  have FLS := Lib.hid (Bt.apply_sorted wh SRT.out)
  have FLL := Lib.hid (Tbl.ap_len (ops := wh) (l := l) (by have := HW.out.1; omega) HLL.out)
  have FLG := Lib.hid (fun z (hz : z ∈ wh) => HNW.out.get SRT.out hz)
  clear AP2 t4 hA4 K10
  go_wp2_with fail
  refine AP3.mono ?_
  rintro e y0 ⟨rfl, A5, t5, hA5, K11⟩
  have T5 := Lib.hid t5
  have T4b := Lib.hid (T4.out.kept K11 (fun j hj e => HA4.out j hj e))
  have RWY := Lib.hid (recs_kept (recs_kept (recs_turn RW.out P12.out) KK10.out (fun hne e => by have := GW.out hne; have := B1.out; omega)) K11 (fun hne e => by have := GW.out hne; have := B1.out; have := B2.out; omega))
  have QY := Lib.hid (show Qt w y0 from Keeps.trans (Keeps.trans Q12.out KK10.out (fun k hk e => by have := B1.out; have := Z4.out; omega)) K11 (fun k hk e => by have := B1.out; have := B2.out; have := Z4.out; omega))
  obtain ⟨fl, hfl⟩ : ∃ fl, Bt.apply l wh = fl := ⟨_, rfl⟩
  simp only [hfl] at FLS FLL FLG T4b T5
  have START := Lib.hid (show AskAt y0 wh.length (.int .i64 0) y0 from ⟨0, Nat.zero_le _, rfl, Qt.refl _⟩)
  clear AP3 t5 hA5 K11 hfl
  go_wp2
  go_loopw [74] (fun iv wr => AskAt y0 wh.length iv wr) (fun iv _ => wh.length - (intOf iv).toNat)
  case atStart => exact START.out
  case round =>
    obtain ⟨i, hi, rfl, hQ⟩ := hrel
    have HQ := Lib.hid hQ
    clear START
    by_cases hlt : i < wh.length
    · have zlt : decide ((i : Int) < (wh.length : Int)) = true := decide_eq_true (by omega)
      have zlt' : decide (i < wh.length) = true := decide_eq_true hlt
      obtain ⟨z, c1, hop, e0⟩ := RWY.out.elem hlt
      injection e0 with e0 q1 q2
      clear q1 q2
      subst e0
      obtain ⟨y1, y2, y3⟩ := OpsIn.cell (recs_turn RWY.out hQ) hop
      rw [Nat.zero_add] at y1 y2 y3
      obtain ⟨K, hK1, hKl⟩ : ∃ K : ByteArray, strV z.key = .string K ∧ K.data.toList = z.key := ⟨⟨z.key.toArray⟩, rfl, rfl⟩
      obtain ⟨V, hV1, hVl⟩ : ∃ V : ByteArray, strV z.val = .string V ∧ V.data.toList = z.val := ⟨⟨z.val.toArray⟩, rfl, rfl⟩
      rw [hK1] at y2
      rw [hV1] at y3
      have k0 : (0 : Int) ≤ (i : Int) := by omega
      have k1 : (i : Int) < (wh.length : Int) := by omega
      have hw1 := pl_w1 (k := i) (by have := HW.out.1; omega)
      have HM := Lib.hid (pl_meas hlt)
      have HOP := Lib.hid hop
      have HKL := Lib.hid hKl
      have hzm := List.mem_of_getElem? hop
      have GT := fun o => get11_any (T5.out.qt (Qt.trans hQ ((Qt.refl wr).alloc o))) K
      have hg := FLG.out z hzm
      rw [hKl, hg] at GT
      have FN := Lib.hid (fun W (q : Qt wr W) => (show AskAt y0 wh.length (.int .i64 ((i : Int) + 1)) W from ⟨i + 1, hlt, by simp, Qt.trans hQ q⟩))
      cases hdel : z.del with
      | true =>
        have hvz := Bt.clean_iff.1 (HNW.out.clean z hzm) hdel
        rw [hdel] at y1 GT
        obtain rfl : V = ⟨#[]⟩ := by
          have h := hV1
          rw [hvz] at h
          injection h with h
          exact h.symm
        simp only [if_true] at GT
        unfold GotV at GT
        simp only [Option.getD_none, Option.isSome_none] at GT
        rw [show strV [] = .string ⟨#[]⟩ from rfl] at GT
        clear hi hQ hlt hop hK1 hKl hV1 hVl hzm hg hdel hvz
        go_wp2_with fail
        refine (GT _).mono ?_
        rintro e w' ⟨rfl, rfl⟩
        have QB0 : Qt wr (wr.alloc (.cells #[.bool true, .string K, .string ⟨#[]⟩] 29)) := (Qt.refl wr).alloc _
        have b0 : (wr.alloc (.cells #[.bool true, .string K, .string ⟨#[]⟩] 29)).heap[wr.heap.size]? = some (.cells #[.bool true, .string K, .string ⟨#[]⟩] 29 (0, 0)) := heap_alloc_new wr _
        have hRW := recs_turn RWY.out (Qt.trans HQ.out QB0)
        clear GT
        generalize hWB : World.alloc wr _ = WB at *
        obtain ⟨B5, hB5⟩ : ∃ B5, wr.heap.size = B5 := ⟨_, rfl⟩
        rw [hB5] at b0 ⊢
        have d0 : WB.cell? ⟨B5, 0, none⟩ = some (.bool true) := by rw [Lib.cell_of_heap b0]; rfl
        have d1 : WB.cell? ⟨B5, 1, none⟩ = some (.string K) := by rw [Lib.cell_of_heap b0]; rfl
        have d2 : WB.cell? ⟨B5, 2, none⟩ = some (.string ⟨#[]⟩) := by rw [Lib.cell_of_heap b0]; rfl
        have QB := Lib.hid QB0
        clear hWB hB5 b0 QB0 y1 y2 y3
        by_cases hiz : i = 0
        · subst hiz
          clear hRW
          go_wp2
          go_quiet (fail)
          go_wp2
          first | exact ⟨FN.out _ (Keeps.drewN QB.out _), HM.out⟩ | (rw [hw1]; exact ⟨FN.out _ (Keeps.drewN QB.out _), HM.out⟩)
        · obtain ⟨j, hj⟩ : ∃ j, i = j + 1 := ⟨i - 1, by omega⟩
          obtain ⟨p, c1, hop2, _⟩ := hRW.elem (k := j) (by omega)
          obtain ⟨_, z2, _⟩ := OpsIn.cell hRW hop2
          rw [Nat.zero_add] at z2
          obtain ⟨Kp, hKp, hKpl⟩ : ∃ K : ByteArray, strV p.key = .string K ∧ K.data.toList = p.key := ⟨⟨p.key.toArray⟩, rfl, rfl⟩
          rw [hKp] at z2
          have zlk := HNW.out.next hop2 (by rw [← hj]; exact HOP.out)
          have zk : Op.bytesLess K.toList Kp.toList = false := by
            rw [ByteArray.toList_eq, ByteArray.toList_eq, hKpl, HKL.out]
            exact Tb.lt_asymm zlk
          have ze : (K.toList == Kp.toList) = false := by
            rw [ByteArray.toList_eq, ByteArray.toList_eq, hKpl, HKL.out]
            exact beq_eq_false_iff_ne.2 (fun e => by rw [e] at zlk; rw [Tb.lt_irrefl] at zlk; cases zlk)
          have j0 : (0 : Int) ≤ (j : Int) := by omega
          have j1 : (j : Int) < (wh.length : Int) := by omega
          have i1 : (0 : Int) < (i : Int) := by omega
          have i2 : 0 < i := by omega
          have i3 : decide ((0 : Int) < (i : Int)) = true := decide_eq_true i1
          have hs1 : IntKind.i64.wrap ((i : Int) - 1) = (j : Int) := by rw [IntKind.wrap_i64]; have := HW.out.1; omega
          have hs2 : wrap64 ((i : Int) - 1) = (j : Int) := by unfold wrap64; have := HW.out.1; omega
          clear hRW hop2 hKp hKpl hj hiz zlk
          go_wp2
          go_quiet (fail)
          go_wp2
          first | exact ⟨FN.out _ (Keeps.drewN QB.out _), HM.out⟩ | (rw [hw1]; exact ⟨FN.out _ (Keeps.drewN QB.out _), HM.out⟩)
      | false =>
        rw [hdel] at y1 GT
        simp only [Bool.false_eq_true, if_false] at GT
        unfold GotV at GT
        simp only [Option.getD_some, Option.isSome_some] at GT
        rw [hV1] at GT
        clear hi hQ hlt hop hK1 hKl hV1 hVl hzm hg hdel
        go_wp2_with fail
        refine (GT _).mono ?_
        rintro e w' ⟨rfl, rfl⟩
        have QB0 : Qt wr (wr.alloc (.cells #[.bool false, .string K, .string V] 29)) := (Qt.refl wr).alloc _
        have b0 : (wr.alloc (.cells #[.bool false, .string K, .string V] 29)).heap[wr.heap.size]? = some (.cells #[.bool false, .string K, .string V] 29 (0, 0)) := heap_alloc_new wr _
        have hRW := recs_turn RWY.out (Qt.trans HQ.out QB0)
        clear GT
        generalize hWB : World.alloc wr _ = WB at *
        obtain ⟨B5, hB5⟩ : ∃ B5, wr.heap.size = B5 := ⟨_, rfl⟩
        rw [hB5] at b0 ⊢
        have d0 : WB.cell? ⟨B5, 0, none⟩ = some (.bool false) := by rw [Lib.cell_of_heap b0]; rfl
        have d1 : WB.cell? ⟨B5, 1, none⟩ = some (.string K) := by rw [Lib.cell_of_heap b0]; rfl
        have d2 : WB.cell? ⟨B5, 2, none⟩ = some (.string V) := by rw [Lib.cell_of_heap b0]; rfl
        have QB := Lib.hid QB0
        clear hWB hB5 b0 QB0 y1 y2 y3
        by_cases hiz : i = 0
        · subst hiz
          clear hRW
          go_wp2
          go_quiet (fail)
          go_wp2
          first | exact ⟨FN.out _ (Keeps.drewN QB.out _), HM.out⟩ | (rw [hw1]; exact ⟨FN.out _ (Keeps.drewN QB.out _), HM.out⟩)
        · obtain ⟨j, hj⟩ : ∃ j, i = j + 1 := ⟨i - 1, by omega⟩
          obtain ⟨p, c1, hop2, _⟩ := hRW.elem (k := j) (by omega)
          obtain ⟨_, z2, _⟩ := OpsIn.cell hRW hop2
          rw [Nat.zero_add] at z2
          obtain ⟨Kp, hKp, hKpl⟩ : ∃ K : ByteArray, strV p.key = .string K ∧ K.data.toList = p.key := ⟨⟨p.key.toArray⟩, rfl, rfl⟩
          rw [hKp] at z2
          have zlk := HNW.out.next hop2 (by rw [← hj]; exact HOP.out)
          have zk : Op.bytesLess K.toList Kp.toList = false := by
            rw [ByteArray.toList_eq, ByteArray.toList_eq, hKpl, HKL.out]
            exact Tb.lt_asymm zlk
          have ze : (K.toList == Kp.toList) = false := by
            rw [ByteArray.toList_eq, ByteArray.toList_eq, hKpl, HKL.out]
            exact beq_eq_false_iff_ne.2 (fun e => by rw [e] at zlk; rw [Tb.lt_irrefl] at zlk; cases zlk)
          have j0 : (0 : Int) ≤ (j : Int) := by omega
          have j1 : (j : Int) < (wh.length : Int) := by omega
          have i1 : (0 : Int) < (i : Int) := by omega
          have i2 : 0 < i := by omega
          have i3 : decide ((0 : Int) < (i : Int)) = true := decide_eq_true i1
          have hs1 : IntKind.i64.wrap ((i : Int) - 1) = (j : Int) := by rw [IntKind.wrap_i64]; have := HW.out.1; omega
          have hs2 : wrap64 ((i : Int) - 1) = (j : Int) := by unfold wrap64; have := HW.out.1; omega
          clear hRW hop2 hKp hKpl hj hiz zlk
          go_wp2
          go_quiet (fail)
          go_wp2
          first | exact ⟨FN.out _ (Keeps.drewN QB.out _), HM.out⟩ | (rw [hw1]; exact ⟨FN.out _ (Keeps.drewN QB.out _), HM.out⟩)
    · obtain rfl : i = wh.length := by omega
      have zlt : decide ((wh.length : Int) < (wh.length : Int)) = false := decide_eq_false (by omega)
      have zlt' : decide (wh.length < wh.length) = false := decide_eq_false (by omega)
      have R1 := rows12_any (T4b.out.qt hQ)
      clear hi hQ hlt
      go_wp2_with fail
      refine R1.mono ?_
      rintro e w11 ⟨vx, rfl, n11⟩
      have Q11' := Lib.hid (Qt.trans HQ.out n11.qt)
      have NR := Lib.hid n11
      have R2 := rows12_any (T5.out.qt Q11'.out)
      clear R1 n11
      go_wp2_with fail
      refine R2.mono ?_
      rintro e w12 ⟨vy, rfl, n12⟩
      have Q12' := Lib.hid (Qt.trans Q11'.out n12.qt)
      obtain ⟨gxx, rxx⟩ := (NR.out.quiet n12.qt).rows (by have := FLL.out; omega)
      obtain ⟨gyy, ryy⟩ := n12.rows (by have := FLL.out; omega)
      have S2 := sameR12_yes rxx ryy
      clear R2 n12 rxx ryy
      go_wp2_with fail
      refine S2.mono ?_
      rintro e w13 ⟨rfl, q13⟩
      have Q13 := Lib.hid (Qt.trans Q12'.out q13)
      have BT := between12_any w13 (T4b.out.qt Q13.out) (T5.out.qt Q13.out) (by have := FLL.out; omega)
      rw [Bt.between_self FLS.out] at BT
      clear S2 q13
      go_wp2_with fail
      refine BT.mono ?_
      rintro e w14 ⟨vz, rfl, n14⟩
      have FIN := Lib.hid (Qt.trans QY.out (Qt.trans Q13.out n14.qt))
      obtain ⟨za, zc, rfl⟩ := ownG_shape n14.own
      clear BT n14
      go_wp2
      go_ret
      exact ⟨rfl, FIN.out⟩
end Go.Proofs.YtffjleceogablaaDoor
