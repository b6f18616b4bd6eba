/-
  Joined: OCi, TSeqR, OSt, OAdd.
-/
import Derived.Test.YthjjfjhajadimaaGreatDoorP35
namespace Go.Proofs.YthjjfjhajadimaaGreatDoor
open Go.RowKit Go.WideShapes
set_option maxRecDepth 100000
def ContP (r : Option (List Tb.R)) (w : World) (e : Ending) (w' : World) : Prop := match r with
 | some l => ∃ t A, e = .returned (contV t (So.rowsB l).length) /\ Tbl w' t l A /\ (∀ k, A k -> w.heap.size <= k) /\ w.heap.size <= t /\ Qt w w'
 | none => e = .panicked [{ v := .iface 163 (.agg #[]), recovered := false }] /\ Qt w w'
theorem cont_none {r : Option (List Tb.R)} {w w' : World} (h : r = none) (q : Qt w w') : ContP r w (.panicked [{ v := .iface 163 (.agg #[]), recovered := false }]) w' := by subst h; exact ⟨rfl, q⟩
theorem cont_some {r : Option (List Tb.R)} {l : List Tb.R} {A : Nat -> Prop} {t k : Nat} {w w' : World} (h : r = some l) (hk : (So.rowsB l).length = k) (hT : Tbl w' t l A) (hA : ∀ j, A j -> w.heap.size <= j) (ht : w.heap.size <= t) (q : Qt w w') : ContP r w (.returned (.agg #[ptrV t, .int .i64 (k : Int)])) w' := by
 subst h
 subst hk
 exact ⟨t, A, rfl, hT, hA, ht, q⟩
theorem small_rows {us : List Tb.R} (h : (So.rowsB us).length <= 8388608) : Bt.Small (us.map So.mkO) := by
 refine ⟨by rw [List.length_map]; have := So.rowsB_len us; omega, fun o ho => ?_⟩
 obtain ⟨r, hr, rfl⟩ := List.mem_map.1 ho
 have h1 := So.row_rowsB hr
 have h2 := So.rowB_length r
 have e1 : (So.mkO r).key = r.1 := rfl
 have e2 : (So.mkO r).val = r.2 := rfl
 rw [e1, e2]
 omega
def CiAt (w : World) (b B : Nat) (s : ByteArray) (x n : Nat) (ov iv : Value) (wr : World) : Prop :=
 ∃ (k d : Nat) (us : List Tb.R) (ol : List Bt.O) (fst : Bool) (before : Tb.Txt), k <= x /\ iv = .int .u64 (k : Int) /\ us.length = k /\ k <= d /\ ol = us.map So.mkO /\ NewO w wr ov ol /\ ov.ownBlock ≠ some b /\ ov.ownBlock ≠ some B /\ Rd b s (n + d) wr /\ Bk wr B 132 [.pointer none, .int .i64 0] /\ (k = 0 -> fst = true) /\ (∀ j, k = j + 1 -> fst = false /\ ∃ r, us[j]? = some r /\ r.1 = before) /\
  So.ontoR us d (So.rowsD s.data.toList.length (x - k) fst before (rest s (n + d))) = So.rowsD s.data.toList.length x true [] (rest s n)
set_option maxHeartbeats 6400000 in
theorem contentIn13_any (ad : Nat -> Addr) (s : ByteArray) (w : World) (hs : s.size <= 8388608) (hE : Errs ad w) :
  Calls Tryz.prog 146 #[.string s] w (ContP (So.snapD s.data.toList) w) := by
 obtain ⟨W0, hW0, q0, bB, hz0⟩ := box_own w 132 #[.pointer none, .int .i64 0]
 have RR := rread_any s W0 (by omega)
 obtain ⟨i0, hi0, hz0', hz1, hz2⟩ := info_parts infoOp12
 have HE := Lib.hid hE
 have HS := Lib.hid hs
 obtain ⟨B, hB⟩ : ∃ B, w.heap.size = B := ⟨_, rfl⟩
 obtain ⟨b, hb⟩ : ∃ b, W0.heap.size = b := ⟨_, rfl⟩
 have HB := Lib.hid (show w.heap.size = B from hB)
 have HBb := Lib.hid (show b = B + 1 by omega)
 have HO := Lib.hid (offErrs_new hE (show w.heap.size <= b by omega))
 have Q0 := Lib.hid q0
 rw [hB] at bB
 have BB := Lib.hid bB
 rw [hb] at RR
 clear hE hs hb q0 bB hz0
 go_enter Tryz.func146, Tryz.ntmps146
 go_wp2_with fail
 refine RR.mono ?_
 rintro e w1 ⟨rfl, h1, q1⟩
 have Q1 := Lib.hid (Qt.trans Q0.out q1)
 have R1 := Lib.hid h1
 have BB1 := Lib.hid (BB.out.qt q1)
 have E1 := Lib.hid (HE.out.kept Q1.out (OffErrs.none ad))
 have MVQ := Lib.hid (fun (W W' : World) (p : Nat) (q : Qt w W) (m : Moved b s p W W') => (show Qt w W' from moved_qt q m (by have := HB.out; have := HBb.out; omega)))
 have NEb := Lib.hid (show B ≠ b by have := HBb.out; omega)
 clear RR h1 q1
 cases hD : varintD (rest s 0) with
 | inl er =>
  have UI := ruint_err ad b s 0 er w1 R1.out E1.out hD
  have FD := Lib.hid (show So.snapD s.data.toList = none from by
   unfold So.snapD
   rw [show varintD s.data.toList = .inl er from hD])
  clear hD
  go_wp2_with fail
  refine UI.mono ?_
  rintro e w2 ⟨rfl, m2⟩
  have Q2 := Lib.hid (MVQ.out _ _ _ Q1.out m2)
  have MN := mustU_no (.int .u64 0) 335 (.pointer (some (ad er))) w2
  unfold brokenE at MN
  clear UI m2
  go_wp2_with fail
  refine MN.mono ?_
  rintro e w9 ⟨rfl, rfl⟩
  have FIN := Lib.hid (cont_none FD.out Q2.out)
  clear MN
  go_wp2
  exact ⟨rfl, FIN.out⟩
 | inr xn =>
  obtain ⟨x, n⟩ := xn
  have UI := ruint_ok ad b s 0 x n w1 R1.out E1.out hD
  obtain ⟨hx64, hn0, hn10⟩ := varintD_len (Nat.zero_le _) hD
  rw [Nat.zero_add] at UI hn0
  have HD := Lib.hid (show varintD s.data.toList = .inr (x, n) from hD)
  have HX := Lib.hid hx64
  clear hD hx64
  go_wp2_with fail
  refine UI.mono ?_
  rintro e w2 ⟨rfl, m2⟩
  have Q2 := Lib.hid (MVQ.out _ _ _ Q1.out m2)
  have START := Lib.hid (show CiAt w b B s x n (.slice none 0 0) (.int .u64 0) w2 from
   ⟨0, 0, [], [], true, [], Nat.zero_le _, rfl, rfl, Nat.le_refl _, rfl, ⟨⟨rfl, .inl ⟨rfl, rfl⟩⟩, fun g e => (by cases e), Q2.out⟩, (by intro e; cases e), (by intro e; cases e), m2.rd, BB1.out.kept m2.keeps NEb.out, fun _ => rfl, fun j e => by omega, by rw [So.ontoR_nil]; rfl⟩)
  have MO := mustU_ok (.int .u64 (x : Int)) w2
  clear UI m2
  go_wp2_with fail
  refine MO.mono ?_
  rintro e w3 ⟨rfl, rfl⟩
  clear MO
  go_wp2
  go_loopw [4, 15] (fun ov iv wr => CiAt w b B s x n ov iv wr) (fun _ iv _ => x - (intOf iv).toNat)
  case atStart => exact START.out
  case round =>
   obtain ⟨k, d, us, ol, fst, before, hk, rfl, hus, hkd, hol, N, hnb, hnB, R, bk, hf0, hfS, hon⟩ := hrel
   have HN := Lib.hid N
   have HNB := Lib.hid hnb
   have HNB2 := Lib.hid hnB
   have HR := Lib.hid R
   have HBK := Lib.hid bk
   have HON := Lib.hid hon
   have HUS := Lib.hid hus
   have HKD := Lib.hid hkd
   have HOL := Lib.hid hol
   have HF0 := Lib.hid hf0
   have HFS := Lib.hid hfS
   have HQ := Lib.hid N.qt
   have ER := Lib.hid (HE.out.kept N.qt (OffErrs.none ad))
   have HDS := Lib.hid (show d <= s.size from by have := R.le; omega)
   have HLO := Lib.hid (show ol.length = k by rw [hol, List.length_map, hus])
   obtain ⟨oa, oc, rfl⟩ := ownG_shape N.own
   clear START N hnb hnB R bk hon hf0 hfS hol
   by_cases hlt : k < x
   ·have zlt : decide ((k : Int) < (x : Int)) = true := decide_eq_true (by omega)
    have zlt' : decide (k < x) = true := decide_eq_true hlt
    have hw1 : IntKind.u64.wrap ((k : Int) + 1) = (k : Int) + 1 := by have := HX.out; rw [IntKind.wrap_u64]; omega
    have HM := Lib.hid (show x - (intOf (.int .u64 ((k : Int) + 1))).toNat < x - (intOf (.int .u64 (k : Int))).toNat by simp [intOf]; omega)
    have HLT := Lib.hid hlt
    have HXK := Lib.hid (show x - k = (x - (k + 1)) + 1 by omega)
    have NOR := Lib.hid (fun (h : So.rowD s.data.toList.length fst before (rest s (n + d)) = none) => (show So.snapD s.data.toList = none from So.snap_no HD.out (by
     have h1 := HON.out
     rw [HXK.out, So.ontoR_no h] at h1
     exact h1.symm)))
    clear hlt hk hus hkd
    cases hk1 : textD (s.size : Int) (rest s (n + d)) with
    | inl e1 =>
     have T1 := rtext_err ad b s (n + d) e1 (s.size : Int) wr HR.out ER.out HO.out (by have := HS.out; omega) hk1
     have FD := Lib.hid (NOR.out (So.row_none1 hk1))
     clear hk1
     go_wp2_with fail
     refine T1.mono ?_
     rintro e w4 ⟨rfl, m4⟩
     have Q4 := Lib.hid (MVQ.out _ _ _ HQ.out m4)
     have MN := mustS_no (.string ⟨#[]⟩) 335 (.pointer (some (ad e1))) w4
     unfold brokenE at MN
     clear T1 m4
     go_wp2_with fail
     refine MN.mono ?_
     rintro e w9 ⟨rfl, rfl⟩
     have FIN := Lib.hid (cont_none FD.out Q4.out)
     clear MN
     go_wp2
     exact ⟨rfl, FIN.out⟩
    | inr km =>
     obtain ⟨kk, m1⟩ := km
     have T1 := rtext_ok ad b s (n + d) m1 kk (s.size : Int) wr HR.out ER.out (by have := HS.out; omega) hk1
     have TL1 := Lib.hid (textD_len HR.out.le hk1)
     have HK1 := Lib.hid hk1
     obtain ⟨K, hK⟩ : ∃ K : ByteArray, (⟨kk.toArray⟩ : ByteArray) = K := ⟨_, rfl⟩
     rw [hK] at T1
     have HKK := Lib.hid hK
     clear hk1 hK
     go_wp2_with fail
     refine T1.mono ?_
     rintro e w4 ⟨rfl, m4⟩
     have Q4 := Lib.hid (MVQ.out _ _ _ HQ.out m4)
     have R4 := Lib.hid m4.rd
     have E4 := Lib.hid (HE.out.kept Q4.out (OffErrs.none ad))
     have BK4 := Lib.hid (HBK.out.kept m4.keeps NEb.out)
     have OWN4 := Lib.hid (show w4.ownsRow 0 87 3 (.slice oa ol.length oc) ol.length (opsC ol) from ownsRow_kept HN.out.own m4.keeps (fun z e1 e2 => HNB.out (by rw [e1, e2])))
     have MO := mustS_ok (.string K) w4
     clear T1 m4
     go_wp2_with fail
     refine MO.mono ?_
     rintro e w5 ⟨rfl, rfl⟩
     clear MO
     have DR := Lib.hid (show (rest s (n + d)).drop m1 = rest s (n + d + m1) from rest_drop _ _ _)
     cases hk2 : textD (s.size : Int) (rest s (n + d + m1)) with
     | inl e2 =>
      have T2 := rtext_err ad b s (n + d + m1) e2 (s.size : Int) w5 R4.out E4.out HO.out (by have := HS.out; omega) hk2
      have FD := Lib.hid (NOR.out (So.row_none2 HK1.out (by rw [DR.out]; exact hk2)))
      clear hk2
      go_wp2_with fail
      refine T2.mono ?_
      rintro e w6 ⟨rfl, m6⟩
      have Q6 := Lib.hid (MVQ.out _ _ _ Q4.out m6)
      have MN := mustS_no (.string ⟨#[]⟩) 335 (.pointer (some (ad e2))) w6
      unfold brokenE at MN
      clear T2 m6
      go_wp2_with fail
      refine MN.mono ?_
      rintro e w9 ⟨rfl, rfl⟩
      have FIN := Lib.hid (cont_none FD.out Q6.out)
      clear MN
      go_wp2
      exact ⟨rfl, FIN.out⟩
     | inr vm =>
      obtain ⟨vv, m2⟩ := vm
      have T2 := rtext_ok ad b s (n + d + m1) m2 vv (s.size : Int) w5 R4.out E4.out (by have := HS.out; omega) hk2
      have TL2 := Lib.hid (textD_len R4.out.le hk2)
      have HK2 := Lib.hid hk2
      obtain ⟨V, hV⟩ : ∃ V : ByteArray, (⟨vv.toArray⟩ : ByteArray) = V := ⟨_, rfl⟩
      rw [hV] at T2
      have HVV := Lib.hid hV
      clear hk2 hV
      go_wp2_with fail
      refine T2.mono ?_
      rintro e w6 ⟨rfl, m6⟩
      have Q6 := Lib.hid (MVQ.out _ _ _ Q4.out m6)
      have R6 := Lib.hid m6.rd
      have BK6 := Lib.hid (BK4.out.kept m6.keeps NEb.out)
      have OWN6 := Lib.hid (show w6.ownsRow 0 87 3 (.slice oa ol.length oc) ol.length (opsC ol) from ownsRow_kept OWN4.out m6.keeps (fun z e1 e2 => HNB.out (by rw [e1, e2])))
      have MO := mustS_ok (.string V) w6
      clear T2 m6
      go_wp2_with fail
      refine MO.mono ?_
      rintro e w7 ⟨rfl, rfl⟩
      clear MO
      -- what comes behind 'need'
      have OW := Lib.hid (fun o1 => (show (w7.alloc o1).ownsRow 0 87 3 (.slice oa ol.length oc) ol.length (opsC ol) from ownsRow_kept OWN6.out ((Keeps.refl (fun _ => False) w7).alloc o1) (fun _ _ e => e)))
      have HCV := Lib.hid (show opC (So.mkO (kk, vv)) = [.bool false, .string K, .string V] by unfold opC So.mkO; show [Value.bool false, .string ⟨kk.toArray⟩, .string ⟨vv.toArray⟩] = _; rw [HKK.out, HVV.out])
      have AFT := Lib.hid (fun (hrow : So.rowD s.data.toList.length fst before (rest s (n + d)) = some ((kk, vv), m1 + m2)) (v5 : Value) (w8 : World) (hN : NewO w w8 v5 (ol ++ [So.mkO (kk, vv)])) (hb5 : v5.ownBlock ≠ some b) (hB5 : v5.ownBlock ≠ some B) (hR : Rd b s (n + d + m1 + m2) w8) (hBK : Bk w8 B 132 [.pointer none, .int .i64 0]) => (show CiAt w b B s x n v5 (.int .u64 ((k : Int) + 1)) w8 from
       ⟨k + 1, d + (m1 + m2), us ++ [(kk, vv)], ol ++ [So.mkO (kk, vv)], false, kk, HLT.out, by simp, by rw [List.length_append, List.length_singleton, HUS.out], by have := HKD.out; have := TL1.out.2.1; omega, by rw [HOL.out]; simp, hN, hb5, hB5, by rw [show n + (d + (m1 + m2)) = n + d + m1 + m2 by omega]; exact hR, hBK, fun e => by omega, fun j e => by
        obtain rfl : k = j := by omega
        exact ⟨rfl, (kk, vv), by rw [List.getElem?_append_right (by rw [HUS.out]; exact Nat.le_refl _), HUS.out, Nat.sub_self]; rfl, rfl⟩, by
        have h1 := HON.out
        rw [HXK.out, So.ontoR_ok hrow, rest_drop] at h1
        rw [show n + (d + (m1 + m2)) = n + d + (m1 + m2) by omega]
        exact h1⟩))
      have hb1 : ol.length + 1 <= maxLen := by have := HS.out; have := HDS.out; have := HLO.out; have := HKD.out; unfold maxLen; omega
      have hb2 : (ol.length + 1) * 40 <= 140737488355328 := by have := HS.out; have := HDS.out; have := HLO.out; have := HKD.out; omega
      rcases Nat.eq_zero_or_pos k with hk0 | hkp
      ·have ROW := Lib.hid (show So.rowD s.data.toList.length fst before (rest s (n + d)) = some ((kk, vv), m1 + m2) from So.row_some HK1.out (by rw [DR.out]; exact HK2.out) (.inl (HF0.out hk0)))
       have y0 : ((k : Int) == 0) = true := beq_iff_eq.2 (by omega)
       have y0' : (k == 0) = true := beq_iff_eq.2 hk0
       have NN := need_ok w7
       clear hk0
       go_wp2_with fail
       refine NN.mono ?_
       rintro e w8 ⟨rfl, rfl⟩
       clear NN
       go_wp2_with (at_builtin; refine wpList_append_rows _ rfl _ _ 38 rfl 87 i0 (.agg #[.bool false, .string ⟨#[]⟩, .string ⟨#[]⟩]) 3 40 Tryz.underlying38 hi0 hz0' hz1 hz2 rfl (by decide) _ ol.length (opsC ol) rfl (OW.out _) (some ⟨w8.heap.size, 0, none⟩) 1 1 [.bool false, .string K, .string V] rfl rfl (fun _ => ⟨_, rfl, fun j u h => newsG w8 [.bool false, .string K, .string V] 87 j u h⟩) (by intro y hy; simp at hy; rcases hy with rfl | rfl | rfl <;> rfl) hb1 hb2 ?_)
       intro v5 w10 own5 gr5 la5
       have N5 := Lib.hid (ownG_more (f := opC) (W := w) (l := ol) (k := [So.mkO (kk, vv)]) HN.out.new (Q6.out.alloc _) (by simp) (by rw [cellsG_append, cellsG_one, HCV.out]) own5 gr5 la5)
       have KG := Lib.hid (show Keeps (fun z => (Value.slice oa ol.length oc).ownBlock = some z) (w8.alloc (.cells #[.bool false, .string K, .string V] 87)) w10 from Keeps.grown (S := fun z => (Value.slice oa ol.length oc).ownBlock = some z) (Keeps.refl _ _) gr5 (fun z _ e => e.symm))
       have FIN := Lib.hid (AFT.out ROW.out v5 w10 N5.out
        (fun e => by
         rcases la5 with e2 | ⟨z, e2, hz⟩
         ·exact HNB.out (e2 ▸ e)
         ·rw [e2] at e; have e3 := Option.some.inj e; have := R6.out.lt; simp at hz; omega)
        (fun e => by
         rcases la5 with e2 | ⟨z, e2, hz⟩
         ·exact HNB2.out (e2 ▸ e)
         ·rw [e2] at e; have e3 := Option.some.inj e; have := BK6.out.lt; simp at hz; omega)
        ((R6.out.alloc _).kept KG.out HNB.out) ((BK6.out.alloc _).kept KG.out HNB2.out))
       clear own5 gr5 la5
       obtain ⟨a5, c5, rfl⟩ := ownG_shape N5.out.own
       go_wp2
       exact ⟨FIN.out, HM.out⟩
      ·obtain ⟨j, hj⟩ : ∃ j, k = j + 1 := ⟨k - 1, by omega⟩
       obtain ⟨hfst, r, hr, hbf⟩ := HFS.out j hj
       obtain ⟨g, hin, hg⟩ := ownG_in opC_len OWN6.out (by have := HLO.out; have := HKD.out; have := HDS.out; have := HS.out; omega)
       obtain ⟨op, c1, hop, e0⟩ := hin.elem (k := j) (by have := HLO.out; omega)
       injection e0 with e0 z1 z2
       clear z1 z2
       subst e0
       obtain ⟨x1, x2, x3⟩ := OpsIn.cell hin hop
       have hkey : op.key = before := by
        rw [HOL.out, List.getElem?_map, hr] at hop
        have e1 := Option.some.inj hop
        rw [<- e1, <- hbf]
        rfl
       obtain ⟨KB, hKB, hKBl⟩ : ∃ KB : ByteArray, strV op.key = .string KB /\ KB.data.toList = before := ⟨⟨op.key.toArray⟩, rfl, by rw [<- hkey]⟩
       rw [hKB, Nat.zero_add] at x2
       have y0 : ((k : Int) == 0) = false := beq_eq_false_iff_ne.2 (by omega)
       have y0' : (k == 0) = false := beq_eq_false_iff_ne.2 (by omega)
       have hw0 : IntKind.u64.wrap ((k : Int) - 1) = (j : Int) := by have := HX.out; have := HLT.out; rw [IntKind.wrap_u64]; omega
       have k0' : (0 : Int) <= (j : Int) := by omega
       have k1' : (j : Int) < (ol.length : Int) := by have := HLO.out; omega
       have k2' : j < ol.length := by have := HLO.out; omega
       have HKL := Lib.hid (show K.data.toList = kk from by rw [<- HKK.out])
       subst hfst
       clear x1 x3 hin hg hop hkey hr hbf hj hkp hKB HF0 HFS
       cases hlt : Tb.lt before kk with
       | true =>
        have ROW := Lib.hid (show So.rowD s.data.toList.length false before (rest s (n + d)) = some ((kk, vv), m1 + m2) from So.row_some HK1.out (by rw [DR.out]; exact HK2.out) (.inr hlt))
        have zk : Op.bytesLess KB.toList K.toList = true := by rw [ByteArray.toList_eq, ByteArray.toList_eq, hKBl, HKL.out]; exact hlt
        have NN := need_ok w7
        clear hlt hKBl
        go_wp2_with fail
        refine NN.mono ?_
        rintro e w8 ⟨rfl, rfl⟩
        clear NN
        go_wp2_with (at_builtin; refine wpList_append_rows _ rfl _ _ 38 rfl 87 i0 (.agg #[.bool false, .string ⟨#[]⟩, .string ⟨#[]⟩]) 3 40 Tryz.underlying38 hi0 hz0' hz1 hz2 rfl (by decide) _ ol.length (opsC ol) rfl (OW.out _) (some ⟨w8.heap.size, 0, none⟩) 1 1 [.bool false, .string K, .string V] rfl rfl (fun _ => ⟨_, rfl, fun j u h => newsG w8 [.bool false, .string K, .string V] 87 j u h⟩) (by intro y hy; simp at hy; rcases hy with rfl | rfl | rfl <;> rfl) hb1 hb2 ?_)
        intro v5 w10 own5 gr5 la5
        have N5 := Lib.hid (ownG_more (f := opC) (W := w) (l := ol) (k := [So.mkO (kk, vv)]) HN.out.new (Q6.out.alloc _) (by simp) (by rw [cellsG_append, cellsG_one, HCV.out]) own5 gr5 la5)
        have KG := Lib.hid (show Keeps (fun z => (Value.slice (some ⟨g, 0, none⟩) ol.length oc).ownBlock = some z) (w8.alloc (.cells #[.bool false, .string K, .string V] 87)) w10 from Keeps.grown (S := fun z => (Value.slice (some ⟨g, 0, none⟩) ol.length oc).ownBlock = some z) (Keeps.refl _ _) gr5 (fun z _ e => e.symm))
        have FIN := Lib.hid (AFT.out ROW.out v5 w10 N5.out
         (fun e => by
          rcases la5 with e2 | ⟨z, e2, hz⟩
          ·exact HNB.out (e2 ▸ e)
          ·rw [e2] at e; have e3 := Option.some.inj e; have := R6.out.lt; simp at hz; omega)
         (fun e => by
          rcases la5 with e2 | ⟨z, e2, hz⟩
          ·exact HNB2.out (e2 ▸ e)
          ·rw [e2] at e; have e3 := Option.some.inj e; have := BK6.out.lt; simp at hz; omega)
         ((R6.out.alloc _).kept KG.out HNB.out) ((BK6.out.alloc _).kept KG.out HNB2.out))
        clear own5 gr5 la5
        obtain ⟨a5, c5, rfl⟩ := ownG_shape N5.out.own
        go_wp2
        exact ⟨FIN.out, HM.out⟩
       | false =>
        have FD := Lib.hid (NOR.out (So.row_none3 HK1.out hlt))
        have zk : Op.bytesLess KB.toList K.toList = false := by rw [ByteArray.toList_eq, ByteArray.toList_eq, hKBl, HKL.out]; exact hlt
        have NN := need_no w7
        unfold brokenE at NN
        clear hlt hKBl
        go_wp2_with fail
        refine NN.mono ?_
        rintro e w8 ⟨rfl, rfl⟩
        have FIN := Lib.hid (cont_none FD.out Q6.out)
        clear NN
        go_wp2
        exact ⟨rfl, FIN.out⟩
   ·obtain rfl : k = x := by omega
    have zlt : decide ((k : Int) < (k : Int)) = false := decide_eq_false (by omega)
    have zlt' : decide (k < k) = false := decide_eq_false (by omega)
    have DN := rdone_any ad b s (n + d) wr HR.out ER.out
    have HOS := Lib.hid (show So.rowsD s.data.toList.length k true [] (rest s n) = some (us, d) from by
     have h1 := HON.out
     rw [Nat.sub_self] at h1
     rw [<- h1]
     show some (us ++ [], d + 0) = _
     simp)
    clear hlt hk hus hkd
    by_cases ht : n + d < s.size
    ·rw [if_pos ht, errV_pos ad (by decide)] at DN
     have FD := Lib.hid (show So.snapD s.data.toList = none from So.snap_tail HD.out HOS.out (by have e : s.data.toList.length = s.size := rfl; omega))
     have NN := fun (m : Nat) => need_no (wr.drewN m)
     unfold brokenE at NN
     clear ht
     go_wp2_with fail
     refine DN.mono ?_
     rintro e w6 ⟨rfl, m, rfl⟩
     have NM := NN m
     have FIN := Lib.hid (cont_none FD.out (HQ.out.drewN m))
     clear NN DN
     go_wp2_with fail
     refine NM.mono ?_
     rintro e w7 ⟨rfl, rfl⟩
     go_wp2
     exact ⟨rfl, FIN.out⟩
    ·rw [if_neg ht, errV_zero] at DN
     obtain ⟨_, hdm, _, hsrt, _⟩ := So.rowsD_inv HOS.out
     have FD := Lib.hid (show So.snapD s.data.toList = some us from So.snap_yes HD.out HOS.out (by have e : s.data.toList.length = s.size := rfl; have := HR.out.le; omega) HKD.out)
     have NRM := Lib.hid (show Bt.Norm ol from by rw [HOL.out]; exact So.mk_norm hsrt)
     have SML := Lib.hid (show Bt.Small ol from by rw [HOL.out]; exact small_rows (by have := HS.out; have := HDS.out; omega))
     have APL := Lib.hid (show Bt.apply [] ol = us from by rw [HOL.out]; exact So.mk_apply hsrt)
     have NN := fun (m : Nat) => need_ok (wr.drewN m)
     clear ht hdm hsrt
     go_wp2_with fail
     refine DN.mono ?_
     rintro e w6 ⟨rfl, m, rfl⟩
     have NM := NN m
     have Q6 := Lib.hid (HQ.out.drewN m)
     have N6 := Lib.hid (HN.out.quiet ((Qt.refl wr).drewN m))
     have BK6 := Lib.hid (HBK.out.drewN m)
     clear NN DN
     go_wp2_with fail
     refine NM.mono ?_
     rintro e w7 ⟨rfl, rfl⟩
     have NC := noCont_any (wr.drewN m)
     unfold contV at NC
     clear NM
     go_wp2_with fail
     refine NC.mono ?_
     rintro e w8 ⟨t, rfl, T8, ht8, q8⟩
     obtain ⟨g, hin, _⟩ := ownG_in opC_len (N6.out.quiet q8).own (by have := HLO.out; have := HKD.out; have := HDS.out; have := HS.out; omega)
     have AF := after13_any w8 (after_hyp T8 (by show (0 : Nat) <= _; omega) hin NRM.out SML.out)
     rw [APL.out, show (So.rowsB []).length = 0 from rfl] at AF
     unfold contV at AF
     have BK8 := Lib.hid (BK6.out.qt q8)
     have Q8 := Lib.hid (Qt.trans Q6.out q8)
     have LB := Lib.hid (show B < t from by have := BK6.out.lt; omega)
     have LT := Lib.hid (show w.heap.size <= t /\ w.heap.size <= w8.heap.size from by have := HB.out; have := BK6.out.lt; have := Q8.out.size; omega)
     have LB8 := Lib.hid (show B < w8.heap.size from BK8.out.lt)
     obtain ⟨k2, hk2⟩ : ∃ z, (So.rowsB us).length = z := ⟨_, rfl⟩
     rw [hk2] at AF
     have HK2 := Lib.hid hk2
     clear NC T8 ht8 q8 hin hk2
     go_wp2_with fail
     refine AF.mono ?_
     rintro e w9 ⟨t2, A2, rfl, T9, ht9, hA9, q9⟩
     have bk9 := BK8.out.qt q9
     have BK9 := Lib.hid bk9
     have p0 := bk9.cell 0 _ rfl
     have p1 := bk9.cell 1 _ rfl
     have s0 := bk9.frozen 0
     have s1 := bk9.frozen 1
     have nA : ∀ j, A2 j -> j ≠ B := fun j hj e => by
      rcases hA9 j hj with h | h
      ·have := LB.out; omega
      ·have := LB8.out; omega
     have Q9 := Qt.trans Q8.out q9
     have FIN := Lib.hid (cont_some FD.out HK2.out ((T9.kept (keeps_set w9 B 0 (ptrV t2)) nA).kept (keeps_set _ B 1 (.int .i64 (k2 : Int))) nA) (fun j hj => by
      rcases hA9 j hj with h | h
      ·have := LT.out; omega
      ·have := LT.out; omega) (by have := LT.out; omega) (qt_set (qt_set Q9 (Nat.le_of_eq HB.out) 0 (ptrV t2)) (Nat.le_of_eq HB.out) 1 (.int .i64 (k2 : Int))))
     clear AF bk9 nA Q9 T9 hA9 ht9 q9
     go_wp2
     exact bodyPost_ret (results_cell_row (p := 2) (ty := 132) (by kernel_rfl) _ _ B 132 #[ptrV t2, .int .i64 (k2 : Int)] (0, 0) _ rfl ((BK9.out.set 0 _).set 1 _) Tryz.underlying132 rfl (by kernel_rfl)) rfl FIN.out
set_option maxHeartbeats 800000 in
def smCells (b n life t k v q : Nat) : List Value := [.pointer (some ⟨b, 0, none⟩), .int .i64 2, .int .i64 (2 + ((So.each n : Nat) : Int)), .int .i64 ((So.each n : Nat) : Int), .int .i64 ((So.logAt n : Nat) : Int), .int .i64 ((So.many n : Nat) : Int), .int .i64 (life : Int), ptrV t, .int .i64 (k : Int), .int .i64 (v : Int), .pointer (some ⟨q, 0, none⟩)]
def Sm (w : World) (p b n life t k v q : Nat) : Prop := Bk w p 140 (smCells b n life t k v q)
section
variable {w : World} {p b n life t k v q : Nat}
theorem Sm.qt {W : World} (h : Sm w p b n life t k v q) (x : Qt w W) : Sm W p b n life t k v q := Bk.qt h x
theorem Sm.kept {S : Nat -> Prop} {W : World} (h : Sm w p b n life t k v q) (x : Keeps S w W) (hS : ¬ S p) : Sm W p b n life t k v q := Bk.kept h x hS
theorem Sm.lt (h : Sm w p b n life t k v q) : p < w.heap.size := Bk.lt h
theorem version_st (h : Sm w p b n life t k v q) : Calls Tryz.prog 25 #[.pointer (some ⟨p, 0, none⟩)] w fun e w' => e = .returned (.int .i64 (v : Int)) /\ w' = w := by
 have c9 := Bk.cell h 9 _ rfl
 go_enter Tryz.func25, Tryz.ntmps25
 go_wp2
 exact bodyPost_ret (results_tmp (t := 2) rfl _ _ _) rfl ⟨rfl, rfl⟩
theorem room_st (hn : n <= 65536) (h : Sm w p b n life t k v q) : Calls Tryz.prog 41 #[.pointer (some ⟨p, 0, none⟩)] w fun e w' => e = .returned (.int .i64 ((So.room n : Nat) : Int)) /\ Qt w w' := by
 have RM := room13_any b n (by unfold So.each; omega) w
 unfold layV at RM
 have c0 := Bk.cell h 0 _ rfl
 have c1 := Bk.cell h 1 _ rfl
 have c2 := Bk.cell h 2 _ rfl
 have c3 := Bk.cell h 3 _ rfl
 have c4 := Bk.cell h 4 _ rfl
 have c5 := Bk.cell h 5 _ rfl
 clear h
 go_enter Tryz.func41, Tryz.ntmps41
 go_wp2_with fail
 refine RM.mono ?_
 rintro e w1 ⟨rfl, hw1⟩
 have FIN := Lib.hid (show Qt w w1 from hw1 ▸ (Qt.refl w).alloc _)
 clear hw1
 go_wp2
 exact bodyPost_ret (results_tmp (t := 2) rfl _ _ _) rfl ⟨rfl, FIN.out⟩
theorem largest_st (hn : n <= 65536) (h : Sm w p b n life t k v q) : Calls Tryz.prog 59 #[.pointer (some ⟨p, 0, none⟩)] w fun e w' => e = .returned (.int .i64 (largestZ ((So.many n : Nat) : Int))) /\ w' = w := by
 have LG := jlargest_any ((So.many n : Nat) : Int) (by unfold So.many So.each; omega) w
 have c5 := Bk.cell h 5 _ rfl
 clear h
 go_enter Tryz.func59, Tryz.ntmps59
 go_wp2_with fail
 refine LG.mono ?_
 rintro e w1 ⟨rfl, rfl⟩
 go_wp2
 exact bodyPost_ret (results_tmp (t := 2) rfl _ _ _) rfl ⟨rfl, rfl⟩
theorem size_st {l : List Tb.R} {A : Nat -> Prop} (hT : Tbl w t l A) (hk : (So.rowsB l).length <= 4611686018427387904) (h : Sm w p b n life t (So.rowsB l).length v q) : Calls Tryz.prog 40 #[.pointer (some ⟨p, 0, none⟩)] w fun e w' => e = .returned (.int .i64 ((So.size l : Nat) : Int)) /\ Qt w w' := by
 have SZ := size13_any w hT hk
 unfold contV at SZ
 have c7 := Bk.cell h 7 _ rfl
 have c8 := Bk.cell h 8 _ rfl
 clear h
 go_enter Tryz.func40, Tryz.ntmps40
 go_wp2_with fail
 refine SZ.mono ?_
 rintro e w1 ⟨rfl, q1⟩
 have FIN := Lib.hid q1
 clear q1
 go_wp2
 exact bodyPost_ret (results_tmp (t := 2) rfl _ _ _) rfl ⟨rfl, FIN.out⟩
theorem get_st {l : List Tb.R} {A : Nat -> Prop} (hT : Tbl w t l A) (h : Sm w p b n life t k v q) (key : ByteArray) : Calls Tryz.prog 47 #[.pointer (some ⟨p, 0, none⟩), .string key] w fun e w' => e = .returned (GotV (Tb.get l key.data.toList)) /\ w' = w := by
 have GT := get11_any hT key
 have c7 := Bk.cell h 7 _ rfl
 obtain ⟨x, y, hxy⟩ : ∃ x y, GotV (Tb.get l key.data.toList) = .tuple #[x, y] := ⟨_, _, rfl⟩
 rw [hxy] at GT ⊢
 clear h
 go_enter Tryz.func47, Tryz.ntmps47
 go_wp2_with fail
 refine GT.mono ?_
 rintro e w1 ⟨rfl, rfl⟩
 go_wp2
 exact bodyPost_ret (results_tmp2 (t := 4) (u := 5) rfl _ _ _) rfl ⟨rfl, rfl⟩
theorem rows_st {l : List Tb.R} {A : Nat -> Prop} (hT : Tbl w t l A) (h : Sm w p b n life t k v q) : Calls Tryz.prog 24 #[.pointer (some ⟨p, 0, none⟩)] w fun e w' => ∃ v, e = .returned v /\ NewR w w' v l := by
 have RW := rows11_any hT (fun w q => by
  have f := from11_any (hT.qt q) ⟨#[]⟩
  rwa [show Tb.fromL l (⟨#[]⟩ : ByteArray).data.toList = l from Tb.from_nil l] at f)
 have c7 := Bk.cell h 7 _ rfl
 clear h
 go_enter Tryz.func24, Tryz.ntmps24
 go_wp2_with fail
 refine RW.mono ?_
 rintro e w1 ⟨rv, rfl, hN⟩
 have FIN := Lib.hid hN
 clear hN
 go_wp2
 go_ret
 exact ⟨_, rfl, FIN.out⟩
theorem down_st {d : DS} {S : Nat -> Prop} (hD : DiskAt w b d S) (h : Sm w p b n life t k v q) : Calls Tryz.prog 81 #[.pointer (some ⟨p, 0, none⟩)] w fun e w' => e = .returned (.bool (d.off || decide (d.cr ≠ life))) /\ Qt w w' := by
 have OF := Lib.hid (fun W (x : Qt w W) => off_same (DiskAt.qt hD x))
 have LF := Lib.hid (fun W (x : Qt w W) => life_same (DiskAt.qt hD x))
 have d0 := Bk.cell h 0 _ rfl
 have d6 := Bk.cell h 6 _ rfl
 clear h hD
 cases ho : d.off with
 | true =>
  rw [ho] at OF
  clear ho LF d6
  go_enter Tryz.func81, Tryz.ntmps81
  go_wp2
  go_quiet ((go_at_call 43; with_reducible exact Calls.quiet_of_same (OF.out _ (Keeps.drewN (Qt.refl w) _))))
  go_wp2
  go_ret
  exact ⟨rfl, Keeps.drewN (Qt.refl w) _⟩
 | false =>
  obtain ⟨B, hB⟩ : ∃ B, ((d.cr : Int) != (life : Int)) = B := ⟨_, rfl⟩
  have FIN := Lib.hid (show (false || decide (d.cr ≠ life)) = B by
   rw [<- hB, Bool.false_or]
   by_cases hc : d.cr = life
   ·rw [decide_eq_false (fun k => k hc), hc]; simp
   ·rw [decide_eq_true hc]
    exact (bne_iff_ne.2 (by omega)).symm)
  rw [ho] at OF
  clear ho
  go_enter Tryz.func81, Tryz.ntmps81
  go_wp2
  go_quiet ((first | (go_at_call 43; with_reducible exact Calls.quiet_of_same (OF.out _ (Keeps.drewN (Qt.refl w) _))) | (go_at_call 88; with_reducible exact Calls.quiet_of_same (LF.out _ (Keeps.drewN (Qt.refl w) _)))))
  go_wp2
  go_ret
  exact ⟨by rw [FIN.out]; rfl, Keeps.drewN (Qt.refl w) _⟩
end
noncomputable def So.addJ (j : J.JS) (d : DS) (t : Tb.Txt) : Nat × J.JS × DS := if (j.append d t).1 ≠ 0 then j.append d t else (j.append d t).2.1.sync (j.append d t).2.2
def AddTo (n0 : Nat) (ad : Nat -> Addr) (w : World) (b q : Nat) (r : Nat × J.JS × DS) (S : Nat -> Prop) (e : Ending) (w' : World) : Prop :=
 ∃ S', e = .returned (errV ad r.1) /\ Dk n0 ad w' b r.2.2 S' /\ (∀ k, S' k -> S k \/ w.heap.size <= k) /\ ¬ S' q /\ CJ w' q b r.2.1 /\ Keeps (fun k => S k \/ k = q) w w'
section
variable {n0 : Nat} {ad : Nat -> Addr} {w w1 w2 : World} {b q : Nat} {d : DS} {S : Nat -> Prop} {j : J.JS} {r : Nat × J.JS × DS}
theorem JTo.add {e : Ending} (h : JTo n0 ad w b q r S e w1) (hq : q < w.heap.size) (hS : ¬ S q) : AddTo n0 ad w b q r S e w1 := by
 obtain ⟨h1, h2, h3, h4⟩ := h
 exact ⟨Grow S w w1, h1, h2, fun k e => by rcases e with e | e; exact .inl e; exact .inr e.1, fun e => by rcases e with e | e; exact hS e; omega, h3, h4⟩
theorem AddTo.from {w0 : World} {e : Ending} (q0 : Qt w0 w) (h : AddTo n0 ad w b q r S e w1) : AddTo n0 ad w0 b q r S e w1 := by
 obtain ⟨S', h1, h2, h3, h4, h5, h6⟩ := h
 have hz := q0.size
 exact ⟨S', h1, h2, fun k e => by rcases h3 k e with e | e; exact .inl e; exact .inr (by omega), h4, h5, Keeps.trans (q0.mono (fun _ _ e => e.elim)) h6 (fun i hi e => e)⟩
theorem AddTo.then {r2 : Nat × J.JS × DS} {S1 : Nat -> Prop} {e : Ending} (hD : ∀ k, S1 k -> S k \/ w.heap.size <= k) (hK : Keeps (fun k => S k \/ k = q) w w1) (h : AddTo n0 ad w1 b q r2 S1 e w2) : AddTo n0 ad w b q r2 S e w2 := by
 obtain ⟨S', h1, h2, h3, h4, h5, h6⟩ := h
 have hz := hK.size
 refine ⟨S', h1, h2, fun k e => ?_, h4, h5, Keeps.trans hK h6 (fun i hi e => ?_)⟩
 ·rcases h3 k e with e | e
  ·exact hD k e
  ·exact .inr (by omega)
 ·rcases e with e | e
  ·rcases hD i e with e | e
   ·exact .inl e
   ·omega
  ·exact .inr e
set_option maxHeartbeats 4000000 in
theorem add13_any {v : Nat} (h : Dk n0 ad w b d S) (hq0 : n0 <= q) (hqS : ¬ S q) (hf : d.FewS) (hC : CJ w q b j) (hF : J.Fine j d) (s : ByteArray) (hs : s.size <= 1099511627776) :
  Calls Tryz.prog 84 #[.agg #[.int .i64 (v : Int), .pointer (some ⟨q, 0, none⟩)], .string s] w (AddTo n0 ad w b q (So.addJ j d s.data.toList) S) := by
 have hqw := hC.lt
 have hnj : j.n <= 65536 := by have := hF.fit; have := h.len; omega
 obtain ⟨W, hW, q0, bG, hz⟩ := box_own w 138 #[.int .i64 (v : Int), .pointer (some ⟨q, 0, none⟩)]
 have Q0 := Lib.hid q0
 have BG := Lib.hid bG
 have HO := Lib.hid (show ¬ (S w.heap.size \/ w.heap.size = q) from fun e => by rcases e with e | e; exact absurd (h.lt _ e) (Nat.lt_irrefl _); omega)
 have g1 := bG.cell 1 _ rfl
 have HQW := Lib.hid (show q < W.heap.size by omega)
 have HQS := Lib.hid hqS
 have HQ0 := Lib.hid hq0
 have AP := dk_append (h.qt q0) hq0 hqS hf (hC.kept q0 (fun e => e)) hF s hs
 have FA := Lib.hid (hF.append s.data.toList)
 have FEW := Lib.hid (((So.Ran.append j d s.data.toList).fewA hf (by omega) (by decide)).few)
 have AJ := Lib.hid (show So.addJ j d s.data.toList = if (j.append d s.data.toList).1 ≠ 0 then j.append d s.data.toList else (j.append d s.data.toList).2.1.sync (j.append d s.data.toList).2.2 from rfl)
 generalize So.addJ j d s.data.toList = rr at *
 generalize j.append d s.data.toList = r at *
 clear h hq0 hqS hf hC hF hs hqw hnj bG q0 hz
 go_enter Tryz.func84, Tryz.ntmps84
 go_wp2_with fail
 refine AP.mono ?_
 rintro e w1 J1
 have A1 := Lib.hid (J1.add HQW.out HQS.out)
 obtain ⟨rfl, D1, C1, K1⟩ := J1
 have BG1 := Lib.hid (BG.out.kept K1 HO.out)
 by_cases hz : r.1 = 0
 ·have AJ2 := Lib.hid (show rr = r.2.1.sync r.2.2 from by rw [AJ.out, if_neg (fun e => e hz)])
  have HS1 : ¬ Grow S W w1 q := fun e => by rcases e with e | e; exact HQS.out e; have := HQW.out; omega
  have SY := dk_sync D1 HQ0.out HS1 FEW.out C1 FA.out.1
  have HQ1 := Lib.hid (show q < w1.heap.size from C1.lt)
  have HS1' := Lib.hid HS1
  have KK := Lib.hid K1
  have g1' := BG1.out.cell 1 _ rfl
  rw [hz, errV_zero]
  clear hz AP D1 C1 K1 HS1 g1
  go_wp2_with fail
  refine SY.mono ?_
  rintro e w2 J2
  have A2 := Lib.hid (AddTo.from Q0.out (AddTo.then (S := S) (fun k e => by rcases e with e | e; exact .inl e; exact .inr e.1) KK.out (J2.add HQ1.out HS1'.out)))
  obtain ⟨rfl, _⟩ := J2
  rw [<- AJ2.out] at A2 ⊢
  clear SY
  go_wp2
  exact bodyPost_ret (results_tmp (t := 4) rfl _ _ _) rfl A2.out
 ·have AJ2 := Lib.hid (show rr = r from by rw [AJ.out, if_pos hz])
  have A2 := Lib.hid (AddTo.from Q0.out A1.out)
  rw [<- AJ2.out] at A2
  rw [errV_pos ad (Nat.pos_of_ne_zero hz)]
  have EV := Lib.hid (show errV ad rr.1 = .iface 335 (.pointer (some (ad r.1))) from by rw [AJ2.out]; exact errV_pos ad (Nat.pos_of_ne_zero hz))
  clear AP D1 C1 K1 hz
  have A3 := A2.out
  rw [EV.out] at A3
  have A4 := Lib.hid A3
  clear A3
  go_wp2
  exact bodyPost_ret (results_tmp (t := 4) rfl _ _ _) rfl A4.out
end
end Go.Proofs.YthjjfjhajadimaaGreatDoor
