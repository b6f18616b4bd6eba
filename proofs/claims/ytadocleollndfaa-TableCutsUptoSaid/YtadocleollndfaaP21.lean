/-
  What listed variables give, of no layer and with no error: the witness; a part of a row's list.
  Layer 11's listed variables: none; the witness's start.
  The contract of remitlaw11.TableCuts: it answers true.
-/
import Derived.Test.YtadocleollndfaaP02
import Derived.Test.YtadocleollndfaaRows
import Derived.ProofKit
import Derived.LaidMore
import Derived.LaidLaws
import Derived.OpenShut
import Derived.Stop.LaidErr
import Derived.Deep.DeepHandedRow
import Derived.Deep.DeepWitnessRowRef
import Derived.Lib.LaidTab
import Derived.Lib.SmallJoins
import Derived.Lay
import Derived.Test.YtadocleollndfaaP07
namespace Go.Proofs.Ytadocleollndfaa
open Go.ChangeShapes Go.WideShapes Go.ChangeAt Go.RowKit
set_option maxRecDepth 100000

theorem laidOut : laidOutB Try.prog = true := by kernel_rfl
theorem own' : ownKnob Try.prog.godebug = none := by kernel_rfl

/-- 'There is an input that fits', at a start whose shape is known. -/
theorem witness_laid {H : Type} {enc : TypeId × Value → H} {C : Checked} {os : Os} {f : FuncId} {fn : Func} {s : OpenSpec} {conds : List PathCond} {apart : Bool} {laid : List (String × DataW Unit)} (modest : Bool) (w0 : World) (args : Array Value) (hos : w0.os = os)
    (hsh : (w0.forCall (fun _ _ => 0) ⟨#[], args, []⟩).Shaped C.prog)
    (hok : Input.okWideB C.prog (w0.forCall (fun _ _ => 0) ⟨#[], args, []⟩) f ⟨#[], args, []⟩ = true)
    (hrow : s.preRow enc C.prog fn conds apart laid (w0.forCall (fun _ _ => 0) ⟨#[], args, []⟩).memory args) :
    ∃ (w : World) (tape : Tape) (i : Input), w.os = os ∧ (w.forCall tape i).Shaped C.prog ∧ i.vars = [] ∧ Input.okWide C.prog (w.forCall tape i) .any w.heap.size f i ∧
      s.preRow enc C.prog fn conds apart laid (w.forCall tape i).memory i.args ∧ ({ modest := modest } : Assume).holds C.prog (lone (Frame.enter C.prog f i.args .normal) [] (w.forCall tape i)) :=
  ⟨w0, fun _ _ => 0, ⟨#[], args, []⟩, hos, hsh, (Input.okWide_of_okWideB (base := 0) hok).1, (Input.okWide_of_okWideB hok).2, hrow, by
    simp only [Assume.holds]
    exact ⟨by simp, by simp, fun _ => Modest.zero, by simp, by simp⟩⟩

/-- A part of a list of listed variables. -/
theorem laidVars_sub {P : Program} {w : World} {L' L : List (String × DataW Unit)} (hs : L'.Sublist L) : ∀ {ps : List MemPlace}, DataW.LaidVars P w L ps → ∃ q, DataW.LaidVars P w L' q ∧ q.Sublist ps := by
  induction hs with
  | slnil => intro ps h; exact ⟨ps, h, List.Sublist.refl _⟩
  | cons a _ ih =>
    intro ps h
    obtain ⟨n, d⟩ := a
    obtain ⟨g, t, cs, f, p, q, h1, h2, h3, h4, hq, e⟩ := h
    obtain ⟨q', hq', hsub⟩ := ih hq
    exact ⟨q', hq', by rw [e]; exact hsub.trans (List.sublist_append_right _ _)⟩
  | cons_cons a _ ih =>
    intro ps h
    obtain ⟨n, d⟩ := a
    obtain ⟨g, t, cs, f, p, q, h1, h2, h3, h4, hq, e⟩ := h
    obtain ⟨q', hq', hsub⟩ := ih hq
    exact ⟨_, ⟨g, t, cs, f, p, q', h1, h2, h3, h4, hq', rfl⟩, by rw [e]; exact List.Sublist.append (List.Sublist.refl _) hsub⟩
theorem laidMet_sub {P : Program} {W : World} {L' L : List (String × DataW Unit)} (hs : L'.Sublist L) (h : laidMet P L W) : laidMet P L' W := by
  obtain ⟨ps, hv, hnd, hrows⟩ := h
  obtain ⟨q, hq, hsub⟩ := laidVars_sub hs hv
  exact ⟨q, hq, hnd.sublist hsub, fun b off hb => hrows b off (hsub.subset hb)⟩
end Go.Proofs.Ytadocleollndfaa
namespace Go.Proofs.Ytadocleollndfaa
open Go.ChangeShapes Go.WideShapes Go.ChangeAt Go.RowKit
set_option maxRecDepth 100000

noncomputable def doorT (os : Os) : World := World.laidAll Try.prog os []
theorem doorT_met (os : Os) (args : Array Value) : laidMetH Try.prog [] ((doorT os).forCall (fun _ _ => 0) ⟨#[], args, []⟩).memory := by
  rw [MakeChecks.laidMetH_plain _ _ _ (by kernel_rfl)]
  exact laidMet_laidAll _ (by kernel_rfl) (by kernel_rfl)
end Go.Proofs.Ytadocleollndfaa
namespace Go.Proofs.Ytadocleollndfaa
open Go.RowKit Go.WideShapes
set_option maxRecDepth 100000

theorem filter_len (l : List Tb.R) (p : Tb.R → Bool) {n : Nat} (h : l.length ≤ n) : (l.filter p).length ≤ n := Nat.le_trans (List.length_filter_le _ _) h
set_option maxHeartbeats 6400000 in
theorem cuts_any (H : TabH) {g o : Nat} {v : Value} {rows : List Tb.R} (lo hi : ByteArray) (w : World) (hr : RowsIn w v g o rows) (hb : Tb.bytes rows ≤ 9223372036854775807) (ht : ∀ r ∈ rows, r.1.length ≤ 281474976710656 ∧ r.2.length ≤ 281474976710656) :
    Calls Try.prog 3 #[v, .string lo, .string hi] w fun e w' => e = .returned (.bool true) ∧ Qt w w' := by
  have LV := lives11_any H w
  have HR := Lib.hid hr
  have HLE := Lib.hid hr.le
  obtain ⟨a, cap, rfl, ha⟩ := hr.val
  have HB := Lib.hid hb
  have HTX := Lib.hid ht
  clear hr ha hb ht
  obtain ⟨i0, hi0, hz0, hz1, hz2⟩ := info_parts infoRow
  by_cases h20 : 20000 < rows.length
  · have z20 : decide (20000 < (rows.length : Int)) = true := decide_eq_true (by omega)
    have z20' : decide (20000 < rows.length) = true := decide_eq_true h20
    go_enter Try.func3, Try.ntmps3
    go_wp2_with fail
    refine LV.mono ?_
    rintro e w1 ⟨rfl, q1⟩
    have Q1 := Lib.hid q1
    clear q1 LV h20
    go_wp2
    go_ret
    exact ⟨rfl, Q1.out⟩
  · have z20 : decide (20000 < (rows.length : Int)) = false := decide_eq_false (by omega)
    have z20' : decide (20000 < rows.length) = false := decide_eq_false h20
    have HL2 := Lib.hid (show rows.length ≤ 20000 by omega)
    have HNR := Lib.hid (show rows.length ≤ 1048576 by omega)
    clear h20
    have hcase : Op.bytesLess hi.toList lo.toList = true ∨ Op.bytesLess hi.toList lo.toList = false := by cases Op.bytesLess hi.toList lo.toList <;> simp
    go_enter Try.func3, Try.ntmps3
    go_wp2_with fail
    refine LV.mono ?_
    rintro e w1 ⟨rfl, q1⟩
    have OF := st_of H q1 (HR.out.turn q1) HB.out HTX.out HNR.out
    clear q1 LV
    go_wp2_with fail
    refine OF.mono ?_
    rintro e w2 ⟨b, rfl, s2, q2⟩
    obtain ⟨l, hl⟩ : ∃ l, Tb.ofL rows = l := ⟨_, rfl⟩
    have HOF := Lib.hid hl
    have S2 := Lib.hid s2
    rw [hl] at S2
    have HLL := Lib.hid (show l.length ≤ 20000 from by rw [← hl]; exact Nat.le_trans (Tb.ofL_length rows) HL2.out)
    have HBL := Lib.hid (show Tb.bytes l ≤ 9223372036854775807 from by rw [← hl]; exact Nat.le_trans (Tb.ofL_bytes rows) HB.out)
    clear s2 q2 OF z20 z20' hl
    have HCASE : ∃ p q : ByteArray, (p = hi ∧ q = lo ∧ Op.bytesLess hi.toList lo.toList = true ∨ p = lo ∧ q = hi ∧ Op.bytesLess hi.toList lo.toList = false) ∧ Tb.lt q.data.toList p.data.toList = false := by
      rcases hcase with h | h
      · exact ⟨hi, lo, .inl ⟨rfl, rfl, h⟩, Tb.lt_asymm (by rw [← ByteArray.toList_eq, ← ByteArray.toList_eq]; exact h)⟩
      · exact ⟨lo, hi, .inr ⟨rfl, rfl, h⟩, by rw [← ByteArray.toList_eq, ← ByteArray.toList_eq]; exact h⟩
    clear hcase
    obtain ⟨p, q, hpq, hle⟩ := HCASE
    have HPQ := Lib.hid hle
    rcases hpq with ⟨rfl, rfl, zlt⟩ | ⟨rfl, rfl, zlt⟩
    all_goals
      clear hle
      have LF := Lib.hid (fun k => (show (Tb.fromL l k).length ≤ 20000 from filter_len l _ HLL.out))
      have LR := Lib.hid (fun k m => (show (Tb.rangeL l k m).length ≤ 20000 from filter_len _ _ (LF.out k)))
      have FA := st_from S2.out ⟨#[]⟩
      rw [show (⟨#[]⟩ : ByteArray).data.toList = [] from rfl, Tb.from_nil] at FA
      go_wp2_with fail
      refine FA.mono ?_
      rintro e wAf ⟨fvA, XA, rfl, hiA, sAf⟩
      have GA := st_gather sAf hiA (by have := HLL.out; omega)
      clear FA sAf hiA zlt
      go_wp2_with fail
      refine GA.mono ?_
      rintro e wAg ⟨vA, rfl, ⟨aA, cA, rfl⟩, sAg⟩
      have SA := Lib.hid sAg
      clear GA sAg
      have FF := st_from SA.out p
      go_wp2_with fail
      refine FF.mono ?_
      rintro e wFf ⟨fvF, XF, rfl, hiF, sFf⟩
      have GF := st_gather sFf hiF (by have := LF.out p.data.toList; omega)
      clear FF sFf hiF
      go_wp2_with fail
      refine GF.mono ?_
      rintro e wFg ⟨vF, rfl, ⟨aF, cF, rfl⟩, sFg⟩
      have SF := Lib.hid sFg
      clear GF sFg
      have FM := st_range SF.out p q
      go_wp2_with fail
      refine FM.mono ?_
      rintro e wMf ⟨fvM, XM, rfl, hiM, sMf⟩
      have GM := st_gather sMf hiM (by have := LR.out p.data.toList q.data.toList; omega)
      clear FM sMf hiM
      go_wp2_with fail
      refine GM.mono ?_
      rintro e wMg ⟨vM, rfl, ⟨aM, cM, rfl⟩, sMg⟩
      have SM := Lib.hid sMg
      clear GM sMg
      have FR := st_from SM.out q
      go_wp2_with fail
      refine FR.mono ?_
      rintro e wRf ⟨fvR, XR, rfl, hiR, sRf⟩
      have GR := st_gather sRf hiR (by have := LF.out q.data.toList; omega)
      clear FR sRf hiR
      go_wp2_with fail
      refine GR.mono ?_
      rintro e wRg ⟨vR, rfl, ⟨aR, cR, rfl⟩, sRg⟩
      have SR := Lib.hid sRg
      clear GR sRg
      have FB := st_back SR.out p q
      go_wp2_with fail
      refine FB.mono ?_
      rintro e wBf ⟨fvB, XB, rfl, hiB, sBf⟩
      have GB := st_gather sBf hiB (by rw [List.length_reverse]; have := LR.out p.data.toList q.data.toList; omega)
      clear FB sBf hiB
      go_wp2_with fail
      refine GB.mono ?_
      rintro e wBg ⟨vB, rfl, ⟨aB, cB, rfl⟩, sBg⟩
      have SB := Lib.hid sBg
      clear GB sBg
      have FL := st_range SB.out ⟨#[]⟩ p
      rw [show (⟨#[]⟩ : ByteArray).data.toList = [] from rfl] at FL
      go_wp2_with fail
      refine FL.mono ?_
      rintro e wLf ⟨fvL, XL, rfl, hiL, sLf⟩
      have GL := st_gather sLf hiL (by have := LR.out [] p.data.toList; omega)
      clear FL sLf hiL
      go_wp2_with fail
      refine GL.mono ?_
      rintro e wLg ⟨vL, rfl, ⟨aL, cL, rfl⟩, sLg⟩
      have SL := Lib.hid sLg
      clear GL sLg
      simp only [List.nil_append, List.cons_append] at SL
      have HSORT := Lib.hid SL.out.sorted
      have C1 := Lib.hid (Tb.cuts HSORT.out HPQ.out)
      have C2 := Lib.hid (Tb.cuts_nil HSORT.out p.data.toList)
      have RI := Lib.hid (fun x (hx : x ∈ Tb.rangeL l p.data.toList q.data.toList) => Tb.range_in hx)
      have LMB := Lib.hid (LR.out p.data.toList q.data.toList)
      have LRB := Lib.hid (LF.out q.data.toList)
      have LFB := Lib.hid (LF.out p.data.toList)
      have LLB := Lib.hid (LR.out [] p.data.toList)
      clear SA SF SM SR SB LF LR
      generalize Tb.rangeL l p.data.toList q.data.toList = lM at *
      generalize Tb.rangeL l [] p.data.toList = lL at *
      generalize Tb.fromL l p.data.toList = lF at *
      generalize Tb.fromL l q.data.toList = lR at *
      have RW := st_rows SL.out (by have := HLL.out; omega)
      go_wp2_with fail
      refine RW.mono ?_
      rintro e w7 ⟨v7, rfl, ⟨a7, c7, rfl⟩, s7⟩
      simp only [List.nil_append, List.cons_append] at s7
      obtain ⟨gA, rA⟩ := s7.rows (x := (.slice aA l.length cA, l)) (by simp)
      obtain ⟨g7, r7⟩ := s7.rows (x := (.slice a7 l.length c7, l)) (by simp)
      have SS := same11_yes rA r7
      have S7 := Lib.hid s7
      clear s7 RW rA r7
      go_wp2_with fail
      refine SS.mono ?_
      rintro e w8 ⟨rfl, q8⟩
      have S8 := Lib.hid (S7.out.qt q8)
      have LN := st_len S8.out
      have zl : ((l.length : Int) != (l.length : Int)) = false := bne_self_eq_false _
      clear q8 SS
      go_wp2_with fail
      refine LN.mono ?_
      rintro e w9 ⟨rfl, q9⟩
      have S9 := Lib.hid (S8.out.qt q9)
      clear q9 LN
      obtain ⟨gF1, rF⟩ := S9.out.rows (x := (.slice aF lF.length cF, lF)) (by simp)
      obtain ⟨gM1, rM⟩ := S9.out.rows (x := (.slice aM lM.length cM, lM)) (by simp)
      obtain ⟨gR1, rR⟩ := S9.out.rows (x := (.slice aR lR.length cR, lR)) (by simp)
      have q0 : Qt w9 (w9.alloc (.cells #[] 36)) := (Qt.refl w9).alloc _
      have NW1 := rows_news (rM.turn q0)
      have hb1 : 0 + lM.length ≤ maxLen := by have := LMB.out; have := LLB.out; unfold maxLen; omega
      have hb2 : (0 + lM.length) * 32 ≤ 140737488355328 := by have := LMB.out; have := LLB.out; omega
      have RX := Lib.hid rR
      have RY := Lib.hid rF
      have Q0 := Lib.hid q0
      clear rF rM rR q0
      go_wp2_with (at_builtin; refine wpList_append_rows _ rfl _ _ 22 rfl 36 i0 (.agg #[.string ⟨#[]⟩, .string ⟨#[]⟩]) 2 32 Try.underlying22 hi0 hz0 hz1 hz2 rfl (by decide) _ 0 (rowsC []) rfl (row_new0S w9) _ lM.length _ (rowsC lM) rfl (rowsC_length lM) NW1 (rowsC_one' lM) hb1 hb2 ?_)
      intro v1 x1 own1 gr1 la1
      obtain ⟨ownA, q1, new1⟩ := own_more (W := w9) (l := []) (k := lM) (fun g e => by injection e with e; subst e; exact Nat.le_refl _) Q0.out (by simp) (by rw [rowsC_append]) own1 gr1 la1
      rw [List.nil_append] at ownA
      clear own1
      obtain ⟨a1, c1, rfl⟩ := ownR_shape ownA
      have NW2 := rows_news (RX.out.turn q1)
      have Q1 := Lib.hid q1
      have NEW1 := Lib.hid new1
      clear hb1 hb2 NW1 gr1 la1 q1 new1
      have hb1 : lM.length + lR.length ≤ maxLen := by have := LMB.out; have := LLB.out; have := LRB.out; have := LFB.out; unfold maxLen; omega
      have hb2 : (lM.length + lR.length) * 32 ≤ 140737488355328 := by have := LMB.out; have := LLB.out; have := LRB.out; have := LFB.out; omega
      go_wp2_with (at_builtin; refine wpList_append_rows _ rfl _ _ 22 rfl 36 i0 (.agg #[.string ⟨#[]⟩, .string ⟨#[]⟩]) 2 32 Try.underlying22 hi0 hz0 hz1 hz2 rfl (by decide) _ lM.length (rowsC lM) rfl ownA _ lR.length _ (rowsC lR) rfl (rowsC_length lR) NW2 (rowsC_one' lR) hb1 hb2 ?_)
      intro v2 x2 own2 gr2 la2
      obtain ⟨ownB, q2, nx⟩ := own_more (W := w9) (l := lM) (k := lR) NEW1.out Q1.out (by simp) (by rw [rowsC_append]) own2 gr2 la2
      rw [C1.out] at ownB
      obtain ⟨a2, c2, rfl⟩ := ownR_shape ownB
      obtain ⟨gS1, rS, ny⟩ := ownR_rows ownB (by have := LFB.out; have := HLL.out; omega)
      have SS := same11_yes rS (RY.out.turn q2)
      have Q2 := Lib.hid q2
      clear hb1 hb2 NW2 gr2 la2 ownA own2 ownB q2 rS nx ny
      go_wp2_with fail
      refine SS.mono ?_
      rintro e y1 ⟨rfl, qy⟩
      have T1 := Lib.hid (S9.out.qt (Qt.trans Q2.out qy))
      clear SS qy RX RY Q0 Q1 Q2 NEW1
      obtain ⟨gA2, rA⟩ := T1.out.rows (x := (.slice aA l.length cA, l)) (by simp)
      obtain ⟨gF2, rF⟩ := T1.out.rows (x := (.slice aF lF.length cF, lF)) (by simp)
      obtain ⟨gL2, rL⟩ := T1.out.rows (x := (.slice aL lL.length cL, lL)) (by simp)
      have q0 : Qt y1 (y1.alloc (.cells #[] 36)) := (Qt.refl y1).alloc _
      have NW1 := rows_news (rL.turn q0)
      have hb1 : 0 + lL.length ≤ maxLen := by have := LMB.out; have := LLB.out; unfold maxLen; omega
      have hb2 : (0 + lL.length) * 32 ≤ 140737488355328 := by have := LMB.out; have := LLB.out; omega
      have RX := Lib.hid rF
      have RY := Lib.hid rA
      have Q0 := Lib.hid q0
      clear rA rF rL q0
      go_wp2_with (at_builtin; refine wpList_append_rowsW _ rfl _ _ 22 rfl 36 i0 (.agg #[.string ⟨#[]⟩, .string ⟨#[]⟩]) 2 32 Try.underlying22 hi0 hz0 hz1 hz2 rfl (by decide) _ 0 (rowsC []) rfl (row_new0S y1) _ lL.length _ (rowsC lL) rfl (rowsC_length lL) NW1 (rowsC_one' lL) hb1 hb2 ?_)
      intro v1 x1 own1 gr1 la1
      obtain ⟨ownA, q1, new1⟩ := own_more (W := y1) (l := []) (k := lL) (fun g e => by injection e with e; subst e; exact Nat.le_refl _) Q0.out (by simp) (by rw [rowsC_append]) own1 gr1 la1
      rw [List.nil_append] at ownA
      clear own1
      obtain ⟨a1, c1, rfl⟩ := ownR_shape ownA
      have NW2 := rows_news (RX.out.turn q1)
      have Q1 := Lib.hid q1
      have NEW1 := Lib.hid new1
      clear hb1 hb2 NW1 gr1 la1 q1 new1
      have hb1 : lL.length + lF.length ≤ maxLen := by have := LMB.out; have := LLB.out; have := LRB.out; have := LFB.out; unfold maxLen; omega
      have hb2 : (lL.length + lF.length) * 32 ≤ 140737488355328 := by have := LMB.out; have := LLB.out; have := LRB.out; have := LFB.out; omega
      go_wp2_with (at_builtin; refine wpList_append_rowsW _ rfl _ _ 22 rfl 36 i0 (.agg #[.string ⟨#[]⟩, .string ⟨#[]⟩]) 2 32 Try.underlying22 hi0 hz0 hz1 hz2 rfl (by decide) _ lL.length (rowsC lL) rfl ownA _ lF.length _ (rowsC lF) rfl (rowsC_length lF) NW2 (rowsC_one' lF) hb1 hb2 ?_)
      intro v2 x2 own2 gr2 la2
      obtain ⟨ownB, q2, nx⟩ := own_more (W := y1) (l := lL) (k := lF) NEW1.out Q1.out (by simp) (by rw [rowsC_append]) own2 gr2 la2
      rw [C2.out] at ownB
      obtain ⟨a2, c2, rfl⟩ := ownR_shape ownB
      obtain ⟨gS2, rS, ny⟩ := ownR_rows ownB (by have := LFB.out; have := HLL.out; omega)
      have SS := same11_yes rS (RY.out.turn q2)
      have Q2 := Lib.hid q2
      clear hb1 hb2 NW2 gr2 la2 ownA own2 ownB q2 rS nx ny
      go_wp2_with fail
      refine SS.mono ?_
      rintro e y2 ⟨rfl, qy⟩
      have T2 := Lib.hid (T1.out.qt (Qt.trans Q2.out qy))
      clear SS qy RX RY Q0 Q1 Q2 NEW1
      have zm : ((lM.length : Int) != (lM.length : Int)) = false := bne_self_eq_false _
      clear S2 SL S7 S8 S9 T1 zl
      obtain ⟨gM, rM⟩ := T2.out.rows (x := (.slice aM lM.length cM, lM)) (by simp)
      obtain ⟨gB, rB⟩ := T2.out.rows (x := (.slice aB lM.reverse.length cB, lM.reverse)) (by simp)
      have RM := Lib.hid rM
      have RB := Lib.hid rB
      have START := Lib.hid (show CtAt y2 lM.length (.int .i64 0) y2 from ⟨0, Nat.zero_le _, rfl, Qt.refl _⟩)
      clear rM rB
      go_wp2
      go_loopw [151] (fun iv wr => CtAt y2 lM.length iv wr) (fun iv _ => lM.length - (intOf iv).toNat)
      case atStart => exact START.out
      case round =>
        obtain ⟨k, hk, rfl, qk⟩ := hrel
        by_cases hlt : k < lM.length
        · obtain ⟨r, c0, hrk, e0⟩ := RM.out.elem hlt
          injection e0 with e0 q1 q2
          clear q1 q2
          obtain ⟨r', c0', hrk', e1⟩ := RB.out.elem (k := lM.length - 1 - k) (by rw [List.length_reverse]; omega)
          injection e1 with e1 q1 q2
          clear q1 q2
          subst e0 e1
          rw [rev_get hrk] at hrk'
          injection hrk' with hrk'
          subst hrk'
          obtain ⟨x1, x2⟩ := RM.out.cell hrk
          obtain ⟨z1, z2⟩ := RB.out.cell (rev_get hrk)
          have x1 := qk.cellv x1
          have x2 := qk.cellv x2
          have z1 := qk.cellv z1
          have z2 := qk.cellv z2
          rw [Nat.zero_add] at x1 x2 z1 z2
          obtain ⟨i1, i2⟩ := RI.out r (List.mem_of_getElem? hrk)
          obtain ⟨K, hK, hKl⟩ : ∃ K : ByteArray, strV r.1 = .string K ∧ K.data.toList = r.1 := ⟨⟨r.1.toArray⟩, rfl, rfl⟩
          obtain ⟨V, hV, hVl⟩ : ∃ V : ByteArray, strV r.2 = .string V ∧ V.data.toList = r.2 := ⟨⟨r.2.toArray⟩, rfl, rfl⟩
          have zlo : Op.bytesLess K.toList p.toList = false := by rw [ByteArray.toList_eq, ByteArray.toList_eq, hKl]; exact i1
          have zhi : Op.bytesLess K.toList q.toList = true := by rw [ByteArray.toList_eq, ByteArray.toList_eq, hKl]; exact i2
          have n1 : ∀ W, (binOp .neq 36 (.agg #[.string K, .string V]) (.agg #[.string K, .string V])).run Try.prog W = .ok (.bool false) W := fun W => by rw [← hK, ← hV, run_neq_row r r W, decide_eq_true rfl]; rfl
          rw [hK] at x1 z1
          rw [hV] at x2 z2
          have zlt := ct_lt hlt
          have zlt' : decide (k < lM.length) = true := decide_eq_true hlt
          obtain ⟨b0, b1, b2, b3⟩ := ct_in hlt
          have hw1 := ct_w1 (k := k) (by have := LMB.out; omega)
          obtain ⟨hwa, hwb⟩ := ct_w2 hlt LMB.out
          have HM := Lib.hid (ct_meas hlt)
          have HQ := Lib.hid qk
          have HLT := Lib.hid hlt
          clear hrk i1 i2 hK hKl hV hVl hlt hk qk
          go_wp2
          go_quiet (fail)
          have FN := Lib.hid (show CtAt y2 lM.length (.int .i64 ((k : Int) + 1)) _ from ⟨k + 1, HLT.out, by push_cast; rfl, Keeps.drewN HQ.out nq⟩)
          clear zlo zhi n1 hwa hwb x1 x2 z1 z2
          go_wp2
          first | exact ⟨FN.out, HM.out⟩ | (rw [hw1]; exact ⟨FN.out, HM.out⟩)
        · obtain rfl : k = lM.length := by omega
          have zlt : decide ((lM.length : Int) < (lM.length : Int)) = false := decide_eq_false (by omega)
          have zlt' : decide (lM.length < lM.length) = false := decide_eq_false (by omega)
          obtain ⟨u0, hu0⟩ : ∃ W : World, W = wr := ⟨_, rfl⟩
          subst hu0
          have T3 := Lib.hid (T2.out.qt qk)
          obtain ⟨gA, rA⟩ := T3.out.rows (x := (.slice aA l.length cA, l)) (by simp)
          have RA := Lib.hid rA
          have START2 := Lib.hid (show CsAt u0 l (.int .i64 0) (.int .i64 0) u0 from ⟨0, Nat.zero_le _, rfl, rfl, Qt.refl _⟩)
          clear hlt hk qk rA START RM RB T2
          go_wp2
          go_loopw [22, 188] (fun bv iv wr => CsAt u0 l bv iv wr) (fun _ iv _ => l.length - (intOf iv).toNat)
          case atStart => exact START2.out
          case round =>
            obtain ⟨k, hk, rfl, rfl, qk⟩ := hrel
            by_cases hlt : k < l.length
            · obtain ⟨r, c0, hrk, e0⟩ := RA.out.elem hlt
              injection e0 with e0 q1 q2
              clear q1 q2
              subst e0
              obtain ⟨x1, x2⟩ := RA.out.cell hrk
              have x1 := qk.cellv x1
              have x2 := qk.cellv x2
              rw [Nat.zero_add] at x1 x2
              obtain ⟨K, hK, hKl⟩ : ∃ K : ByteArray, strV r.1 = .string K ∧ K.data.toList = r.1 := ⟨⟨r.1.toArray⟩, rfl, rfl⟩
              obtain ⟨V, hV, hVl⟩ : ∃ V : ByteArray, strV r.2 = .string V ∧ V.data.toList = r.2 := ⟨⟨r.2.toArray⟩, rfl, rfl⟩
              rw [hK] at x1
              rw [hV] at x2
              have zlt := ct_lt hlt
              have zlt' : decide (k < l.length) = true := decide_eq_true hlt
              obtain ⟨b0, b1, _, _⟩ := ct_in hlt
              have hw1 := ct_w1 (k := k) (by have := HLL.out; omega)
              have HM := Lib.hid (ct_meas hlt)
              have HQ := Lib.hid qk
              have HLT := Lib.hid hlt
              obtain ⟨wb, hwb⟩ : ∃ W, wr.alloc (.cells #[.string K, .string V] 36) = W := ⟨_, rfl⟩
              have qb : Qt wr wb := hwb ▸ (Qt.refl wr).alloc _
              have c1 : wb.cell? ⟨wr.heap.size, 0, none⟩ = some (.string K) := by rw [← hwb, cell_of_row _ _ _ _ _ _ (heap_alloc_new wr _)]; rfl
              have c2 : wb.cell? ⟨wr.heap.size, 1, none⟩ = some (.string V) := by rw [← hwb, cell_of_row _ _ _ _ _ _ (heap_alloc_new wr _)]; rfl
              have hg : Tb.get l r.1 = some r.2 := (Tb.get_some HSORT.out).2 (List.mem_of_getElem? hrk)
              have GG := st_get (T3.out.qt (Qt.trans qk qb)) K
              rw [hKl, hg] at GG
              simp only [Option.getD_some, Option.isSome_some] at GG
              rw [hV] at GG
              obtain ⟨s1, s2, s3⟩ := ct_sum (a := K.size) (b := V.size) hrk (by rw [← hKl]; exact dlenT K) (by rw [← hVl]; exact dlenT V) HBL.out
              have QB := Lib.hid (Qt.trans qk qb)
              have PREV := Lib.hid (show ∀ j, k = j + 1 → ∃ K2 : ByteArray, u0.cell? ⟨gA, j * 2, none⟩ = some (.string K2) ∧ Op.bytesLess K2.toList K.toList = true from fun j hj => by
                have hlj : j < l.length := by have := HLT.out; omega
                have hrj : l[j]? = some l[j] := List.getElem?_eq_getElem hlj
                obtain ⟨y1, _⟩ := RA.out.cell hrj
                rw [Nat.zero_add] at y1
                refine ⟨⟨l[j].1.toArray⟩, y1, ?_⟩
                have := Tb.sorted_next HSORT.out hrj (by rw [← hj]; exact hrk)
                rw [ByteArray.toList_eq, ByteArray.toList_eq, hKl]
                exact this)
              have FNH := Lib.hid (fun (W : World) (qq : Qt u0 W) => (show CsAt u0 l (.int .i64 (Tb.bytes (l.take (k + 1)) : Int)) (.int .i64 ((k : Int) + 1)) W from ⟨k + 1, HLT.out, by push_cast; rfl, rfl, qq⟩))
              have n2 : (V.toList != V.toList) = false := bne_self_eq_false _
              have n3 : (V.toList == V.toList) = true := beq_self_eq_true _
              clear hrk hK hKl hV hVl hlt hk qk qb hg
              go_wp2_with fail
              clear hwb
              refine GG.mono ?_
              rintro e wc ⟨rfl, qc⟩
              have QC := Lib.hid (Qt.trans QB.out qc)
              have c1 := qc.cellv c1
              have c2 := qc.cellv c2
              clear qc GG x1 x2
              by_cases hk0 : k = 0
              · have z0 : decide (0 < (k : Int)) = false := decide_eq_false (by omega)
                have z0' : decide (0 < k) = false := decide_eq_false (by omega)
                clear hk0
                go_wp2
                go_quiet (fail)
                have FN := Lib.hid (FNH.out _ (Keeps.drewN QC.out nq))
                go_wp2
                rw [s2, hw1]
                exact ⟨FN.out, HM.out⟩
              · obtain ⟨j, hj⟩ : ∃ j, k = j + 1 := ⟨k - 1, by omega⟩
                obtain ⟨K2, y1, y2'⟩ := PREV.out j hj
                have y1 := QC.out.cellv y1
                have z0 : decide (0 < (k : Int)) = true := decide_eq_true (by omega)
                have z0' : decide (0 < k) = true := decide_eq_true (by omega)
                obtain ⟨j0, j1, j2⟩ := ct_prev hj HLT.out HLL.out
                clear hk0 hj
                go_wp2
                go_quiet (fail)
                have FN := Lib.hid (FNH.out _ (Keeps.drewN QC.out nq))
                go_wp2
                rw [s2, hw1]
                exact ⟨FN.out, HM.out⟩
            · obtain rfl : k = l.length := by omega
              have zlt : decide ((l.length : Int) < (l.length : Int)) = false := decide_eq_false (by omega)
              have zlt' : decide (l.length < l.length) = false := decide_eq_false (by omega)
              have zb : ((Tb.bytes l : Int) == (Tb.bytes l : Int)) = true := beq_self_eq_true _
              rw [List.take_length]
              have T4 := Lib.hid (T3.out.qt qk)
              have BY := st_bytes T4.out
              clear hlt hk qk START2
              go_wp2_with fail
              refine BY.mono ?_
              rintro e u1 ⟨rfl, q1⟩
              have T5 := Lib.hid (T4.out.qt q1)
              have LS := st_lasts (HOF.out ▸ T5.out) HR.out
              clear q1 BY
              go_wp2_with fail
              refine LS.mono ?_
              rintro e u2 ⟨rfl, s⟩
              have FIN := Lib.hid s.qt0
              clear s LS
              go_wp2
              go_ret
              exact ⟨rfl, FIN.out⟩
end Go.Proofs.Ytadocleollndfaa
