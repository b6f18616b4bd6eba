/-
  The contract of remitlaw11.TableOwns: it answers true.
-/
import Derived.Test.YtadocleollndfaaP10
namespace Go.Proofs.Ytadocleollndfaa
open Go.RowKit Go.WideShapes
set_option maxRecDepth 100000

def spR : Tb.R := ([115, 112, 97, 114, 101], [114, 111, 111, 109])
def ovR : Tb.R := ([111, 118, 101, 114], [119, 114, 105, 116, 116, 101, 110])
def mkR : Tb.R := ([109, 97, 114, 107], [109, 97, 114, 107])
set_option maxHeartbeats 6400000 in
theorem owns_any (H : TabH) {g o : Nat} {v : Value} {rows : List Tb.R} (w : World) (hr : RowsIn w v g o rows) (hb : rows.length ≤ 1000 → Tb.bytes rows ≤ 9223372036854775807) (ht : ∀ r ∈ rows, r.1.length ≤ 281474976710656 ∧ r.2.length ≤ 281474976710656) :
    Calls Try.prog 4 #[v] w fun e w' => e = .returned (.bool true) ∧ Qt w w' := by
  have LV := lives11_any H w
  have HR := Lib.hid hr
  obtain ⟨a, cap, rfl, ha⟩ := hr.val
  have HTX := Lib.hid ht
  clear hr ha ht
  obtain ⟨i0, hi0, hz0, hz1, hz2⟩ := info_parts infoRow
  by_cases h1 : 1000 < rows.length
  · have z1 : decide (1000 < (rows.length : Int)) = true := decide_eq_true (by omega)
    have z1' : decide (1000 < rows.length) = true := decide_eq_true h1
    clear hb
    go_enter Try.func4, Try.ntmps4
    go_wp2_with fail
    refine LV.mono ?_
    rintro e w1 ⟨rfl, q1⟩
    have Q1 := Lib.hid q1
    clear q1 LV h1
    go_wp2
    go_ret
    exact ⟨rfl, Q1.out⟩
  · have z1 : decide (1000 < (rows.length : Int)) = false := decide_eq_false (by omega)
    have z1' : decide (1000 < rows.length) = false := decide_eq_false h1
    have HL := Lib.hid (show rows.length ≤ 1000 by omega)
    have HB := Lib.hid (hb (by omega))
    have HNR := Lib.hid (show rows.length ≤ 1048576 by omega)
    clear h1 hb
    go_enter Try.func4, Try.ntmps4
    go_wp2_with fail
    refine LV.mono ?_
    rintro e w1 ⟨rfl, q1⟩
    have Q1 := Lib.hid q1
    have q0 : Qt w1 (w1.alloc (.cells #[] 36)) := (Qt.refl w1).alloc _
    have NW1 := rows_newsO (HR.out.turn (Qt.trans q1 q0))
    have hb1 : 0 + rows.length ≤ maxLen := by have := HL.out; unfold maxLen; omega
    have hb2 : (0 + rows.length) * 32 ≤ 140737488355328 := by have := HL.out; omega
    have Q0 := Lib.hid q0
    clear q1 LV q0
    go_wp2_with (at_builtin; refine wpList_append_rows _ rfl _ _ 22 rfl 36 i0 (.agg #[.string ⟨#[]⟩, .string ⟨#[]⟩]) 2 32 Try.underlying22 hi0 hz0 hz1 hz2 rfl (by decide) _ 0 (rowsC []) rfl (row_new0S w1) _ rows.length _ (rowsC rows) rfl (rowsC_length rows) NW1 (rowsC_one' rows) hb1 hb2 ?_)
    intro v1 x1 own1 gr1 la1
    obtain ⟨ownA, q2, new1⟩ := own_more (W := w1) (l := []) (k := rows) (fun g e => by injection e with e; subst e; exact Nat.le_refl _) Q0.out (by simp) (by rw [rowsC_append]) own1 gr1 la1
    rw [List.nil_append] at ownA
    clear own1 hb1 hb2 NW1 gr1 la1
    obtain ⟨a1, c1, rfl⟩ := ownR_shape ownA
    have OW := Lib.hid (fun o => (show (x1.alloc o).ownsRow 0 36 2 (.slice a1 rows.length c1) rows.length (rowsC rows) from ownsRow_kept ownA ((Keeps.refl (fun _ => False) x1).alloc o) (fun _ _ e => e)))
    have hb1 : rows.length + 1 ≤ maxLen := by have := HL.out; unfold maxLen; omega
    have hb2 : (rows.length + 1) * 32 ≤ 140737488355328 := by have := HL.out; omega
    have Q2 := Lib.hid q2
    have NEW1 := Lib.hid new1
    clear ownA q2 new1
    go_wp2_with (at_builtin; refine wpList_append_rows _ rfl _ _ 22 rfl 36 i0 (.agg #[.string ⟨#[]⟩, .string ⟨#[]⟩]) 2 32 Try.underlying22 hi0 hz0 hz1 hz2 rfl (by decide) _ rows.length (rowsC rows) rfl (OW.out _) (some ⟨x1.heap.size, 0, none⟩) 1 1 [.string ⟨#[115, 112, 97, 114, 101]⟩, .string ⟨#[114, 111, 111, 109]⟩] rfl rfl (fun _ => ⟨_, rfl, news2 _ _ _ _⟩) (by intro y hy; simp at hy; rcases hy with rfl | rfl <;> rfl) hb1 hb2 ?_)
    intro v2 x2 own2 gr2 la2
    obtain ⟨gm, cm, rfl⟩ := ownsRow_succ own2
    have own2 : x2.ownsRow 0 36 2 (.slice (some ⟨gm, 0, none⟩) (rows.length + 1) cm) (rows.length + 1) (rowsC (rows ++ [spR])) := by rw [rowsC_append]; exact own2
    obtain ⟨nx, q3, new2⟩ := own_more (W := w1) (l := rows) (k := [spR]) NEW1.out (Qt.trans Q2.out ((Qt.refl x1).alloc _)) (by simp) rfl own2 gr2 la2
    clear nx
    have GM := Lib.hid (show w1.heap.size ≤ gm from new2 gm rfl)
    have OM := Lib.hid own2
    have Q3 := Lib.hid (Qt.trans Q1.out q3)
    obtain ⟨hcm, nx⟩ := ownR_cap own2
    clear nx
    have SM := fun W => sliceR_h (.inr ⟨gm, rfl⟩) (rows.length + 1) cm rows.length (Nat.le_of_succ_le hcm) W
    have RM := Lib.hid (own_take (l := rows) (k := [spR]) own2 (by have := HL.out; omega) cm)
    have OF := tk_of H Q3.out RM.out HB.out HTX.out HNR.out
    clear own2 gr2 la2 q3 new2 hcm hb1 hb2
    go_wp2_with fail
    refine OF.mono ?_
    rintro e x3 ⟨b, rfl, t3, q3⟩
    have T3 := Lib.hid (t3.more (P2 := fun k => k = gm) (fun k e => .inl (by rw [e]; exact ownsRow_lt OM.out rfl)))
    have O3 := Lib.hid (ownsRow_kept OM.out q3 (fun _ _ e => e))
    have R3 := Lib.hid (HR.out.turn (Qt.trans Q3.out q3))
    have SS := same11_yes (RM.out.turn q3) R3.out
    clear t3 q3 OF SM
    go_wp2_with fail
    refine SS.mono ?_
    rintro e x4 ⟨rfl, q4⟩
    have T4 := Lib.hid (T3.out.qt q4)
    have O4 := Lib.hid (ownsRow_kept O3.out q4 (fun _ _ e => e))
    have R4 := Lib.hid (R3.out.turn q4)
    have hsp := ownR_cell (l := rows ++ [spR]) (by have h := O4.out; rw [show (rows ++ [spR]).length = rows.length + 1 by simp]; exact h) (k := rows.length) (r := spR) (by simp)
    obtain ⟨g', e, t1, t2⟩ := hsp
    injection e with e
    injection e with e
    subst e
    have s1 : x4.cell? ⟨gm, rows.length * 2, none⟩ = some (.string ⟨#[115, 112, 97, 114, 101]⟩) := t1
    have s2 : x4.cell? ⟨gm, rows.length * 2 + 1, none⟩ = some (.string ⟨#[114, 111, 111, 109]⟩) := t2
    clear t1 t2
    have k0 : (0 : Int) ≤ (rows.length : Int) := by omega
    have k1 : (rows.length : Int) < (rows.length : Int) + 1 := by omega
    have n1 : ∀ W, (binOp .neq 36 (.agg #[.string ⟨#[115, 112, 97, 114, 101]⟩, .string ⟨#[114, 111, 111, 109]⟩]) (.agg #[.string ⟨#[115, 112, 97, 114, 101]⟩, .string ⟨#[114, 111, 111, 109]⟩])).run Try.prog W = .ok (.bool false) W := fun W => run_neq_row spR spR W
    have RO := refOf_any x4 R4.out (by have := HL.out; omega)
    clear q4 SS
    go_wp2_with fail
    refine RO.mono ?_
    rintro e x5 ⟨vw, rfl, NW⟩
    obtain ⟨aw, cw, rfl⟩ := ownR_shape NW.own
    have WNEW := Lib.hid NW.new
    have WOWN := Lib.hid NW.own
    have Q45 := Lib.hid NW.qt
    have GX := Lib.hid (show gm < x4.heap.size from ownsRow_lt O4.out rfl)
    have T5 := Lib.hid ((T4.out.more (P2 := fun k => k = gm ∨ (Value.slice aw (Tb.ofL rows).length cw).ownBlock = some k) (fun k e => by
      rcases e with e | e
      · exact .inl e
      · exact .inr (NW.new k e))).qt NW.qt)
    have O5 := Lib.hid (ownsRow_kept O4.out NW.qt (fun _ _ e => e))
    have START := Lib.hid (show MvAt x5 (.slice (some ⟨gm, 0, none⟩) (rows.length + 1) cm) (rows.length + 1) ovR rows [spR] (.int .i64 0) x5 from ⟨0, Nat.zero_le _, rfl, by rw [mixR_zero]; exact O5.out, Keeps.refl _ _⟩)
    have LB := Lib.hid (show (Tb.ofL rows).length ≤ 1000 from Nat.le_trans (Tb.ofL_length rows) HL.out)
    clear NW RO s1 s2 n1 k1
    generalize hl : Tb.ofL rows = l at *
    have HOF := Lib.hid hl
    clear hl
    have ft := fun W => fieldT aw l.length cw W
    go_wp2
    clear ft
    go_loopw [58] (fun iv wr => MvAt x5 (.slice (some ⟨gm, 0, none⟩) (rows.length + 1) cm) (rows.length + 1) ovR rows [spR] iv wr) (fun iv _ => rows.length - (intOf iv).toNat)
    case atStart => exact START.out
    case round =>
      obtain ⟨i, hi, rfl, ho, hK⟩ := hrel
      by_cases hlt : i < rows.length
      · have zlt := ct_lt hlt
        have zlt' : decide (i < rows.length) = true := decide_eq_true hlt
        obtain ⟨b0, b1, _, _⟩ := ct_in hlt
        have hw1 := ct_w1 (k := i) (by have := HL.out; omega)
        have HM := Lib.hid (ct_meas hlt)
        obtain ⟨u1, y1, f1⟩ := own_cell ho (j := i * 2) (by omega)
        obtain ⟨u2, y2, f2⟩ := own_cell ho (j := i * 2 + 1) (by omega)
        have FN := Lib.hid (show MvAt x5 (.slice (some ⟨gm, 0, none⟩) (rows.length + 1) cm) (rows.length + 1) ovR rows [spR] (.int .i64 ((i : Int) + 1)) ((wr.setCell ⟨gm, i * 2, none⟩ (.string ⟨#[111, 118, 101, 114]⟩)).setCell ⟨gm, i * 2 + 1, none⟩ (.string ⟨#[119, 114, 105, 116, 116, 101, 110]⟩)) from mv_more hlt ho hK)
        clear hi ho hK hlt
        go_wp2
        first | exact ⟨FN.out, HM.out⟩ | (rw [hw1]; exact ⟨FN.out, HM.out⟩)
      · obtain rfl : i = rows.length := by omega
        have zlt : decide ((rows.length : Int) < (rows.length : Int)) = false := decide_eq_false (by omega)
        have zlt' : decide (rows.length < rows.length) = false := decide_eq_false (by omega)
        obtain ⟨y0, hy0⟩ : ∃ W : World, W = wr := ⟨_, rfl⟩
        subst hy0
        rw [mixR_all] at ho
        have hgmw : w.heap.size ≤ gm := Nat.le_trans Q1.out.size GM.out
        have T6 := Lib.hid (T5.out.turn (fun k e => by
          rcases e with e | e
          · omega
          · have := WNEW.out k e; have := GX.out; omega) (hK.mono (fun k _ e => .inl (by injection e with e; exact e.symm))))
        have OM6 := Lib.hid ho
        have OW6 := Lib.hid (ownsRow_kept WOWN.out hK (fun k e1 e2 => by have := WNEW.out k e1; have := GX.out; have e3 : gm = k := Option.some.inj e2; omega))
        have WLT := Lib.hid (show ∀ k, (Value.slice aw l.length cw).ownBlock = some k → k < x5.heap.size from fun k e => ownsRow_lt WOWN.out e)
        have Z56 := Lib.hid hK.size
        have hP6 : ∀ k, (k = gm ∨ (Value.slice aw l.length cw).ownBlock = some k) → k < y0.heap.size := fun k e => by
          rcases e with e | e
          · rw [e]; exact ownsRow_lt OM6.out rfl
          · exact ownsRow_lt OW6.out e
        have RA := tk_rows hP6 T6.out
        clear hi ho hK hlt START hgmw O3 O4 O5 T3 T4 T5 own2
        go_wp2_with fail
        refine RA.mono ?_
        rintro e y1 ⟨va, rfl, oa, na, ta, ka⟩
        obtain ⟨aa, ac, rfl⟩ := ownR_shape oa
        have OM7 := Lib.hid (ownsRow_kept OM6.out ka (fun k e1 e2 => e2.2 (.inl (by injection e1 with e1; exact e1.symm))))
        have OW7 := Lib.hid (ownsRow_kept OW6.out ka (fun k e1 e2 => e2.2 (.inr e1)))
        have OA7 := Lib.hid oa
        have NA := Lib.hid na
        have Z67 := Lib.hid ka.size
        have T7 := Lib.hid ta
        have hP7 : ∀ k, ((k = gm ∨ (Value.slice aw l.length cw).ownBlock = some k) ∨ (Value.slice aa l.length ac).ownBlock = some k) → k < y1.heap.size := fun k e => by
          rcases e with (e | e) | e
          · rw [e]; exact ownsRow_lt OM7.out rfl
          · exact ownsRow_lt OW7.out e
          · exact ownsRow_lt OA7.out e
        have RB := tk_rows hP7 T7.out
        clear RA oa na ta ka hP6 hP7 T6 OM6 OW6
        go_wp2_with fail
        refine RB.mono ?_
        rintro e y2 ⟨vb, rfl, ob, nb, tb, kb⟩
        obtain ⟨ab, bc, rfl⟩ := ownR_shape ob
        have OM8 := Lib.hid (ownsRow_kept OM7.out kb (fun k e1 e2 => e2.2 (.inl (.inl (by injection e1 with e1; exact e1.symm)))))
        have OW8 := Lib.hid (ownsRow_kept OW7.out kb (fun k e1 e2 => e2.2 (.inl (.inr e1))))
        have OA8 := Lib.hid (ownsRow_kept OA7.out kb (fun k e1 e2 => e2.2 (.inr e1)))
        have OB8 := Lib.hid ob
        have ALT := Lib.hid (show ∀ k, (Value.slice aa l.length ac).ownBlock = some k → k < y1.heap.size from fun k e => ownsRow_lt OA7.out e)
        have NB := Lib.hid nb
        have Z78 := Lib.hid kb.size
        have T8 := Lib.hid tb
        clear RB ob nb tb kb T7 OM7 OW7 OA7
        obtain ⟨gW, rW, nx⟩ := ownR_rows OW8.out (by have := LB.out; omega)
        clear nx
        obtain ⟨gA, rA, nx⟩ := ownR_rows OA8.out (by have := LB.out; omega)
        clear nx
        obtain ⟨gB, rB, nx⟩ := ownR_rows OB8.out (by have := LB.out; omega)
        clear nx
        have RW := Lib.hid rW
        have RBB := Lib.hid rB
        have S1 := same11_yes rA rW
        clear rW rA rB
        go_wp2_with fail
        refine S1.mono ?_
        rintro e y3 ⟨rfl, q1⟩
        have Q23 := Lib.hid q1
        have S2 := same11_yes (RBB.out.turn q1) (RW.out.turn q1)
        clear q1 S1
        go_wp2_with fail
        refine S2.mono ?_
        rintro e y4 ⟨rfl, q2⟩
        have Q24 := Lib.hid (Qt.trans Q23.out q2)
        clear q2 S2
        have T9 := Lib.hid (T8.out.qt Q24.out)
        have OM9 := Lib.hid (ownsRow_kept OM8.out Q24.out (fun _ _ e => e))
        have OW9 := Lib.hid (ownsRow_kept OW8.out Q24.out (fun _ _ e => e))
        have OA9 := Lib.hid (ownsRow_kept OA8.out Q24.out (fun _ _ e => e))
        have OB9 := Lib.hid (ownsRow_kept OB8.out Q24.out (fun _ _ e => e))
        have START2 := Lib.hid (show MvAt y4 (.slice aa l.length ac) l.length mkR l [] (.int .i64 0) y4 from ⟨0, Nat.zero_le _, rfl, by rw [mixR_zero, List.append_nil]; exact OA9.out, Keeps.refl _ _⟩)
        clear T8 OM8 OW8 OA8 OB8 RW RBB Q23
        go_wp2
        go_loopw [82] (fun iv wr => MvAt y4 (.slice aa l.length ac) l.length mkR l [] iv wr) (fun iv _ => l.length - (intOf iv).toNat)
        case atStart => exact START2.out
        case round =>
          obtain ⟨i, hi, rfl, ho, hK⟩ := hrel
          by_cases hlt : i < l.length
          · have zlt := ct_lt hlt
            have zlt' : decide (i < l.length) = true := decide_eq_true hlt
            obtain ⟨b0, b1, _, _⟩ := ct_in hlt
            have hw1 := ct_w1 (k := i) (by have := LB.out; omega)
            have HM := Lib.hid (ct_meas hlt)
            obtain ⟨_, hsome⟩ := ownR_cap ho
            obtain ⟨ga, rfl⟩ : ∃ ga, aa = some ⟨ga, 0, none⟩ := by
              rcases hsome with e | e
              · subst e
                rcases ho.2 with ⟨_, h0⟩ | ⟨_, _, _, e, _⟩
                · omega
                · cases e
              · exact e
            obtain ⟨u1, y1', f1⟩ := own_cell ho (j := i * 2) (by omega)
            obtain ⟨u2, y2', f2⟩ := own_cell ho (j := i * 2 + 1) (by omega)
            have FN := Lib.hid (show MvAt y4 (.slice (some ⟨ga, 0, none⟩) l.length ac) l.length mkR l [] (.int .i64 ((i : Int) + 1)) ((wr.setCell ⟨ga, i * 2, none⟩ (.string ⟨#[109, 97, 114, 107]⟩)).setCell ⟨ga, i * 2 + 1, none⟩ (.string ⟨#[109, 97, 114, 107]⟩)) from mv_more hlt ho hK)
            clear hi ho hK hlt hsome
            go_wp2
            first | exact ⟨FN.out, HM.out⟩ | (rw [hw1]; exact ⟨FN.out, HM.out⟩)
          · obtain rfl : i = l.length := by omega
            have zlt : decide ((l.length : Int) < (l.length : Int)) = false := decide_eq_false (by omega)
            have zlt' : decide (l.length < l.length) = false := decide_eq_false (by omega)
            obtain ⟨u0, hu0⟩ : ∃ W : World, W = wr := ⟨_, rfl⟩
            subst hu0
            rw [mixR_all, List.append_nil] at ho
            have hgA : ∀ k, (Value.slice aa l.length ac).ownBlock = some k → y0.heap.size ≤ k := NA.out
            have hgmy : gm < y0.heap.size := by have := GX.out; have := Q45.out.size; have := Z56.out; omega
            have T10 := Lib.hid (T9.out.turn (fun k e => by
              rcases e with ((e | e) | e) | e
              · have := GM.out; have := Q1.out.size; omega
              · have := WNEW.out k e; have := GX.out; have := GM.out; have := Q1.out.size; omega
              · have := hgA k e; have := GM.out; have := Q1.out.size; omega
              · have := NB.out k e; have := Z67.out; have := GM.out; have := Q1.out.size; omega) (hK.mono (fun k _ e => .inl (.inr e))))
            have OM10 := Lib.hid (ownsRow_kept OM9.out hK (fun k e1 e2 => by have := hgA k e2; have e3 : gm = k := Option.some.inj e1; omega))
            have OW10 := Lib.hid (ownsRow_kept OW9.out hK (fun k e1 e2 => by have := hgA k e2; have := WLT.out k e1; have := Z56.out; omega))
            have OB10 := Lib.hid (ownsRow_kept OB9.out hK (fun k e1 e2 => by have := NB.out k e1; have := ALT.out k e2; omega))
            have OA10 := Lib.hid (show u0.ownsRow 0 36 2 (.slice aa l.length ac) (List.replicate l.length mkR).length (rowsC (List.replicate l.length mkR)) from by rw [List.length_replicate]; exact ho)
            obtain ⟨ga, rA, nx⟩ := ownR_rows OA10.out (by rw [List.length_replicate]; have := LB.out; omega)
            clear nx
            have RA := Lib.hid rA
            obtain ⟨mk, hmk⟩ : ∃ mk, List.replicate l.length mkR = mk := ⟨_, rfl⟩
            have HMK := Lib.hid hmk
            have hml : mk.length = l.length := by rw [← hmk, List.length_replicate]
            rw [hmk] at OA10 RA
            rw [← hml] at OA10 RA
            have ZV := Lib.hid (show y1.heap.size ≤ u0.heap.size from Nat.le_trans Z78.out (Nat.le_trans Q24.out.size hK.size))
            have START3 := Lib.hid (show GwAt u0 (.slice aa mk.length ac) ga mk (.slice aa mk.length ac) u0 from ⟨0, [], by decide, ⟨aa, ac, rfl⟩, by rw [List.append_nil]; exact OA10.out, fun g e => .inl e, RA.out, Keeps.refl _ _⟩)
            have HML := Lib.hid hml
            have hw70 : wrap64 ((l.length : Int) + 70) = (l.length : Int) + 70 := by have := LB.out; unfold wrap64; omega
            clear hi ho hK hlt START2 hgA hgmy rA hmk T9 OM9 OW9 OB9 OA9
            rw [hml] at START3
            clear hml
            go_wp2
            go_loopw [12] (fun gv wr => GwAt u0 (.slice aa l.length ac) ga mk gv wr) (fun gv _ => (l.length + 70) - lenV gv)
            case atStart => exact START3.out
            case round =>
              obtain ⟨jj, ys, hj, ⟨a3, c3, rfl⟩, ho, hg, hR, hK⟩ := hrel
              rw [HML.out]
              by_cases hlt : jj < 70
              · have zlt : decide ((l.length : Int) + (jj : Int) < (l.length : Int) + 70) = true := decide_eq_true (by omega)
                have zlt2 : decide (((l.length + jj : Nat) : Int) < (l.length : Int) + 70) = true := decide_eq_true (by omega)
                have zlt3 : decide (l.length + jj < l.length + 70) = true := decide_eq_true (by omega)
                have zlt4 : decide ((jj : Int) < 70) = true := decide_eq_true (by omega)
                have zlt5 : decide (jj < 70) = true := decide_eq_true hlt
                rw [HML.out] at ho
                have hb1 : l.length + jj + 1 ≤ maxLen := by have := LB.out; unfold maxLen; omega
                have hb2 : (l.length + jj + 1) * 32 ≤ 140737488355328 := by have := LB.out; omega
                have OWG := Lib.hid (fun o => (show (wr.alloc o).ownsRow 0 36 2 (.slice a3 (l.length + jj) c3) (l.length + jj) (rowsC mk ++ ys) from ownsRow_kept ho ((Keeps.refl (fun _ => False) wr).alloc o) (fun _ _ e => e)))
                have FNH := Lib.hid (fun (w7 : World) (v' : Value) (o : Obj) (news : List Value) (h1 : w7.ownsRow 0 36 2 v' (mk.length + jj + 1) ((rowsC mk ++ ys) ++ news)) h2 => (show GwAt u0 (.slice aa l.length ac) ga mk v' w7 from gw_more (gv := .slice a3 (l.length + jj) c3) (o := o) hlt (fun g e => hg g (by cases a3 <;> exact e)) hR hK h1 h2))
                have HME := Lib.hid (show l.length + 70 - (l.length + jj + 1) < l.length + 70 - (l.length + jj) by omega)
                clear hj ho hg hR hK hlt
                go_wp2_with (at_builtin; refine wpList_append_cells1 _ rfl _ _ 22 rfl 36 i0 (.agg #[.string ⟨#[]⟩, .string ⟨#[]⟩]) 2 32 Try.underlying22 hi0 hz0 hz1 hz2 rfl (by decide) _ (l.length + jj) _ rfl (OWG.out _) ⟨wr.heap.size, 0, none⟩ 1 1 [.string ⟨#[103, 114, 111, 119, 110]⟩, .string ⟨#[]⟩] rfl rfl (news2 _ _ _ _) (by intro y hy; simp at hy; rcases hy with rfl | rfl <;> rfl) hb1 hb2 ?_; intro v4 w7 own7 h7; have FN := Lib.hid (FNH.out w7 v4 _ _ (by rw [HML.out]; exact own7) h7); obtain ⟨g4, c4, rfl⟩ := ownsRow_succ own7; clear own7 h7)
                exact ⟨FN.out, HME.out⟩
              · obtain rfl : jj = 70 := by omega
                have zlt : decide ((l.length : Int) + 70 < (l.length : Int) + 70) = false := decide_eq_false (by omega)
                have zlt2 : decide (((l.length + 70 : Nat) : Int) < (l.length : Int) + 70) = false := decide_eq_false (by omega)
                obtain ⟨u1, hu1⟩ : ∃ W : World, W = wr := ⟨_, rfl⟩
                subst hu1
                have RA1 := Lib.hid hR
                have hgA : ∀ k, (Value.slice aa l.length ac).ownBlock = some k → y0.heap.size ≤ k := NA.out
                have hgmy : gm < y0.heap.size := by have := GX.out; have := Q45.out.size; have := Z56.out; omega
                have T11 := Lib.hid (T10.out.turn (fun k e => by
                  rcases e with ((e | e) | e) | e
                  · have := GM.out; have := Q1.out.size; omega
                  · have := WNEW.out k e; have := GX.out; have := GM.out; have := Q1.out.size; omega
                  · have := hgA k e; have := GM.out; have := Q1.out.size; omega
                  · have := NB.out k e; have := Z67.out; have := GM.out; have := Q1.out.size; omega) (hK.mono (fun k _ e => .inl (.inr e))))
                have OM11 := Lib.hid (ownsRow_kept OM10.out hK (fun k e1 e2 => by have := hgA k e2; have e3 : gm = k := Option.some.inj e1; omega))
                have OW11 := Lib.hid (ownsRow_kept OW10.out hK (fun k e1 e2 => by have := hgA k e2; have := WLT.out k e1; have := Z56.out; omega))
                have OB11 := Lib.hid (ownsRow_kept OB10.out hK (fun k e1 e2 => by have := NB.out k e1; have := ALT.out k e2; omega))
                have ZU0 := Lib.hid (show y1.heap.size ≤ u1.heap.size from Nat.le_trans ZV.out hK.size)
                have START4 := Lib.hid (show KyAt u1 l.length (.int .i64 0) u1 from ⟨0, Nat.zero_le _, rfl, Qt.refl _⟩)
                clear hj ho hg hR hK hlt START3 hgA hgmy T10 OM10 OW10 OB10 OA10
                go_wp2
                go_loopw [103] (fun iv wr => KyAt u1 l.length iv wr) (fun iv _ => l.length - (intOf iv).toNat)
                case atStart => exact START4.out
                case round =>
                  obtain ⟨i, hi, rfl, q⟩ := hrel
                  by_cases hlt : i < l.length
                  · have zlt := ct_lt hlt
                    have zlt' : decide (i < l.length) = true := decide_eq_true hlt
                    obtain ⟨b0, b1, nx1, nx2⟩ := ct_in hlt
                    have hw1 := ct_w1 (k := i) (by have := LB.out; omega)
                    have HM := Lib.hid (ct_meas hlt)
                    have hmi : mk[i]? = some mkR := by rw [← HMK.out, List.getElem?_replicate, if_pos hlt]
                    obtain ⟨r', c0, hri, e0⟩ := RA1.out.elem (k := i) (by rw [HML.out]; exact hlt)
                    injection e0 with e0 q1 q2
                    clear q1 q2
                    subst e0
                    obtain ⟨xx1, nx3⟩ := RA1.out.cell hmi
                    rw [Nat.zero_add] at xx1
                    have xx : wr.cell? ⟨ga, i * 2, none⟩ = some (.string ⟨#[109, 97, 114, 107]⟩) := q.cellv xx1
                    have FN := Lib.hid (show KyAt u1 l.length (.int .i64 ((i : Int) + 1)) wr from ⟨i + 1, hlt, by push_cast; rfl, q⟩)
                    clear hi q hlt nx1 nx2 nx3 hmi hri xx1
                    go_wp2
                    first | exact ⟨FN.out, HM.out⟩ | (rw [hw1]; exact ⟨FN.out, HM.out⟩)
                  · obtain rfl : i = l.length := by omega
                    have zlt : decide ((l.length : Int) < (l.length : Int)) = false := decide_eq_false (by omega)
                    have zlt' : decide (l.length < l.length) = false := decide_eq_false (by omega)
                    obtain ⟨u2, hu2⟩ : ∃ W : World, W = wr := ⟨_, rfl⟩
                    subst hu2
                    have T12 := Lib.hid (T11.out.qt q)
                    have OM12 := Lib.hid (ownsRow_kept OM11.out q (fun _ _ e => e))
                    have OW12 := Lib.hid (ownsRow_kept OW11.out q (fun _ _ e => e))
                    have OB12 := Lib.hid (ownsRow_kept OB11.out q (fun _ _ e => e))
                    have RM2 := own_take (l := List.replicate rows.length ovR) (k := [spR]) OM12.out (by rw [List.length_replicate]; have := HL.out; omega) cm
                    rw [List.length_replicate] at RM2
                    have ZU := Lib.hid (show y1.heap.size ≤ u2.heap.size from Nat.le_trans ZU0.out q.size)
                    have OF2 := H.of RM2 (by rw [Tb.bytes_rep]; have := HL.out; show rows.length * 11 ≤ _; omega) (fun r hr => by rw [(List.mem_replicate.1 hr).2]; decide) (by rw [List.length_replicate]; have := HL.out; omega)
                    clear hi hlt q START4 T11 OM11 OW11 OB11 RM2
                    go_wp2_with fail
                    refine OF2.mono ?_
                    rintro e u3 ⟨c, S, A, rfl, tu, an, qu⟩
                    have AL := Lib.hid (H.lt tu)
                    have AN := Lib.hid an
                    have TU := Lib.hid tu
                    have T13 := Lib.hid ((T12.out.more (P2 := fun k => (((k = gm ∨ (Value.slice aw l.length cw).ownBlock = some k) ∨ (Value.slice aa l.length ac).ownBlock = some k) ∨ (Value.slice ab l.length bc).ownBlock = some k) ∨ (u2.heap.size ≤ k ∧ k < u3.heap.size)) (fun k e => by
                      rcases e with e | e
                      · exact .inl e
                      · exact .inr e.1)).qt qu)
                    have OW13 := Lib.hid (ownsRow_kept OW12.out qu (fun _ _ e => e))
                    have OB13 := Lib.hid (ownsRow_kept OB12.out qu (fun _ _ e => e))
                    have PLT := Lib.hid (show ∀ k, ((((k = gm ∨ (Value.slice aw l.length cw).ownBlock = some k) ∨ (Value.slice aa l.length ac).ownBlock = some k) ∨ (Value.slice ab l.length bc).ownBlock = some k) ∨ (u2.heap.size ≤ k ∧ k < u3.heap.size)) → k < u3.heap.size from fun k e => by
                      have := qu.size
                      rcases e with (((e | e) | e) | e) | e
                      · have := ownsRow_lt (k := k) OM12.out (by rw [e]; rfl); omega
                      · have := ownsRow_lt OW12.out e; omega
                      · have := ALT.out k e; have := NB.out; have := ZU.out; omega
                      · have := ownsRow_lt OB12.out e; omega
                      · exact e.2)
                    obtain ⟨gW, rW, nx⟩ := ownR_rows OW13.out (by have := LB.out; omega)
                    clear nx
                    obtain ⟨gB, rB, nx⟩ := ownR_rows OB13.out (by have := LB.out; omega)
                    clear nx
                    have S3 := same11_yes rB rW
                    clear rW rB OF2 tu an qu T12 OW12 OB12
                    go_wp2_with fail
                    refine S3.mono ?_
                    rintro e u4 ⟨rfl, q⟩
                    have TU4 := Lib.hid (tabH_qt TU.out q)
                    have T14 := Lib.hid (T13.out.qt q)
                    have OW14 := Lib.hid (ownsRow_kept OW13.out q (fun _ _ e => e))
                    have RC := tk_rows (fun k e => Nat.lt_of_lt_of_le (PLT.out k e) q.size) T14.out
                    clear q S3
                    go_wp2_with fail
                    refine RC.mono ?_
                    rintro e u5 ⟨vr, rfl, orr, nr, tr, kr⟩
                    have TU5 := Lib.hid (H.kept TU4.out kr (fun k hk e => e.2 (.inr ⟨AN.out k hk, AL.out k hk⟩)))
                    have OW15 := Lib.hid (ownsRow_kept OW14.out kr (fun k e1 e2 => e2.2 (.inl (.inl (.inl (.inr e1))))))
                    obtain ⟨ar, cr, rfl⟩ := ownR_shape orr
                    obtain ⟨gW, rW, nx⟩ := ownR_rows OW15.out (by have := LB.out; omega)
                    clear nx
                    obtain ⟨gR, rR, nx⟩ := ownR_rows orr (by have := LB.out; omega)
                    clear nx
                    have S4 := same11_yes rR rW
                    have TR := Lib.hid tr
                    clear rW rR RC orr nr tr kr
                    go_wp2_with fail
                    refine S4.mono ?_
                    rintro e u6 ⟨rfl, q⟩
                    have LU := H.len (tabH_qt TU5.out q)
                    have FINQ := Lib.hid (TR.out.qt q).qt0
                    rw [show Tb.ofL (List.replicate rows.length ovR) = if rows.length = 0 then [] else [ovR] from Tb.ofL_same ovR.1 ovR.2 rows.length] at LU
                    clear q S4
                    by_cases hz : rows.length = 0
                    · rw [if_pos hz] at LU
                      rw [show (([] : List Tb.R).length : Int) = 0 from rfl] at LU
                      have zr : (rows.length : Int) = 0 := by omega
                      clear hz
                      go_wp2_with fail
                      refine LU.mono ?_
                      rintro e u7 ⟨rfl, q⟩
                      have FIN := Lib.hid (Qt.trans FINQ.out q)
                      clear q LU
                      go_wp2
                      go_ret
                      exact ⟨by simp, FIN.out⟩
                    · rw [if_neg hz] at LU
                      rw [show (([ovR] : List Tb.R).length : Int) = 1 from rfl] at LU
                      have zr : (1 : Int) ≤ (rows.length : Int) := by omega
                      clear hz
                      go_wp2_with fail
                      refine LU.mono ?_
                      rintro e u7 ⟨rfl, q⟩
                      have FIN := Lib.hid (Qt.trans FINQ.out q)
                      clear q LU
                      go_wp2
                      all_goals go_ret
                      all_goals refine ⟨?_, FIN.out⟩
                      all_goals first
                        | rfl
                        | (have h8 : (rows.length : Int) = 1 := by omega
                           show Ending.returned (Value.bool (1 == (rows.length : Int))) = _
                           rw [h8]; rfl)
end Go.Proofs.Ytadocleollndfaa
