/-
  The contract of remitlaw12.BatchNormals: it answers true.
-/
import Derived.Test.YtffjleceogablaaDoorBLives
import Derived.Test.YtffjleceogablaaDoorBMix
import Derived.Test.YtffjleceogablaaDoorBRefN
import Derived.Test.YtffjleceogablaaDoorBSame
namespace Go.Proofs.YtffjleceogablaaDoor
open Go.RowKit Go.WideShapes
set_option maxRecDepth 100000

def spoO (o : Bt.O) : Bt.O := ⟨o.del, [115, 112, 111, 105, 108, 116], o.val⟩
def kvO : Bt.O := ⟨false, [107], [118]⟩
def moreO : Bt.O := ⟨false, [109, 111, 114, 101], []⟩
set_option maxHeartbeats 12800000 in
theorem normals_any {ad : Nat → Addr} {g o : Nat} {v : Value} {ops : List Bt.O} (w : World) (hE : E2 ad w) (hr : OpsIn w v g o ops) (hb : (ops.length + 2) * 40 ≤ 140737488355328) (hk : ∀ o ∈ ops, o.key.length ≤ maxLen) :
    Calls Tryd.prog 3 #[v] w fun e w' => e = .returned (.bool true) ∧ Qt w w' := by
  have LV := lives12_any w hE
  have HR := Lib.hid hr
  have HB := Lib.hid hb
  have HK := Lib.hid hk
  obtain ⟨a, cap, rfl, ha⟩ := hr.val
  clear hr hb hk ha hE
  obtain ⟨i0, hi0, hz0, hz1, hz2⟩ := info_parts infoOp12
  go_enter Tryd.func3, Tryd.ntmps3
  go_wp2_with fail
  refine LV.mono ?_
  rintro e w1 ⟨rfl, q1⟩
  have Q1 := Lib.hid q1
  have SP := spare12_any w1 (recs_turn HR.out q1) (by have := HB.out; omega)
  clear LV q1
  go_wp2_with fail
  refine SP.mono ?_
  rintro e w2 ⟨gm, cm, rfl, hgm, own2, q2⟩
  have Q2 := Lib.hid (Qt.trans Q1.out q2)
  have HGM := Lib.hid (show w.heap.size ≤ gm by have := Q1.out.size; omega)
  have OM2 := Lib.hid own2
  have GM2 := Lib.hid (show gm < w2.heap.size from ownsRow_lt own2 rfl)
  have RM2 := Lib.hid (ownG_take opC_len (l := ops) (k := [spO, rmO]) own2 (by have := HB.out; omega) cm)
  have NA := normal12_any w2 RM2.out (by have := HB.out; omega) HK.out
  clear SP hgm own2 q2
  go_wp2_with fail
  refine NA.mono ?_
  rintro e w3 ⟨va, rfl, n3⟩
  have N3 := Lib.hid n3
  have NB := normal12_any w3 (recs_turn RM2.out n3.qt) (by have := HB.out; omega) HK.out
  clear NA n3
  go_wp2_with fail
  refine NB.mono ?_
  rintro e w4 ⟨vb, rfl, n4⟩
  have N4 := Lib.hid n4
  have Q4 := Lib.hid (Qt.trans (Qt.trans Q2.out N3.out.qt) n4.qt)
  have NR := rnormal12_any w4 (recs_turn HR.out Q4.out) (by have := HB.out; omega)
  clear NB n4
  go_wp2_with fail
  refine NR.mono ?_
  rintro e w5 ⟨vw, rfl, n5⟩
  have N5 := Lib.hid n5
  have Q5 := Lib.hid (Qt.trans Q4.out n5.qt)
  obtain ⟨nl, hnl⟩ : ∃ nl, Bt.normal ops = nl := ⟨_, rfl⟩
  rw [hnl] at N3 N4 N5
  have HNL := Lib.hid (show nl.length ≤ ops.length by rw [← hnl]; exact Bt.normal_length ops)
  have HNN := Lib.hid (show Bt.Norm nl by rw [← hnl]; exact Bt.normal_norm ops)
  have HNK := Lib.hid (show ∀ z ∈ nl, z.key.length ≤ maxLen from fun z hz => by
    rw [← hnl] at hz
    obtain ⟨p, hp, e⟩ := Bt.normal_mem hz
    rw [← e]
    exact HK.out p hp)
  clear NR n5 hnl
  have A5 := Lib.hid (fun W (q : Qt w5 W) => (show W.ownsRow 0 29 3 va nl.length (opsC nl) from ownsRow_kept N3.out.own (Qt.trans (Qt.trans N4.out.qt N5.out.qt) q) (fun _ _ e => e)))
  have B5 := Lib.hid (fun W (q : Qt w5 W) => (show W.ownsRow 0 29 3 vb nl.length (opsC nl) from ownsRow_kept N4.out.own (Qt.trans N5.out.qt q) (fun _ _ e => e)))
  have C5 := Lib.hid (fun W (q : Qt w5 W) => (show W.ownsRow 0 29 3 vw nl.length (opsC nl) from ownsRow_kept N5.out.own q (fun _ _ e => e)))
  have M5 := Lib.hid (fun W (q : Qt w5 W) => (show W.ownsRow 0 29 3 (.slice (some ⟨gm, 0, none⟩) (ops.length + 2) cm) (ops.length + 2) (opsC (ops ++ [spO, rmO])) from ownsRow_kept OM2.out (Qt.trans (Qt.trans (Qt.trans N3.out.qt N4.out.qt) N5.out.qt) q) (fun _ _ e => e)))
  have HA := Lib.hid (show ∀ k, va.ownBlock = some k → gm < k ∧ k < w3.heap.size ∧ w.heap.size ≤ k from fun k e => ⟨by have := N3.out.new k e; have := GM2.out; omega, ownsRow_lt N3.out.own e, by have := N3.out.new k e; have := Q2.out.size; omega⟩)
  have HBk := Lib.hid (show ∀ k, vb.ownBlock = some k → w3.heap.size ≤ k ∧ k < w4.heap.size from fun k e => ⟨N4.out.new k e, ownsRow_lt N4.out.own e⟩)
  have HCk := Lib.hid (show ∀ k, vw.ownBlock = some k → w4.heap.size ≤ k from fun k e => N5.out.new k e)
  have Z := Lib.hid (show w3.heap.size ≤ w4.heap.size ∧ w2.heap.size ≤ w3.heap.size ∧ w4.heap.size ≤ w5.heap.size from ⟨N4.out.qt.size, N3.out.qt.size, N5.out.qt.size⟩)
  have LE := Lib.hid (show nl.length ≤ 17592186044416 by have := HNL.out; have := HB.out; omega)
  obtain ⟨ga, ra⟩ := opsIn_own (A5.out w5 (Qt.refl _)) LE.out
  obtain ⟨gw, rw5⟩ := opsIn_own (C5.out w5 (Qt.refl _)) LE.out
  have S1 := sameO_yes ra rw5
  obtain ⟨aa, ac, rfl⟩ := ownG_shape (A5.out w5 (Qt.refl _))
  clear ra rw5 N3 N4 N5 OM2 RM2
  go_wp2_with fail
  refine S1.mono ?_
  rintro e w6 ⟨rfl, q6⟩
  obtain ⟨gb, rb⟩ := opsIn_own (B5.out w6 q6) LE.out
  obtain ⟨gw2, rw6⟩ := opsIn_own (C5.out w6 q6) LE.out
  have S2 := sameO_yes rb rw6
  have Q6 := Lib.hid q6
  clear S1 rb rw6 q6
  go_wp2_with fail
  refine S2.mono ?_
  rintro e w7 ⟨rfl, q7⟩
  have Q7 := Lib.hid (Qt.trans Q6.out q7)
  have KP := kept12_yes w7 (M5.out w7 Q7.out) (recs_turn HR.out (Qt.trans Q5.out Q7.out))
  clear S2 q7
  go_wp2_with fail
  refine KP.mono ?_
  rintro e w8 ⟨rfl, q8⟩
  have Q8 := Lib.hid (Qt.trans Q7.out q8)
  obtain ⟨gw3, rw8⟩ := opsIn_own (C5.out w8 Q8.out) LE.out
  have NW := normal12_any w8 rw8 (by have := HNL.out; have := HB.out; omega) HNK.out
  rw [HNN.out.same] at NW
  clear KP q8 rw8
  go_wp2_with fail
  refine NW.mono ?_
  rintro e w9 ⟨vn, rfl, n9⟩
  have Q9 := Lib.hid (Qt.trans Q8.out n9.qt)
  obtain ⟨gn, rn⟩ := opsIn_own n9.own LE.out
  obtain ⟨gw4, rw9⟩ := opsIn_own (C5.out w9 Q9.out) LE.out
  have S3 := sameO_yes rn rw9
  clear NW n9 rn rw9
  go_wp2_with fail
  refine S3.mono ?_
  rintro e y0 ⟨rfl, q10⟩
  have Q10 := Lib.hid (Qt.trans Q9.out q10)
  have START := Lib.hid (show MoAt spoO y0 (.slice aa nl.length ac) nl.length nl [] (.int .i64 0) y0 from ⟨0, Nat.zero_le _, rfl, by rw [mixO_zero, List.append_nil]; exact A5.out y0 Q10.out, Keeps.refl _ _⟩)
  clear S3 q10
  go_wp2
  go_loopw [49] (fun iv wr => MoAt spoO y0 (.slice aa nl.length ac) nl.length nl [] iv wr) (fun iv _ => nl.length - (intOf iv).toNat)
  case atStart => exact START.out
  case round =>
    obtain ⟨i, hi, rfl, ho, hK⟩ := hrel
    by_cases hlt : i < nl.length
    · have zlt : decide ((i : Int) < (nl.length : Int)) = true := decide_eq_true (by omega)
      have zlt' : decide (i < nl.length) = true := decide_eq_true hlt
      have k0 : (0 : Int) ≤ (i : Int) := by omega
      have k1 : (i : Int) < (nl.length : Int) := by omega
      have hw1 := pl_w1 (k := i) (by have := LE.out; omega)
      have HM := Lib.hid (pl_meas hlt)
      have hml := mixO_length spoO nl [] hi
      obtain ⟨ga, rfl⟩ := ownG_some ho (by omega)
      obtain ⟨z, hop⟩ : ∃ z, nl[i]? = some z := ⟨_, List.getElem?_eq_getElem hlt⟩
      have hmx := mixO_get spoO nl [] hop
      have y1 : wr.cell? ⟨ga, i * 3 + 1, none⟩ = some (strV z.key) := ownG_cell1 opC_len ho hmx (j := 1) rfl
      have f1 : wr.frozen? ⟨ga, i * 3 + 1, none⟩ = false := ownG_frozen ho _
      have FN := Lib.hid (mo_more (f := spoO) hop (own_set1 (j := 1) (u := .string ⟨#[115, 112, 111, 105, 108, 116]⟩) (y := spoO z) ho hmx (by decide) rfl) (keeps1 hK))
      clear hi ho hK hlt hml hop hmx
      go_wp2
      first | exact ⟨FN.out, HM.out⟩ | (rw [hw1]; exact ⟨FN.out, HM.out⟩)
    · obtain rfl : i = nl.length := by omega
      have zlt : decide ((nl.length : Int) < (nl.length : Int)) = false := decide_eq_false (by omega)
      have zlt' : decide (nl.length < nl.length) = false := decide_eq_false (by omega)
      obtain ⟨y1, hy1⟩ : ∃ W : World, W = wr := ⟨_, rfl⟩
      subst hy1
      rw [mixO_all, List.append_nil] at ho
      have KA := Lib.hid hK
      have OA := Lib.hid ho
      have OW := Lib.hid (fun o => (show (y1.alloc o).ownsRow 0 29 3 (.slice aa nl.length ac) nl.length (opsC (nl.map spoO)) from ownsRow_kept ho ((Keeps.refl (fun _ => False) y1).alloc o) (fun _ _ e => e)))
      have hb1 : nl.length + 1 ≤ maxLen := by have := HNL.out; have := HB.out; unfold maxLen; omega
      have hb2 : (nl.length + 1) * 40 ≤ 140737488355328 := by have := HNL.out; have := HB.out; omega
      clear hi ho hK hlt START
      go_wp2_with (at_builtin; refine wpList_append_rows _ rfl _ _ 22 rfl 29 i0 (.agg #[.bool false, .string ⟨#[]⟩, .string ⟨#[]⟩]) 3 40 Tryd.underlying22 hi0 hz0 hz1 hz2 rfl (by decide) _ nl.length (opsC (nl.map spoO)) rfl (OW.out _) (some ⟨y1.heap.size, 0, none⟩) 1 1 [.bool false, .string ⟨#[109, 111, 114, 101]⟩, .string ⟨#[]⟩] rfl rfl (fun _ => ⟨_, rfl, newsG _ _ _⟩) (by intro y hy; simp at hy; rcases hy with rfl | rfl | rfl <;> rfl) hb1 hb2 ?_)
      intro v9 z2 own9 gr9 la9
      obtain ⟨g9, c9, rfl⟩ := ownsRow_succ own9
      have K9 := Lib.hid (show Keeps (fun k => (Value.slice aa nl.length ac).ownBlock = some k) y0 z2 from Keeps.grown (KA.out.alloc _) gr9 (fun k _ e => e.symm))
      have OWN9 : z2.ownsRow 0 29 3 (.slice (some ⟨g9, 0, none⟩) (nl.length + 1) c9) (nl.length + 1) (opsC (nl.map spoO ++ [moreO])) := by rw [opsC_append]; exact own9
      have x9 : z2.cell? ⟨g9, nl.length * 3 + 1, none⟩ = some (.string ⟨#[109, 111, 114, 101]⟩) := ownG_cell1 opC_len (l := nl.map spoO ++ [moreO]) OWN9 (i := nl.length) (x := moreO) (by simp) (j := 1) rfl
      have H9 := Lib.hid (show w.heap.size ≤ g9 ∧ gm < g9 from by
        have h1 := Q5.out.size; have h2 := Q10.out.size; have h3 := KA.out.size; have h4 := GM2.out; have h5 := Z.out
        rcases la9 with e | ⟨z, e, hz⟩
        · have h6 := HA.out g9 e.symm
          exact ⟨h6.2.2, h6.1⟩
        · have e2 := Option.some.inj e; simp at hz e2; omega)
      have B9 := Lib.hid (show z2.ownsRow 0 29 3 vb nl.length (opsC nl) from ownsRow_kept (B5.out y0 Q10.out) K9.out (fun k e1 e2 => by have h1 := HA.out k e2; have h2 := HBk.out k e1; omega))
      have C9 := Lib.hid (show z2.ownsRow 0 29 3 vw nl.length (opsC nl) from ownsRow_kept (C5.out y0 Q10.out) K9.out (fun k e1 e2 => by have h1 := HA.out k e2; have h2 := HCk.out k e1; have h3 := Z.out; omega))
      have M9 := Lib.hid (show z2.ownsRow 0 29 3 (.slice (some ⟨gm, 0, none⟩) (ops.length + 2) cm) (ops.length + 2) (opsC (ops ++ [spO, rmO])) from ownsRow_kept (M5.out y0 Q10.out) K9.out (fun k e1 e2 => by have h1 := HA.out k e2; have e3 : gm = k := Option.some.inj e1; omega))
      have QW9 := Lib.hid (show Qt w z2 from Keeps.trans (Qt.trans Q5.out Q10.out) K9.out (fun k hk e => by have := HA.out k e; omega))
      obtain ⟨gb2, rb⟩ := opsIn_own B9.out LE.out
      obtain ⟨gw5, rw10⟩ := opsIn_own C9.out LE.out
      have S4 := sameO_yes rb rw10
      have X9 := Lib.hid x9
      clear own9 gr9 la9 OWN9 rb rw10 hb1 hb2 x9
      go_wp2_with fail
      refine S4.mono ?_
      rintro e z3 ⟨rfl, q11⟩
      have Q11 := Lib.hid q11
      have KP2 := kept12_yes z3 (ownsRow_kept M9.out q11 (fun _ _ e => e)) (recs_turn HR.out (Qt.trans QW9.out q11))
      clear S4 q11
      go_wp2_with fail
      refine KP2.mono ?_
      rintro e z4 ⟨rfl, q12⟩
      have Q12 := Lib.hid (Qt.trans Q11.out q12)
      have x9 := Q12.out.cellv X9.out
      have hwl : wrap64 (nl.length : Int) = (nl.length : Int) := by have := LE.out; unfold wrap64; omega
      have k0 : (0 : Int) ≤ (nl.length : Int) := by omega
      have k1 : (nl.length : Int) < (nl.length : Int) + 1 := by omega
      have START2 := Lib.hid (show MoAt (fun _ => kvO) z4 (.slice (some ⟨gm, 0, none⟩) (ops.length + 2) cm) (ops.length + 2) ops [spO, rmO] (.int .i64 0) z4 from ⟨0, Nat.zero_le _, rfl, by rw [mixO_zero]; exact ownsRow_kept M9.out Q12.out (fun _ _ e => e), Keeps.refl _ _⟩)
      clear KP2 q12
      go_wp2
      clear x9 hwl
      go_loopw [83] (fun iv wr => MoAt (fun _ => kvO) z4 (.slice (some ⟨gm, 0, none⟩) (ops.length + 2) cm) (ops.length + 2) ops [spO, rmO] iv wr) (fun iv _ => ops.length - (intOf iv).toNat)
      case atStart => exact START2.out
      case round =>
        obtain ⟨i, hi, rfl, ho, hK⟩ := hrel
        by_cases hlt : i < ops.length
        · have zlt : decide ((i : Int) < (ops.length : Int)) = true := decide_eq_true (by omega)
          have zlt' : decide (i < ops.length) = true := decide_eq_true hlt
          have k0 : (0 : Int) ≤ (i : Int) := by omega
          have k1 : (i : Int) < (ops.length : Int) := by omega
          have hw1 := pl_w1 (k := i) (by have := HB.out; omega)
          have HM := Lib.hid (pl_meas hlt)
          obtain ⟨z, hop⟩ : ∃ z, ops[i]? = some z := ⟨_, List.getElem?_eq_getElem hlt⟩
          have hmx := mixO_get (fun _ => kvO) ops [spO, rmO] hop
          have y1 : wr.cell? ⟨gm, i * 3, none⟩ = some (.bool z.del) := ownG_cell1 opC_len ho hmx (j := 0) rfl
          have y2 : wr.cell? ⟨gm, i * 3 + 1, none⟩ = some (strV z.key) := ownG_cell1 opC_len ho hmx (j := 1) rfl
          have y3 : wr.cell? ⟨gm, i * 3 + 2, none⟩ = some (strV z.val) := ownG_cell1 opC_len ho hmx (j := 2) rfl
          have f0 : wr.frozen? ⟨gm, i * 3, none⟩ = false := ownG_frozen ho _
          have f1 : wr.frozen? ⟨gm, i * 3 + 1, none⟩ = false := ownG_frozen ho _
          have f2 : wr.frozen? ⟨gm, i * 3 + 2, none⟩ = false := ownG_frozen ho _
          have FN := Lib.hid (mo_more (f := fun _ => kvO) hop (own_set3 (a := .bool false) (b := .string ⟨#[107]⟩) (d := .string ⟨#[118]⟩) ho hmx rfl rfl rfl) (keeps3 hK))
          clear hi ho hK hlt hop hmx
          go_wp2
          first | exact ⟨FN.out, HM.out⟩ | (rw [hw1]; exact ⟨FN.out, HM.out⟩)
        · obtain rfl : i = ops.length := by omega
          have zlt : decide ((ops.length : Int) < (ops.length : Int)) = false := decide_eq_false (by omega)
          have zlt' : decide (ops.length < ops.length) = false := decide_eq_false (by omega)
          obtain ⟨u0, hu0⟩ : ∃ W : World, W = wr := ⟨_, rfl⟩
          subst hu0
          rw [mixO_all, List.map_const'] at ho
          have KM := Lib.hid hK
          have RM := ownG_take opC_len (l := List.replicate ops.length kvO) (k := [spO, rmO]) ho (by rw [List.length_replicate]; have := HB.out; omega) cm
          rw [List.length_replicate] at RM
          have NC := normal12_any u0 RM (by rw [List.length_replicate]; have := HB.out; omega) (fun z hz => by rw [List.eq_of_mem_replicate hz]; decide)
          rw [Bt.normal_same] at NC
          have B10 := Lib.hid (show u0.ownsRow 0 29 3 vb nl.length (opsC nl) from ownsRow_kept (ownsRow_kept B9.out Q12.out (fun _ _ e => e)) hK (fun k e1 e2 => by have h2 := HBk.out k e1; have e3 : gm = k := Option.some.inj e2; have := GM2.out; have := Z.out; omega))
          have C10 := Lib.hid (show u0.ownsRow 0 29 3 vw nl.length (opsC nl) from ownsRow_kept (ownsRow_kept C9.out Q12.out (fun _ _ e => e)) hK (fun k e1 e2 => by have h2 := HCk.out k e1; have e3 : gm = k := Option.some.inj e2; have := GM2.out; have := Z.out; omega))
          have QU := Lib.hid (show Qt w u0 from Keeps.trans (Qt.trans QW9.out Q12.out) hK (fun k hk e => by have e3 : gm = k := Option.some.inj e; have := HGM.out; omega))
          clear hi ho hK hlt START2 RM
          go_wp2_with fail
          refine NC.mono ?_
          rintro e u1 ⟨vc, rfl, nc⟩
          obtain ⟨gb3, rb⟩ := opsIn_own (ownsRow_kept B10.out nc.qt (fun _ _ e => e)) LE.out
          obtain ⟨gw6, rw11⟩ := opsIn_own (ownsRow_kept C10.out nc.qt (fun _ _ e => e)) LE.out
          have S5 := sameO_yes rb rw11
          have NCH := Lib.hid nc
          clear rb rw11
          by_cases hz : ops.length = 0
          · rw [if_pos hz] at nc
            obtain ⟨ca, cc, rfl⟩ := ownG_shape nc.own
            have zr : (ops.length : Int) = 0 := by omega
            have hz' := hz
            clear nc NC
            go_wp2_with fail
            refine S5.mono ?_
            rintro e u2 ⟨rfl, q⟩
            have FIN := Lib.hid (Qt.trans (Qt.trans QU.out NCH.out.qt) q)
            clear q S5 hz hz'
            go_wp2
            go_ret
            exact ⟨rfl, FIN.out⟩
          · rw [if_neg hz, show Bt.clean kvO = kvO from rfl] at nc
            obtain ⟨ca, cc, rfl⟩ := ownG_shape nc.own
            have zr : ((ops.length : Int) == 0) = false := beq_eq_false_iff_ne.2 (by omega)
            have zr2 : (0 : Int) < (ops.length : Int) := by omega
            have NK := Lib.hid nc
            clear nc NC hz
            go_wp2_with fail
            refine S5.mono ?_
            rintro e u2 ⟨rfl, q⟩
            obtain ⟨gc, rc⟩ := opsIn_own (ownsRow_kept NK.out.own (Qt.trans q ((Qt.refl u2).alloc (.cells #[.bool false, .string ⟨#[107]⟩, .string ⟨#[118]⟩] 29))) (fun _ _ e => e)) (by decide)
            have S6 := sameO_yes rc (ops_lit u2 [kvO] (by decide) #[.bool false, .string ⟨#[107]⟩, .string ⟨#[118]⟩] rfl)
            have FQ := Lib.hid (Qt.trans (Qt.trans QU.out NCH.out.qt) q)
            clear q S5 rc
            go_wp2_with fail
            refine S6.mono ?_
            rintro e u3 ⟨rfl, q⟩
            have FIN := Lib.hid (Qt.trans (FQ.out.alloc _) q)
            clear q S6
            go_wp2
            go_ret
            exact ⟨rfl, FIN.out⟩
end Go.Proofs.YtffjleceogablaaDoor
