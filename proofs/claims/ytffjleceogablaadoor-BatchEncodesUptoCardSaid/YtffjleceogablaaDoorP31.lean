/-
  The contract of remitlaw12.BatchEncodes: it answers true.
  The contract of remitlaw12.BatchDecodes: it answers true.
-/
import Derived.Test.YtffjleceogablaaDoorP14
import Derived.Test.YtffjleceogablaaDoorP26
import Derived.Test.YtffjleceogablaaDoorP18
import Derived.Test.YtffjleceogablaaDoorP11
import Derived.Test.YtffjleceogablaaDoorP30
import Derived.Test.YtffjleceogablaaDoorP06
import Derived.LoopTactic
import Derived.Test.YtffjleceogablaaDoorP25
import Derived.Test.YtffjleceogablaaDoorP17
namespace Go.Proofs.YtffjleceogablaaDoor
open Go.RowKit Go.WideShapes
set_option maxRecDepth 100000

def othO (o : Bt.O) : Bt.O := ⟨false, o.key, [111, 116, 104, 101, 114]⟩
/-- The value's cell, then the mark's. -/
theorem own_set20 {wr : World} {g N c i : Nat} {l : List Bt.O} {x : Bt.O} (h : wr.ownsRow 0 29 3 (.slice (some ⟨g, 0, none⟩) N c) N (opsC l)) (hi : l[i]? = some x) :
    ((wr.setCell ⟨g, i * 3 + 2, none⟩ (.string ⟨#[111, 116, 104, 101, 114]⟩)).setCell ⟨g, i * 3, none⟩ (.bool false)).ownsRow 0 29 3 (.slice (some ⟨g, 0, none⟩) N c) N (opsC (l.set i (othO x))) := by
  have h1 := own_set1 (j := 2) (y := ⟨x.del, x.key, [111, 116, 104, 101, 114]⟩) (u := .string ⟨#[111, 116, 104, 101, 114]⟩) h hi (by decide) rfl
  have h2 := own_set1 (j := 0) (y := othO x) (u := .bool false) h1 (get_setO hi _) (by decide) rfl
  rw [set_setO] at h2
  exact h2
theorem keeps20 {W0 wr : World} {g N c i : Nat} {a b : Value} (K : Keeps (fun k => (Value.slice (some ⟨g, 0, none⟩) N c).ownBlock = some k) W0 wr) : Keeps (fun k => (Value.slice (some ⟨g, 0, none⟩) N c).ownBlock = some k) W0 ((wr.setCell ⟨g, i * 3 + 2, none⟩ a).setCell ⟨g, i * 3, none⟩ b) :=
  Keeps.setCell (p := ⟨g, i * 3, none⟩) (Keeps.setCell (p := ⟨g, i * 3 + 2, none⟩) K (fun _ => rfl) _) (fun _ => rfl) _
theorem Bt.encE_le (ops : List Bt.O) : Bt.encE ops ≤ 37 := by
  rcases Bt.encE_cases ops with h | h | h <;> omega
set_option maxHeartbeats 12800000 in
theorem encodes_any {ad : Nat → Addr} {g o : Nat} {v : Value} {ops : List Bt.O} (w : World) (hE : Errs ad w) (hr : OpsIn w v g o ops) (hb : Bt.wt ops ≤ 1048576) :
    Calls Tryd.prog 4 #[v] w fun e w' => e = .returned (.bool true) ∧ Qt w w' := by
  have LV := lives12_any w hE.e2
  have HL0 := Bt.wt_len ops
  have HB := Lib.hid (show ops.length ≤ 262144 by omega)
  have HE := Lib.hid hE
  have HR := Lib.hid hr
  have H1 := Lib.hid (Bt.encB_most HB.out (fun z hz => by have := Bt.wt_op hz; omega))
  have H2 := Lib.hid (show (Bt.encB (ops.map othO)).length ≤ 549762596864 from Bt.encB_most (by rw [List.length_map]; exact HB.out) (fun z hz => by
    obtain ⟨p, hp, rfl⟩ := List.mem_map.1 hz
    have := Bt.wt_op hp
    exact ⟨by show p.key.length ≤ _; omega, by show 5 ≤ _; omega⟩))
  obtain ⟨i0, hi0, hz0, hz1, hz2⟩ := info_parts infoOp12
  obtain ⟨a, cap, rfl, ha⟩ := hr.val
  have E1 := Lib.hid (Bt.encE_le ops)
  have E2' := Lib.hid (Bt.encE_le (ops.map othO))
  have NX := fun v g o w hr hE hc => encode12_any (ad := ad) (v := v) (g := g) (o := o) (ops := ops) w hr hE hc (by have := H1.out; omega)
  have RX := fun v g o w hr => rencode12_any (v := v) (g := g) (o := o) (ops := ops) w hr (by have := H1.out; omega)
  have NY := fun v g o w hr hE hc => encode12_any (ad := ad) (v := v) (g := g) (o := o) (ops := ops.map othO) w hr hE hc (by have := H2.out; omega)
  have RY := fun v g o w hr => rencode12_any (v := v) (g := g) (o := o) (ops := ops.map othO) w hr (by have := H2.out; omega)
  obtain ⟨s1, hs1⟩ : ∃ s1, strV (Bt.encT ops) = .string s1 := ⟨_, rfl⟩
  obtain ⟨s2, hs2⟩ : ∃ s2, strV (Bt.encT (ops.map othO)) = .string s2 := ⟨_, rfl⟩
  obtain ⟨e1, he1⟩ : ∃ e1, Bt.encE ops = e1 := ⟨_, rfl⟩
  obtain ⟨e2, he2⟩ : ∃ e2, Bt.encE (ops.map othO) = e2 := ⟨_, rfl⟩
  simp only [hs1, he1] at NX RX
  simp only [hs2, he2] at NY RY
  rw [he1] at E1
  rw [he2] at E2'
  have HNX := Lib.hid NX
  have HRX := Lib.hid RX
  have HNY := Lib.hid NY
  have HRY := Lib.hid RY
  clear hr ha hb hE HL0 NX RX NY RY hs1 hs2 he1 he2 H1 H2
  go_enter Tryd.func4, Tryd.ntmps4
  go_wp2_with fail
  refine LV.mono ?_
  rintro e w1 ⟨rfl, q1⟩
  have Q1 := Lib.hid q1
  have SP := spare12_any w1 (recs_turn HR.out q1) (by have := HB.out; omega)
  clear LV q1
  go_wp2_with fail
  refine SP.mono ?_
  rintro e w2 ⟨gm, cm, rfl, hgm, own2, q2⟩
  have Q2 := Lib.hid (Qt.trans Q1.out q2)
  have HGM := Lib.hid (show w.heap.size ≤ gm by have := Q1.out.size; omega)
  have OM2 := Lib.hid own2
  have CM := Lib.hid (show ops.length ≤ cm by have := (ownG_cap own2).1; omega)
  have GM2 := Lib.hid (show gm < w2.heap.size from ownsRow_lt own2 rfl)
  have RM2 := ownG_take opC_len (l := ops) (k := [spO, rmO]) own2 (by have := HB.out; omega) cm
  have EN := HNX.out _ _ _ w2 RM2 (HE.out.e2.qt Q2.out) (fun a n c e => by injection e with e1 e2 e3; subst e1 e2 e3; exact CM.out)
  clear SP hgm own2 q2 RM2
  go_wp2_with fail
  refine EN.mono ?_
  rintro e w3 ⟨rfl, q3⟩
  have Q3 := Lib.hid (Qt.trans Q2.out q3)
  have OM3 := Lib.hid (show w3.ownsRow 0 29 3 (.slice (some ⟨gm, 0, none⟩) (ops.length + 2) cm) (ops.length + 2) (opsC (ops ++ [spO, rmO])) from ownsRow_kept OM2.out q3 (fun _ _ e => e))
  have RE := HRX.out _ _ _ w3 (recs_turn HR.out Q3.out)
  clear EN q3
  go_wp2_with fail
  refine RE.mono ?_
  rintro e w4 ⟨rfl, q4⟩
  have Q4 := Lib.hid (Qt.trans Q3.out q4)
  have OM4 := Lib.hid (show w4.ownsRow 0 29 3 (.slice (some ⟨gm, 0, none⟩) (ops.length + 2) cm) (ops.length + 2) (opsC (ops ++ [spO, rmO])) from ownsRow_kept OM3.out q4 (fun _ _ e => e))
  have NU := num_any ad e1 w4 (HE.out.qt Q4.out) E1.out
  clear RE q4
  go_wp2_with fail
  refine NU.mono ?_
  rintro e w5 ⟨rfl, q5⟩
  have Q5 := Lib.hid (show Qt w w5 from Qt.trans Q4.out q5)
  have OM5 := Lib.hid (show w5.ownsRow 0 29 3 (.slice (some ⟨gm, 0, none⟩) (ops.length + 2) cm) (ops.length + 2) (opsC (ops ++ [spO, rmO])) from ownsRow_kept OM4.out q5 (fun _ _ e => by cases e))
  have KP := kept12_yes w5 OM5.out (recs_turn HR.out Q5.out)
  clear NU q5
  go_wp2_with fail
  refine KP.mono ?_
  rintro e w6 ⟨rfl, q6⟩
  have Q6 := Lib.hid (show Qt w w6 from Qt.trans Q5.out q6)
  have START := Lib.hid (show MoAt othO w6 (.slice (some ⟨gm, 0, none⟩) (ops.length + 2) cm) (ops.length + 2) ops [spO, rmO] (.int .i64 0) w6 from ⟨0, Nat.zero_le _, rfl, by rw [mixO_zero]; exact ownsRow_kept OM5.out q6 (fun _ _ e => e), Keeps.refl _ _⟩)
  clear KP q6
  go_wp2
  go_loopw [44] (fun iv wr => MoAt othO w6 (.slice (some ⟨gm, 0, none⟩) (ops.length + 2) cm) (ops.length + 2) ops [spO, rmO] iv wr) (fun iv _ => ops.length - (intOf iv).toNat)
  case atStart => exact START.out
  case round =>
    obtain ⟨i, hi, rfl, ho, hK⟩ := hrel
    by_cases hlt : i < ops.length
    · have zlt : decide ((i : Int) < (ops.length : Int)) = true := decide_eq_true (by omega)
      have zlt' : decide (i < ops.length) = true := decide_eq_true hlt
      have k0 : (0 : Int) ≤ (i : Int) := by omega
      have k1 : (i : Int) < (ops.length : Int) := by omega
      have hw1 := pl_w1 (k := i) (by have := HB.out; omega)
      have HM := Lib.hid (pl_meas hlt)
      obtain ⟨z, hop⟩ : ∃ z, ops[i]? = some z := ⟨_, List.getElem?_eq_getElem hlt⟩
      have hmx := mixO_get othO ops [spO, rmO] hop
      have y1 : wr.cell? ⟨gm, i * 3, none⟩ = some (.bool z.del) := ownG_cell1 opC_len ho hmx (j := 0) rfl
      have y3 : wr.cell? ⟨gm, i * 3 + 2, none⟩ = some (strV z.val) := ownG_cell1 opC_len ho hmx (j := 2) rfl
      have f0 : wr.frozen? ⟨gm, i * 3, none⟩ = false := ownG_frozen ho _
      have f2 : wr.frozen? ⟨gm, i * 3 + 2, none⟩ = false := ownG_frozen ho _
      have FN := Lib.hid (mo_more (f := othO) hop (own_set20 ho hmx) (keeps20 hK))
      clear hi ho hK hlt hop hmx
      go_wp2
      first | exact ⟨FN.out, HM.out⟩ | (rw [hw1]; exact ⟨FN.out, HM.out⟩)
    · obtain rfl : i = ops.length := by omega
      have zlt : decide ((ops.length : Int) < (ops.length : Int)) = false := decide_eq_false (by omega)
      have zlt' : decide (ops.length < ops.length) = false := decide_eq_false (by omega)
      obtain ⟨u0, hu0⟩ : ∃ W : World, W = wr := ⟨_, rfl⟩
      subst hu0
      rw [mixO_all] at ho
      obtain ⟨ol, hol⟩ : ∃ ol, ops.map othO = ol := ⟨_, rfl⟩
      have hll : ol.length = ops.length := by rw [← hol, List.length_map]
      rw [hol] at ho
      simp only [hol] at HNY HRY
      have HLL := Lib.hid hll
      have QU := Lib.hid (show Qt w u0 from Keeps.trans Q6.out hK (fun k hk e => by have e3 : gm = k := Option.some.inj e; have := HGM.out; omega))
      have RM := Lib.hid (show OpsIn u0 (.slice (some ⟨gm, 0, none⟩) ops.length cm) gm 0 ol by
        have h := ownG_take opC_len (l := ol) (k := [spO, rmO]) ho (by rw [hll]; have := HB.out; omega) cm
        rw [hll] at h; exact h)
      have EN2 := HNY.out _ _ _ u0 RM.out (HE.out.e2.qt QU.out) (fun a n c e => by injection e with e1 e2 e3; subst e1 e2 e3; exact CM.out)
      clear hi ho hK hlt START hol hll
      go_wp2_with fail
      refine EN2.mono ?_
      rintro e u1 ⟨rfl, q⟩
      have QU1 := Lib.hid (Qt.trans QU.out q)
      have RM1 := Lib.hid (show OpsIn u1 (.slice (some ⟨gm, 0, none⟩) ops.length cm) gm 0 ol from recs_turn RM.out q)
      have NW1 := recs_news opC_len (by decide) (recs_turn RM1.out ((Qt.refl u1).alloc (.cells #[] 29)))
      have hb1 : 0 + ops.length ≤ maxLen := by have := HB.out; unfold maxLen; omega
      have hb2 : (0 + ops.length) * 40 ≤ 140737488355328 := by have := HB.out; omega
      clear EN2 q
      go_wp2_with (at_builtin; refine wpList_append_rows _ rfl _ _ 22 rfl 29 i0 (.agg #[.bool false, .string ⟨#[]⟩, .string ⟨#[]⟩]) 3 40 Tryd.underlying22 hi0 hz0 hz1 hz2 rfl (by decide) _ 0 (opsC []) rfl (op_new0 u1) _ ops.length _ (opsC ol) rfl (by rw [← HLL.out]; exact opsC_length ol) NW1 (opsC_one' ol) hb1 hb2 ?_)
      intro v2 u2 own2 gr2 la2
      have NG := ownG_more (W := u1) (l := []) (k := ol) (fun g e => by injection e with e; subst e; exact Nat.le_refl _) ((Qt.refl u1).alloc _) (by simp [HLL.out]) (by rw [cellsG_append]) own2 gr2 la2
      rw [List.nil_append] at NG
      clear own2 hb1 hb2 NW1 gr2 la2
      have QU2 := Lib.hid (Qt.trans QU1.out NG.qt)
      obtain ⟨gc, RC⟩ := opsIn_own NG.own (by have := HLL.out; have := HB.out; omega)
      have RE2 := HRY.out _ _ _ u2 RC
      clear NG RC
      go_wp2_with fail
      refine RE2.mono ?_
      rintro e u3 ⟨rfl, q⟩
      have QU3 := Lib.hid (Qt.trans QU2.out q)
      have NU := num_any ad e2 u3 (HE.out.qt QU3.out) E2'.out
      clear RE2 q
      go_wp2_with fail
      refine NU.mono ?_
      rintro e u4 ⟨rfl, q⟩
      have FIN := Lib.hid (show Qt w u4 from Qt.trans QU3.out q)
      clear NU q
      go_wp2
      go_ret
      exact ⟨rfl, FIN.out⟩
end Go.Proofs.YtffjleceogablaaDoor
namespace Go.Proofs.YtffjleceogablaaDoor
open Go.RowKit Go.WideShapes
set_option maxRecDepth 100000

def spoD : Bt.O := ⟨false, [115, 112, 111, 105, 108, 116], []⟩
def moreD : Bt.O := ⟨false, [109, 111, 114, 101], []⟩
set_option maxHeartbeats 12800000 in
theorem decodes_any {ad : Nat → Addr} (s : ByteArray) (w : World) (hE : Errs ad w) (hb : s.size ≤ 1048576) :
    Calls Tryd.prog 5 #[.string s] w fun e w' => e = .returned (.bool true) ∧ Qt w w' := by
  have LV := lives12_any w hE.e2
  have HB := Lib.hid hb
  have HE := Lib.hid hE
  obtain ⟨i0, hi0, hz0, hz1, hz2⟩ := info_parts infoOp12
  have HL := Bt.decL_len s.data.toList
  have HN := Bt.decN_le s.data.toList
  have DX := fun w hE => decode12_one ad s w (by omega) hE
  have RX := fun w => rdecode12_one s w (by omega)
  obtain ⟨nl, hnl⟩ : ∃ nl, Bt.decL (Bt.decD s.data.toList) = nl := ⟨_, rfl⟩
  obtain ⟨er, her⟩ : ∃ er, Bt.decN (Bt.decD s.data.toList) = er := ⟨_, rfl⟩
  simp only [hnl, her] at DX RX
  rw [hnl] at HL
  rw [her] at HN
  have HD := Lib.hid DX
  have HX := Lib.hid RX
  have LE := Lib.hid (show nl.length ≤ 1048576 by rw [show s.data.toList.length = s.size from rfl] at HL; omega)
  have HN' := Lib.hid HN
  clear hb hE DX RX HL HN hnl her
  go_enter Tryd.func5, Tryd.ntmps5
  go_wp2_with fail
  refine LV.mono ?_
  rintro e w1 ⟨rfl, q1⟩
  have Q1 := Lib.hid q1
  have DA := HD.out w1 (HE.out.qt q1)
  clear LV q1
  go_wp2_with fail
  refine DA.mono ?_
  rintro e w2 ⟨va, rfl, n2⟩
  have N2 := Lib.hid n2
  have Q2 := Lib.hid (Qt.trans Q1.out n2.qt)
  have DB := HD.out w2 (HE.out.qt Q2.out)
  clear DA n2
  go_wp2_with fail
  refine DB.mono ?_
  rintro e w3 ⟨vb, rfl, n3⟩
  have N3 := Lib.hid n3
  have Q3 := Lib.hid (Qt.trans Q2.out n3.qt)
  have DR := HX.out w3
  clear DB n3
  go_wp2_with fail
  refine DR.mono ?_
  rintro e w4 ⟨vw, rfl, n4⟩
  have N4 := Lib.hid n4
  have Q4 := Lib.hid (Qt.trans Q3.out n4.qt)
  have A4 := Lib.hid (fun W (q : Qt w4 W) => (show W.ownsRow 0 29 3 va nl.length (opsC nl) from ownsRow_kept N2.out.own (Qt.trans (Qt.trans N3.out.qt N4.out.qt) q) (fun _ _ e => e)))
  have B4 := Lib.hid (fun W (q : Qt w4 W) => (show W.ownsRow 0 29 3 vb nl.length (opsC nl) from ownsRow_kept N3.out.own (Qt.trans N4.out.qt q) (fun _ _ e => e)))
  have C4 := Lib.hid (fun W (q : Qt w4 W) => (show W.ownsRow 0 29 3 vw nl.length (opsC nl) from ownsRow_kept N4.out.own q (fun _ _ e => e)))
  have HA := Lib.hid (show ∀ k, va.ownBlock = some k → k < w2.heap.size ∧ w.heap.size ≤ k from fun k e => ⟨ownsRow_lt N2.out.own e, by have := N2.out.new k e; have := Q1.out.size; omega⟩)
  have HBk := Lib.hid (show ∀ k, vb.ownBlock = some k → w2.heap.size ≤ k ∧ k < w3.heap.size from fun k e => ⟨N3.out.new k e, ownsRow_lt N3.out.own e⟩)
  have HCk := Lib.hid (show ∀ k, vw.ownBlock = some k → w3.heap.size ≤ k from fun k e => N4.out.new k e)
  have Z := Lib.hid (show w2.heap.size ≤ w3.heap.size ∧ w3.heap.size ≤ w4.heap.size from ⟨N3.out.qt.size, N4.out.qt.size⟩)
  obtain ⟨aa, ac, rfl⟩ := ownG_shape (A4.out w4 (Qt.refl _))
  have NU := num_any ad er w4 (HE.out.qt Q4.out) HN'.out
  clear DR n4 N2 N3 N4
  go_wp2_with fail
  refine NU.mono ?_
  rintro e w5 ⟨rfl, q5⟩
  have Q5 := Lib.hid (show Qt w4 w5 from q5)
  have NU2 := num_any ad er w5 (HE.out.qt (Qt.trans Q4.out Q5.out)) HN'.out
  clear NU q5
  go_wp2_with fail
  refine NU2.mono ?_
  rintro e w6 ⟨rfl, q6⟩
  have Q6 := Lib.hid (show Qt w4 w6 from Qt.trans Q5.out q6)
  obtain ⟨ga, ra⟩ := opsIn_own (A4.out w6 Q6.out) (by have := LE.out; omega)
  obtain ⟨gw, rw6⟩ := opsIn_own (C4.out w6 Q6.out) (by have := LE.out; omega)
  have S1 := sameO_yes ra rw6
  clear NU2 q6 ra rw6
  go_wp2_with fail
  refine S1.mono ?_
  rintro e w7 ⟨rfl, q7⟩
  have Q7 := Lib.hid (show Qt w4 w7 from Qt.trans Q6.out q7)
  obtain ⟨gb, rb⟩ := opsIn_own (B4.out w7 Q7.out) (by have := LE.out; omega)
  obtain ⟨gw2, rw7⟩ := opsIn_own (C4.out w7 Q7.out) (by have := LE.out; omega)
  have S2 := sameO_yes rb rw7
  clear S1 q7 rb rw7
  go_wp2_with fail
  refine S2.mono ?_
  rintro e y0 ⟨rfl, q10⟩
  have Q10 := Lib.hid (show Qt w4 y0 from Qt.trans Q7.out q10)
  have START := Lib.hid (show MoAt (fun _ => spoD) y0 (.slice aa nl.length ac) nl.length nl [] (.int .i64 0) y0 from ⟨0, Nat.zero_le _, rfl, by rw [mixO_zero, List.append_nil]; exact A4.out y0 Q10.out, Keeps.refl _ _⟩)
  clear S2 q10
  go_wp2
  go_loopw [51] (fun iv wr => MoAt (fun _ => spoD) y0 (.slice aa nl.length ac) nl.length nl [] iv wr) (fun iv _ => nl.length - (intOf iv).toNat)
  case atStart => exact START.out
  case round =>
    obtain ⟨i, hi, rfl, ho, hK⟩ := hrel
    by_cases hlt : i < nl.length
    · have zlt : decide ((i : Int) < (nl.length : Int)) = true := decide_eq_true (by omega)
      have zlt' : decide (i < nl.length) = true := decide_eq_true hlt
      have k0 : (0 : Int) ≤ (i : Int) := by omega
      have k1 : (i : Int) < (nl.length : Int) := by omega
      have hw1 := pl_w1 (k := i) (by have := LE.out; omega)
      have HM := Lib.hid (pl_meas hlt)
      have hml := mixO_length (fun _ => spoD) nl [] hi
      obtain ⟨ga, rfl⟩ := ownG_some ho (by omega)
      obtain ⟨z, hop⟩ : ∃ z, nl[i]? = some z := ⟨_, List.getElem?_eq_getElem hlt⟩
      have hmx := mixO_get (fun _ => spoD) nl [] hop
      have y1 : wr.cell? ⟨ga, i * 3, none⟩ = some (.bool z.del) := ownG_cell1 opC_len ho hmx (j := 0) rfl
      have y2 : wr.cell? ⟨ga, i * 3 + 1, none⟩ = some (strV z.key) := ownG_cell1 opC_len ho hmx (j := 1) rfl
      have y3 : wr.cell? ⟨ga, i * 3 + 2, none⟩ = some (strV z.val) := ownG_cell1 opC_len ho hmx (j := 2) rfl
      have f0 : wr.frozen? ⟨ga, i * 3, none⟩ = false := ownG_frozen ho _
      have f1 : wr.frozen? ⟨ga, i * 3 + 1, none⟩ = false := ownG_frozen ho _
      have f2 : wr.frozen? ⟨ga, i * 3 + 2, none⟩ = false := ownG_frozen ho _
      have FN := Lib.hid (mo_more (f := fun _ => spoD) hop (own_set3 (a := .bool false) (b := .string ⟨#[115, 112, 111, 105, 108, 116]⟩) (d := .string ⟨#[]⟩) ho hmx rfl rfl rfl) (keeps3 hK))
      clear hi ho hK hlt hml hop hmx
      go_wp2
      first | exact ⟨FN.out, HM.out⟩ | (rw [hw1]; exact ⟨FN.out, HM.out⟩)
    · obtain rfl : i = nl.length := by omega
      have zlt : decide ((nl.length : Int) < (nl.length : Int)) = false := decide_eq_false (by omega)
      have zlt' : decide (nl.length < nl.length) = false := decide_eq_false (by omega)
      obtain ⟨y1, hy1⟩ : ∃ W : World, W = wr := ⟨_, rfl⟩
      subst hy1
      rw [mixO_all, List.append_nil] at ho
      have KA := Lib.hid hK
      have OW := Lib.hid (fun o => (show (y1.alloc o).ownsRow 0 29 3 (.slice aa nl.length ac) nl.length (opsC (nl.map fun _ => spoD)) from ownsRow_kept ho ((Keeps.refl (fun _ => False) y1).alloc o) (fun _ _ e => e)))
      have hb1 : nl.length + 1 ≤ maxLen := by have := LE.out; unfold maxLen; omega
      have hb2 : (nl.length + 1) * 40 ≤ 140737488355328 := by have := LE.out; omega
      clear hi ho hK hlt START
      go_wp2_with (at_builtin; refine wpList_append_rows _ rfl _ _ 22 rfl 29 i0 (.agg #[.bool false, .string ⟨#[]⟩, .string ⟨#[]⟩]) 3 40 Tryd.underlying22 hi0 hz0 hz1 hz2 rfl (by decide) _ nl.length (opsC (nl.map fun _ => spoD)) rfl (OW.out _) (some ⟨y1.heap.size, 0, none⟩) 1 1 [.bool false, .string ⟨#[109, 111, 114, 101]⟩, .string ⟨#[]⟩] rfl rfl (fun _ => ⟨_, rfl, newsG _ _ _⟩) (by intro y hy; simp at hy; rcases hy with rfl | rfl | rfl <;> rfl) hb1 hb2 ?_)
      intro v9 z2 own9 gr9 la9
      obtain ⟨g9, c9, rfl⟩ := ownsRow_succ own9
      have K9 := Lib.hid (show Keeps (fun k => (Value.slice aa nl.length ac).ownBlock = some k) y0 z2 from Keeps.grown (KA.out.alloc _) gr9 (fun k _ e => e.symm))
      have OWN9 : z2.ownsRow 0 29 3 (.slice (some ⟨g9, 0, none⟩) (nl.length + 1) c9) (nl.length + 1) (opsC ((nl.map fun _ => spoD) ++ [moreD])) := by rw [opsC_append]; exact own9
      have x9 : z2.cell? ⟨g9, nl.length * 3 + 1, none⟩ = some (.string ⟨#[109, 111, 114, 101]⟩) := ownG_cell1 opC_len (l := (nl.map fun _ => spoD) ++ [moreD]) OWN9 (i := nl.length) (x := moreD) (by simp) (j := 1) rfl
      have B9 := Lib.hid (show z2.ownsRow 0 29 3 vb nl.length (opsC nl) from ownsRow_kept (B4.out y0 Q10.out) K9.out (fun k e1 e2 => by have h1 := HA.out k e2; have h2 := HBk.out k e1; omega))
      have C9 := Lib.hid (show z2.ownsRow 0 29 3 vw nl.length (opsC nl) from ownsRow_kept (C4.out y0 Q10.out) K9.out (fun k e1 e2 => by have h1 := HA.out k e2; have h2 := HCk.out k e1; have h3 := Z.out; omega))
      have QW9 := Lib.hid (show Qt w z2 from Keeps.trans (Qt.trans Q4.out Q10.out) K9.out (fun k hk e => by have := HA.out k e; omega))
      obtain ⟨gb2, rb⟩ := opsIn_own B9.out (by have := LE.out; omega)
      obtain ⟨gw5, rw10⟩ := opsIn_own C9.out (by have := LE.out; omega)
      have S4 := sameO_yes rb rw10
      have X9 := Lib.hid x9
      clear own9 gr9 la9 OWN9 rb rw10 hb1 hb2 x9
      go_wp2_with fail
      refine S4.mono ?_
      rintro e z3 ⟨rfl, q11⟩
      have FIN := Lib.hid (Qt.trans QW9.out q11)
      have x9 := q11.cellv X9.out
      have hwl : wrap64 (nl.length : Int) = (nl.length : Int) := by have := LE.out; unfold wrap64; omega
      have k0 : (0 : Int) ≤ (nl.length : Int) := by omega
      have k1 : (nl.length : Int) < (nl.length : Int) + 1 := by omega
      clear S4 q11
      go_wp2
      go_ret
      exact ⟨rfl, FIN.out⟩
end Go.Proofs.YtffjleceogablaaDoor
