/-
  The contract of remitlaw12.BatchBack: it answers true.
  Layer 11, plain: a tree of rows: its rows in order, what is put in, taken out and gone over at a node.
-/
import Derived.Test.YtffjleceogablaaDoorP14
import Derived.Test.YtffjleceogablaaDoorP26
import Derived.Test.YtffjleceogablaaDoorP17
import Derived.Test.YtffjleceogablaaDoorP11
import Derived.Test.YtffjleceogablaaDoorP06
import Derived.LoopTactic
import Derived.RangeFuncBox
import Derived.Test.YtffjleceogablaaDoorP01
namespace Go.Proofs.YtffjleceogablaaDoor
open Go.RowKit Go.WideShapes
set_option maxRecDepth 100000

set_option maxHeartbeats 12800000 in
theorem back_any {ad : Nat → Addr} {g o : Nat} {v : Value} {ops : List Bt.O} (cut : Int) (more : ByteArray) (w : World) (hE : Errs ad w) (hr : OpsIn w v g o ops) (hb : Bt.wt ops ≤ 1048576) (hm : more.size ≤ 1048576) :
    Calls Tryd.prog 6 #[v, .int .i64 cut, .string more] w fun e w' => e = .returned (.bool true) ∧ Qt w w' := by
  have LV := lives12_any w hE.e2
  have HL0 := Bt.wt_len ops
  have HB := Lib.hid (show ops.length ≤ 262144 by omega)
  have HKO := Lib.hid (show ∀ z ∈ ops, z.key.length ≤ maxLen from fun z hz => by have := Bt.wt_op hz; unfold maxLen; omega)
  have HM := Lib.hid hm
  have HE := Lib.hid hE
  have HR := Lib.hid hr
  obtain ⟨i0, hi0, hz0, hz1, hz2⟩ := info_parts infoOp12
  have NLG := Bt.normal_light hb
  obtain ⟨nl, hnl⟩ : ∃ nl, Bt.normal ops = nl := ⟨_, rfl⟩
  have HN := Lib.hid (show Bt.Norm nl by rw [← hnl]; exact Bt.normal_norm ops)
  rw [hnl] at NLG
  have HG := Lib.hid NLG
  have HF := Lib.hid (show ∀ z ∈ nl, Bt.Fit z from fun z hz => by have := NLG.2 z hz; exact ⟨by omega, by omega⟩)
  obtain ⟨sb, hsb⟩ : ∃ sb : ByteArray, sb = ⟨(Bt.encB nl).toArray⟩ := ⟨_, rfl⟩
  have hsl : sb.data.toList = Bt.encB nl := by rw [hsb]
  have hss : sb.size = (Bt.encB nl).length := by rw [← hsl]; rfl
  have HSL := Lib.hid hsl
  have HSZ := Lib.hid hss
  have HMO := Lib.hid (Bt.encB_most NLG.1 NLG.2)
  have sp0 : 0 < sb.size := by
    rw [hss]; unfold Bt.encB
    have := Lib.uvarint_pos nl.length
    rw [List.length_append]; omega
  have SP0 := Lib.hid sp0
  have EE := Lib.hid HN.out.enc
  have ET := Lib.hid (show strV (Bt.encT nl) = .string sb by rw [Bt.encT_ok EE.out, hsb]; rfl)
  have DS := Lib.hid (show Bt.decD sb.data.toList = .inr nl by
    have h := Bt.decD_enc HN.out HF.out (by have := NLG.1; omega) []
    rw [List.append_nil, if_pos rfl] at h
    rw [hsl]; exact h)
  obtain ⟨a, cap, rfl, ha⟩ := hr.val
  clear hr ha hm hb hE NLG hsl hss hsb HL0 sp0
  have q0 : Qt w (w.alloc (.cells #[] 29)) := (Qt.refl w).alloc _
  clear q0
  go_enter Tryd.func6, Tryd.ntmps6
  go_wp2_with fail
  refine LV.mono ?_
  rintro e w1 ⟨rfl, q1⟩
  have Q1 := Lib.hid q1
  have NW1 := recs_news opC_len (by decide) (recs_turn HR.out (q1.alloc (.cells #[] 29)))
  have hb1 : 0 + ops.length ≤ maxLen := by have := HB.out; unfold maxLen; omega
  have hb2 : (0 + ops.length) * 40 ≤ 140737488355328 := by have := HB.out; omega
  clear LV q1
  go_wp2_with (at_builtin; refine wpList_append_rows _ rfl _ _ 22 rfl 29 i0 (.agg #[.bool false, .string ⟨#[]⟩, .string ⟨#[]⟩]) 3 40 Tryd.underlying22 hi0 hz0 hz1 hz2 rfl (by decide) _ 0 (opsC []) rfl (op_new0 w1) _ ops.length _ (opsC ops) rfl (opsC_length ops) NW1 (opsC_one' ops) hb1 hb2 ?_)
  intro v1 x1 own1 gr1 la1
  have NG := ownG_more (W := w1) (l := []) (k := ops) (fun g e => by injection e with e; subst e; exact Nat.le_refl _) ((Qt.refl w1).alloc _) (by simp) (by rw [cellsG_append]) own1 gr1 la1
  rw [List.nil_append] at NG
  clear own1 hb1 hb2 NW1 gr1 la1
  have Q2 := Lib.hid (Qt.trans Q1.out NG.qt)
  obtain ⟨gc, RC⟩ := opsIn_own NG.own (by have := HB.out; omega)
  have NA := normal12_any x1 RC (by have := HB.out; omega) HKO.out
  rw [hnl] at NA
  clear NG RC
  go_wp2_with fail
  refine NA.mono ?_
  rintro e w3 ⟨va, rfl, n3⟩
  have N3 := Lib.hid n3
  have Q3 := Lib.hid (Qt.trans Q2.out n3.qt)
  obtain ⟨g3, r3⟩ := opsIn_own n3.own (by have := HG.out.1; omega)
  have EN := encode12_any w3 r3 (HE.out.e2.qt Q3.out) (fun a n c e => by subst e; obtain ⟨x, y, ez⟩ := ownG_shape n3.own; injection ez with e1 e2 e3; subst e1 e2 e3; exact (ownG_cap n3.own).1) (by have := HMO.out; omega)
  rw [EE.out, ET.out, errV_zero] at EN
  clear NA n3 r3
  go_wp2_with fail
  refine EN.mono ?_
  rintro e w4 ⟨rfl, q4⟩
  have Q4 := Lib.hid (Qt.trans Q3.out q4)
  have VA := Lib.hid (fun W (q : Qt w4 W) => (show W.ownsRow 0 29 3 va nl.length (opsC nl) from ownsRow_kept N3.out.own (Qt.trans q4 q) (fun _ _ e => e)))
  have sz0 : (sb.size == 0) = false := beq_eq_false_iff_ne.2 (by have := SP0.out; omega)
  have sz1 : ((sb.size : Int) == 0) = false := beq_eq_false_iff_ne.2 (by have := SP0.out; omega)
  have sz2 : decide (sb.size = 0) = false := decide_eq_false (by have := SP0.out; omega)
  have sz3 : decide ((sb.size : Int) = 0) = false := decide_eq_false (by have := SP0.out; omega)
  have D1 := decode12_one ad sb w4 (by have := HMO.out; have := HSZ.out; omega) (HE.out.qt Q4.out)
  rw [DS.out] at D1
  simp only [Bt.decN, Bt.decL, errV_zero] at D1
  clear EN q4
  go_wp2_with fail
  refine D1.mono ?_
  rintro e w5 ⟨vb, rfl, n5⟩
  have Q5 := Lib.hid (Qt.trans Q4.out n5.qt)
  obtain ⟨g5, r5⟩ := opsIn_own n5.own (by have := HG.out.1; omega)
  obtain ⟨g5b, r5b⟩ := opsIn_own (VA.out w5 n5.qt) (by have := HG.out.1; omega)
  have S1 := sameO_yes r5 r5b
  clear D1 n5 r5 r5b sz0 sz1 sz2 sz3
  go_wp2_with fail
  refine S1.mono ?_
  rintro e w6 ⟨rfl, q6⟩
  have Q6 := Lib.hid (Qt.trans Q5.out q6)
  obtain ⟨c, hc, hcut⟩ := cutB_at cut SP0.out (by have := HMO.out; have := HSZ.out; omega)
  have hx : (sb.extract 0 c).size ≤ 549762596864 := by have := HMO.out; have := HSZ.out; simp; omega
  have DC := decode12_one ad (sb.extract 0 c) w6 (by omega) (HE.out.qt Q6.out)
  rw [extract_list, HSL.out, Bt.decD_cut HN.out HF.out (by have := HG.out.1; omega) (by rw [← HSZ.out]; exact hc)] at DC
  simp only [Bt.decN, Bt.decL] at DC
  rw [errV_pos ad (by decide)] at DC
  have sp0 : 0 < sb.size := SP0.out
  have sp1 : sb.size ≤ 549762596864 := by have := HMO.out; have := HSZ.out; omega
  have sp2 : (sb.size : Int) ≠ 0 := by omega
  have hcl : c ≤ sb.size := by omega
  clear S1 q6 hx
  go_wp2_with fail
  refine DC.mono ?_
  rintro e w7 ⟨vc, rfl, n7⟩
  have Q7 := Lib.hid (Qt.trans Q6.out n7.qt)
  obtain ⟨ca, cc, rfl⟩ := ownG_shape n7.own
  clear DC n7 hcut hc sp0 sp1 sp2 hcl
  by_cases hmz : more = ⟨#[]⟩
  · subst hmz
    cases hD : Bt.decD (⟨#[]⟩ : ByteArray).data.toList with
    | inl er =>
      have DL := decode12_err ad w7 (by have := HM.out; omega) (HE.out.qt Q7.out) hD
      clear hD
      go_wp2_with fail
      refine DL.mono ?_
      rintro e w9 ⟨rfl, q9⟩
      have FIN := Lib.hid (Qt.trans Q7.out q9)
      clear DL q9
      go_wp2
      go_ret
      exact ⟨rfl, FIN.out⟩
    | inr os =>
      have DL := decode12_ok ad w7 (by have := HM.out; omega) (HE.out.qt Q7.out) hD
      have IV := Bt.decD_inv hD
      have EO := Lib.hid IV.1.enc
      have EBL := Lib.hid (show (Bt.encB os).length ≤ 1048576 by rw [IV.2]; exact HM.out)
      have TO := Lib.hid (show strV (Bt.encT os) = .string ⟨#[]⟩ by
        rw [Bt.encT_ok EO.out, IV.2, strV_data])
      have OL := Lib.hid (show os.length ≤ 1048576 from Nat.le_trans (Bt.encB_len os) EBL.out)
      clear IV hD
      go_wp2_with fail
      refine DL.mono ?_
      rintro e w9 ⟨vo, rfl, n9⟩
      have Q9 := Lib.hid (Qt.trans Q7.out n9.qt)
      obtain ⟨g9, r9⟩ := opsIn_own n9.own (by have := OL.out; omega)
      have EO2 := encode12_any w9 r9 (HE.out.e2.qt Q9.out) (fun a n c e => by subst e; obtain ⟨x, y, ez⟩ := ownG_shape n9.own; injection ez with e1 e2 e3; subst e1 e2 e3; exact (ownG_cap n9.own).1) (by have := EBL.out; omega)
      rw [EO.out, TO.out, errV_zero] at EO2
      clear DL n9 r9
      go_wp2_with fail
      refine EO2.mono ?_
      rintro e w10 ⟨rfl, q10⟩
      have FIN := Lib.hid (Qt.trans Q9.out q10)
      clear EO2 q10
      go_wp2
      go_ret
      exact ⟨rfl, FIN.out⟩
  · have m1 : (!more.toList.isEmpty) = true := by
      cases hq : more.toList.isEmpty with
      | false => rfl
      | true =>
        refine absurd ?_ hmz
        rw [ByteArray.toList_eq] at hq
        apply ByteArray.ext
        apply Array.toList_inj.1
        exact List.isEmpty_iff.1 hq
    have hml : more.data.toList ≠ [] := fun e => hmz (by apply ByteArray.ext; apply Array.toList_inj.1; rw [e])
    have sp1 : sb.size ≤ 549762596864 := by have := HMO.out; have := HSZ.out; omega
    have m4 : more.size ≤ 1048576 := HM.out
    obtain ⟨sm, hsm⟩ : ∃ sm, sb ++ more = sm := ⟨_, rfl⟩
    have HS := Lib.hid hsm
    have hml2 : sm.data.toList = sb.data.toList ++ more.data.toList := by rw [← hsm]; simp
    have hz : sm.size ≤ 549763645440 := by rw [← hsm, ByteArray.size_append]; omega
    have DT := Bt.decD_enc HN.out HF.out (by have := HG.out.1; omega) more.data.toList
    rw [if_neg hml, ← HSL.out, ← hml2] at DT
    have DP := decode12_one ad sm w7 (by omega) (HE.out.qt Q7.out)
    rw [DT] at DP
    simp only [Bt.decN, Bt.decL] at DP
    have NU := num_any ad 5
    rw [errV_pos ad (by decide)] at DP NU
    have HNU := Lib.hid NU
    clear hml hml2 DT hsm hz NU
    go_wp2_with fail
    rw [HS.out]
    refine DP.mono ?_
    rintro e w8 ⟨vd, rfl, n8⟩
    have Q8 := Lib.hid (Qt.trans Q7.out n8.qt)
    obtain ⟨da, dc, rfl⟩ := ownG_shape n8.own
    have NU := HNU.out w8 (HE.out.qt Q8.out) (by decide)
    clear DP n8 m1 sp1 m4
    go_wp2_with fail
    refine NU.mono ?_
    rintro e w8b ⟨rfl, q8⟩
    have Q8b := Lib.hid (Qt.trans Q8.out q8)
    clear NU q8
    cases hD : Bt.decD more.data.toList with
    | inl er =>
      have DL := decode12_err ad w8b (by have := HM.out; omega) (HE.out.qt Q8b.out) hD
      clear hD
      go_wp2_with fail
      refine DL.mono ?_
      rintro e w9 ⟨rfl, q9⟩
      have FIN := Lib.hid (Qt.trans Q8b.out q9)
      clear DL q9
      go_wp2
      go_ret
      exact ⟨rfl, FIN.out⟩
    | inr os =>
      have DL := decode12_ok ad w8b (by have := HM.out; omega) (HE.out.qt Q8b.out) hD
      have IV := Bt.decD_inv hD
      have EO := Lib.hid IV.1.enc
      have EBL := Lib.hid (show (Bt.encB os).length ≤ 1048576 by rw [IV.2]; exact HM.out)
      have TO := Lib.hid (show strV (Bt.encT os) = .string more by
        rw [Bt.encT_ok EO.out, IV.2, strV_data])
      have OL := Lib.hid (show os.length ≤ 1048576 from Nat.le_trans (Bt.encB_len os) EBL.out)
      clear IV hD
      go_wp2_with fail
      refine DL.mono ?_
      rintro e w9 ⟨vo, rfl, n9⟩
      have Q9 := Lib.hid (Qt.trans Q8b.out n9.qt)
      obtain ⟨g9, r9⟩ := opsIn_own n9.own (by have := OL.out; omega)
      have EO2 := encode12_any w9 r9 (HE.out.e2.qt Q9.out) (fun a n c e => by subst e; obtain ⟨x, y, ez⟩ := ownG_shape n9.own; injection ez with e1 e2 e3; subst e1 e2 e3; exact (ownG_cap n9.own).1) (by have := EBL.out; omega)
      rw [EO.out, TO.out, errV_zero] at EO2
      clear DL n9 r9
      go_wp2_with fail
      refine EO2.mono ?_
      rintro e w10 ⟨rfl, q10⟩
      have FIN := Lib.hid (Qt.trans Q9.out q10)
      clear EO2 q10
      go_wp2
      go_ret
      exact ⟨rfl, FIN.out⟩
end Go.Proofs.YtffjleceogablaaDoor
namespace Go.Proofs.YtffjleceogablaaDoor.Tb
set_option maxRecDepth 100000

inductive Tr where
  | leaf
  | node (l : Tr) (r : R) (t : Tr)
def Tr.list : Tr → List R
  | .leaf => []
  | .node l r t => l.list ++ r :: t.list

section
variable {a b : List R} {r : R} {k v : Txt}
theorem sorted_mid : Sorted (a ++ r :: b) ↔ Sorted a ∧ Sorted b ∧ (∀ x ∈ a, lt x.1 r.1 = true) ∧ (∀ x ∈ b, lt r.1 x.1 = true) := by
  unfold Sorted
  rw [List.pairwise_append, List.pairwise_cons]
  constructor
  · rintro ⟨h1, ⟨h2, h3⟩, h4⟩
    exact ⟨h1, h3, fun x hx => h4 x hx r (by simp), h2⟩
  · rintro ⟨h1, h2, h3, h4⟩
    refine ⟨h1, ⟨h4, h2⟩, fun x hx y hy => ?_⟩
    rcases List.mem_cons.1 hy with rfl | hy
    · exact h3 x hx
    · exact lt_trans (h3 x hx) (h4 y hy)
theorem sorted_left (h : Sorted (a ++ r :: b)) : Sorted a := (sorted_mid.1 h).1
theorem sorted_right (h : Sorted (a ++ r :: b)) : Sorted b := (sorted_mid.1 h).2.1

/-! ### Get -/
theorem get_left (h : Sorted (a ++ r :: b)) (hk : lt k r.1 = true) : get (a ++ r :: b) k = get a k := by
  obtain ⟨h1, h2, h3, h4⟩ := sorted_mid.1 h
  cases e : get a k with
  | some u => exact (get_some h).2 (List.mem_append_left _ ((get_some h1).1 e))
  | none =>
    refine get_none.2 fun x hx => ?_
    rcases List.mem_append.1 hx with hx | hx
    · exact get_none.1 e x hx
    · rcases List.mem_cons.1 hx with rfl | hx
      · exact fun e => lt_ne hk e.symm
      · exact fun e => lt_ne (lt_trans hk (h4 x hx)) e.symm
theorem get_right (h : Sorted (a ++ r :: b)) (hk : lt r.1 k = true) : get (a ++ r :: b) k = get b k := by
  obtain ⟨h1, h2, h3, h4⟩ := sorted_mid.1 h
  cases e : get b k with
  | some u => exact (get_some h).2 (List.mem_append_right _ (List.mem_cons_of_mem _ ((get_some h2).1 e)))
  | none =>
    refine get_none.2 fun x hx => ?_
    rcases List.mem_append.1 hx with hx | hx
    · exact lt_ne (lt_trans (h3 x hx) hk)
    · rcases List.mem_cons.1 hx with rfl | hx
      · exact lt_ne hk
      · exact get_none.1 e x hx
theorem get_mid (h : Sorted (a ++ r :: b)) : get (a ++ r :: b) r.1 = some r.2 := (get_some h).2 (by simp)

/-! ### Put -/
theorem put_left (h : Sorted (a ++ r :: b)) (hk : lt k r.1 = true) : put (a ++ r :: b) k v = put a k v ++ r :: b := by
  obtain ⟨h1, h2, h3, h4⟩ := sorted_mid.1 h
  refine sorted_ext (put_sorted h _ _) (sorted_mid.2 ⟨put_sorted h1 _ _, h2, fun x hx => ?_, h4⟩) fun x => ?_
  · rcases put_mem.1 hx with rfl | ⟨hx, _⟩
    · exact hk
    · exact h3 x hx
  · rw [put_mem, List.mem_append, List.mem_append, put_mem, List.mem_cons]
    constructor
    · rintro (e | ⟨e | e | e, hn⟩)
      · exact .inl (.inl e)
      · exact .inl (.inr ⟨e, hn⟩)
      · exact .inr (.inl e)
      · exact .inr (.inr e)
    · rintro ((e | ⟨e, hn⟩) | e | e)
      · exact .inl e
      · exact .inr ⟨.inl e, hn⟩
      · exact .inr ⟨.inr (.inl e), fun c => lt_ne hk (by rw [e] at c; exact c.symm)⟩
      · exact .inr ⟨.inr (.inr e), fun c => lt_ne (lt_trans hk (h4 x e)) c.symm⟩
theorem put_right (h : Sorted (a ++ r :: b)) (hk : lt r.1 k = true) : put (a ++ r :: b) k v = a ++ r :: put b k v := by
  obtain ⟨h1, h2, h3, h4⟩ := sorted_mid.1 h
  refine sorted_ext (put_sorted h _ _) (sorted_mid.2 ⟨h1, put_sorted h2 _ _, h3, fun x hx => ?_⟩) fun x => ?_
  · rcases put_mem.1 hx with rfl | ⟨hx, _⟩
    · exact hk
    · exact h4 x hx
  · rw [put_mem, List.mem_append, List.mem_append, List.mem_cons, List.mem_cons, put_mem]
    constructor
    · rintro (e | ⟨e | e | e, hn⟩)
      · exact .inr (.inr (.inl e))
      · exact .inl e
      · exact .inr (.inl e)
      · exact .inr (.inr (.inr ⟨e, hn⟩))
    · rintro (e | e | e | ⟨e, hn⟩)
      · exact .inr ⟨.inl e, lt_ne (lt_trans (h3 x e) hk)⟩
      · exact .inr ⟨.inr (.inl e), fun c => lt_ne hk (by rw [e] at c; exact c)⟩
      · exact .inl e
      · exact .inr ⟨.inr (.inr e), hn⟩
theorem put_mid (h : Sorted (a ++ r :: b)) : put (a ++ r :: b) r.1 v = a ++ (r.1, v) :: b := by
  obtain ⟨h1, h2, h3, h4⟩ := sorted_mid.1 h
  refine sorted_ext (put_sorted h _ _) (sorted_mid.2 ⟨h1, h2, h3, h4⟩) fun x => ?_
  rw [put_mem, List.mem_append, List.mem_append, List.mem_cons, List.mem_cons]
  constructor
  · rintro (e | ⟨e | e | e, hn⟩)
    · exact .inr (.inl e)
    · exact .inl e
    · exact absurd (by rw [e]) hn
    · exact .inr (.inr e)
  · rintro (e | e | e)
    · exact .inr ⟨.inl e, lt_ne (h3 x e)⟩
    · exact .inl e
    · exact .inr ⟨.inr (.inr e), fun c => lt_ne (h4 x e) c.symm⟩

/-! ### Delete -/
theorem del_noneT {l : List R} (h : ∀ x ∈ l, x.1 ≠ k) : del l k = l := List.filter_eq_self.2 (fun x hx => by simpa using h x hx)
theorem del_left (h : Sorted (a ++ r :: b)) (hk : lt k r.1 = true) : del (a ++ r :: b) k = del a k ++ r :: b := by
  obtain ⟨h1, h2, h3, h4⟩ := sorted_mid.1 h
  have e1 : del (r :: b) k = r :: b := del_noneT fun x hx => by
    rcases List.mem_cons.1 hx with rfl | hx
    · exact fun e => lt_ne hk e.symm
    · exact fun e => lt_ne (lt_trans hk (h4 x hx)) e.symm
  unfold del at *
  rw [List.filter_append, e1]
theorem del_right (h : Sorted (a ++ r :: b)) (hk : lt r.1 k = true) : del (a ++ r :: b) k = a ++ r :: del b k := by
  obtain ⟨h1, h2, h3, h4⟩ := sorted_mid.1 h
  have e1 : del a k = a := del_noneT fun x hx => lt_ne (lt_trans (h3 x hx) hk)
  unfold del at *
  rw [List.filter_append, e1, List.filter_cons_of_pos (by simpa using lt_ne hk)]
theorem del_mid (h : Sorted (a ++ r :: b)) : del (a ++ r :: b) r.1 = a ++ b := by
  obtain ⟨h1, h2, h3, h4⟩ := sorted_mid.1 h
  have e1 : del a r.1 = a := del_noneT fun x hx => lt_ne (h3 x hx)
  have e2 : del b r.1 = b := del_noneT fun x hx => fun e => lt_ne (h4 x hx) e.symm
  unfold del at *
  rw [List.filter_append, e1, List.filter_cons_of_neg (by simp), e2]
theorem del_first (h : Sorted (r :: b)) : del (r :: b) r.1 = b := del_mid (a := []) h

/-! ### Bytes -/
theorem del_sum {l : List R} (h : Sorted l) (hg : get l k = some v) : bytes (del l k) + (k.length + v.length) = bytes l := by
  obtain ⟨a, b, rfl⟩ := List.append_of_mem ((get_some h).1 hg)
  rw [del_mid (r := (k, v)) h, bytes_append, bytes_append, bytes_cons]
  simp only
  omega
theorem del_same {l : List R} (hg : get l k = none) : del l k = l := del_noneT (get_none.1 hg)
theorem put_sum (l : List R) : bytes (put l k v) = bytes (del l k) + (k.length + v.length) := by
  unfold put
  rw [ins_bytes]
  simp only
  omega
/-- A table's bytes behind Put, reckoned as the call does. -/
theorem put_some {l : List R} {u : Txt} (h : Sorted l) (hg : get l k = some u) : (bytes l : Int) - ((k.length : Int) + u.length) + ((k.length : Int) + v.length) = (bytes (put l k v) : Int) := by
  have h1 := del_sum h hg
  have h2 := put_sum (v := v) (k := k) l
  omega
theorem put_new {l : List R} (hg : get l k = none) : (bytes l : Int) + ((k.length : Int) + v.length) = (bytes (put l k v) : Int) := by
  have h1 := del_same hg
  have h2 := put_sum (v := v) (k := k) l
  rw [h1] at h2
  omega

/-! ### A span of keys -/
def inSpan (lo hi : Txt) (ends : Bool) (r : R) : Bool := !lt r.1 lo && !(ends && !lt r.1 hi)
def sel (lo hi : Txt) (ends : Bool) (l : List R) : List R := l.filter (inSpan lo hi ends)
theorem sel_range (l : List R) (lo hi : Txt) : sel lo hi true l = rangeL l lo hi := by
  unfold sel rangeL fromL
  rw [List.filter_filter]
  refine List.filter_congr fun x _ => ?_
  unfold inSpan
  cases lt x.1 lo <;> cases lt x.1 hi <;> rfl
theorem sel_from (l : List R) (lo hi : Txt) : sel lo hi false l = fromL l lo := by
  unfold sel fromL
  refine List.filter_congr fun x _ => ?_
  unfold inSpan
  cases lt x.1 lo <;> rfl
variable {lo hi : Txt} {ends : Bool}
theorem sel_nil : sel lo hi ends [] = [] := rfl
theorem sel_low (h : Sorted (a ++ r :: b)) (hr : lt r.1 lo = true) : sel lo hi ends (a ++ r :: b) = sel lo hi ends b := by
  obtain ⟨h1, h2, h3, h4⟩ := sorted_mid.1 h
  have e1 : sel lo hi ends a = [] := List.filter_eq_nil_iff.2 fun x hx => by simp [inSpan, lt_trans (h3 x hx) hr]
  unfold sel at *
  rw [List.filter_append, e1, List.filter_cons_of_neg (by simp [inSpan, hr])]
  rfl
theorem sel_high (h : Sorted (a ++ r :: b)) (he : ends = true) (hr : lt r.1 hi = false) : sel lo hi ends (a ++ r :: b) = sel lo hi ends a := by
  obtain ⟨h1, h2, h3, h4⟩ := sorted_mid.1 h
  have e1 : sel lo hi ends b = [] := List.filter_eq_nil_iff.2 fun x hx => by
    have : lt x.1 hi = false := by
      cases e : lt x.1 hi with
      | false => rfl
      | true => rw [lt_trans (h4 x hx) e] at hr; cases hr
    simp [inSpan, this, he]
  unfold sel at *
  rw [List.filter_append, List.filter_cons_of_neg (by simp [inSpan, hr, he]), e1, List.append_nil]
theorem sel_mid (h1 : lt r.1 lo = false) (h2 : (ends && !lt r.1 hi) = false) : sel lo hi ends (a ++ r :: b) = sel lo hi ends a ++ r :: sel lo hi ends b := by
  unfold sel
  rw [List.filter_append, List.filter_cons_of_pos (by unfold inSpan; rw [h1, h2]; rfl)]
end
end Go.Proofs.YtffjleceogablaaDoor.Tb
