/-
  The contract of remitlaw12.BatchBetween: it answers true.
-/
import Derived.Test.YtffjleceogablaaDoorP45
import Derived.Test.YtffjleceogablaaDoorP46
namespace Go.Proofs.YtffjleceogablaaDoor
open Go.RowKit Go.WideShapes
set_option maxRecDepth 100000

/-- What each op of the least batch finds in the two tables. -/
theorem Bt.lies_gets {a b : List Tb.R} (ha : Tb.Sorted a) (hb : Tb.Sorted b) {o : Bt.O} (h : o ∈ Bt.between a b) :
    (o.del = true ∧ o.val = [] ∧ (∃ v, Tb.get a o.key = some v) ∧ Tb.get b o.key = none) ∨
    (o.del = false ∧ Tb.get b o.key = some o.val ∧ (Tb.get a o.key = none ∨ ∃ v, Tb.get a o.key = some v ∧ v ≠ o.val)) := by
  rcases (Bt.between_mem a b ha hb o).1 h with ⟨h1, h2, ⟨v, h3⟩, h4⟩ | ⟨h1, h2, h3⟩
  · exact .inl ⟨h1, h2, ⟨v, (Tb.get_some ha).2 h3⟩, Tb.get_none.2 h4⟩
  · refine .inr ⟨h1, (Tb.get_some hb).2 h2, ?_⟩
    cases hg : Tb.get a o.key with
    | none => exact .inl rfl
    | some v =>
      refine .inr ⟨v, rfl, fun e => h3 ?_⟩
      rw [← e]
      exact (Tb.get_some ha).1 hg
theorem Bt.between_light {ra rb : List Tb.R} (ha : Tb.bytes ra ≤ 1048576) (hb : Tb.bytes rb ≤ 1048576) {o : Bt.O} (h : o ∈ Bt.between (Tb.ofL ra) (Tb.ofL rb)) : o.key.length ≤ 1048576 ∧ o.val.length ≤ 1048576 := by
  rcases (Bt.between_mem _ _ (Tb.ofL_sorted ra) (Tb.ofL_sorted rb) o).1 h with ⟨_, h2, ⟨v, h3⟩, _⟩ | ⟨_, h2, _⟩
  · have := Tb.bytes_mem (Tb.ofL_sub ra _ h3)
    rw [h2]
    exact ⟨by have h : o.key.length + v.length ≤ Tb.bytes ra := this; omega, Nat.zero_le _⟩
  · have h : o.key.length + o.val.length ≤ Tb.bytes rb := Tb.bytes_mem (Tb.ofL_sub rb _ h2)
    omega
set_option maxHeartbeats 25600000 in
theorem between_law {ad : Nat → Addr} {g o g1 o1 : Nat} {v v1 : Value} {ra rb : List Tb.R} (w : World) (hE : E2 ad w) (hra : RowsIn w v g o ra) (hrb : RowsIn w v1 g1 o1 rb) (hba : Tb.bytes ra ≤ 1048576) (hbb : Tb.bytes rb ≤ 1048576) (hn : ra.length + rb.length ≤ 1048576) :
    Calls Tryd.prog 8 #[v, v1] w fun e w' => e = .returned (.bool true) ∧ Qt w w' := by
  have LV := lives12_any w hE
  have LA := Tb.ofL_length ra
  have LB := Tb.ofL_length rb
  have BL := Lib.hid (fun o (h : o ∈ Bt.between (Tb.ofL ra) (Tb.ofL rb)) => Bt.between_light hba hbb h)
  have BA := Lib.hid (Nat.le_trans (Tb.ofL_bytes ra) hba)
  have SA := Lib.hid (Tb.ofL_sorted ra)
  have SB := Lib.hid (Tb.ofL_sorted rb)
  obtain ⟨la, hla⟩ : ∃ la, Tb.ofL ra = la := ⟨_, rfl⟩
  obtain ⟨lb, hlb⟩ : ∃ lb, Tb.ofL rb = lb := ⟨_, rfl⟩
  rw [hla] at LA BA SA
  rw [hlb] at LB SB
  simp only [hla, hlb] at BL
  have NL := Lib.hid (show la.length + lb.length ≤ 1048576 ∧ ra.length ≤ 1048576 ∧ rb.length ≤ 1048576 by omega)
  have HTA := Lib.hid (show ∀ r ∈ ra, r.1.length ≤ 281474976710656 ∧ r.2.length ≤ 281474976710656 from fun r hr => by have := Tb.bytes_mem hr; omega)
  have HTB := Lib.hid (show ∀ r ∈ rb, r.1.length ≤ 281474976710656 ∧ r.2.length ≤ 281474976710656 from fun r hr => by have := Tb.bytes_mem hr; omega)
  have HBA := Lib.hid hba
  have HBB := Lib.hid hbb
  have HRA := Lib.hid hra
  have HRB := Lib.hid hrb
  have HLA := Lib.hid hla
  have HLB := Lib.hid hlb
  have HNB := Lib.hid (Bt.between_norm SA.out SB.out)
  have HGS := Lib.hid (fun o (h : o ∈ Bt.between la lb) => Bt.lies_gets SA.out SB.out h)
  have HBO := Lib.hid (show (Bt.between la lb).length ≤ 1048576 from Nat.le_trans (Bt.between_length la lb) NL.out.1)
  have HAB := Lib.hid (Bt.between_apply SA.out SB.out)
  have HSA := Lib.hid (Bt.between_self SA.out)
  have HSB := Lib.hid (Bt.between_self SB.out)
  obtain ⟨bo, hbo⟩ : ∃ bo, Bt.between la lb = bo := ⟨_, rfl⟩
  simp only [hbo] at BL HNB HGS HBO HAB
  have HBW := Lib.hid hbo
  obtain ⟨a, cap, rfl, ha⟩ := hra.val
  obtain ⟨a1, cap1, rfl, ha1⟩ := hrb.val
  clear hra hrb ha ha1 hba hbb hn hE hla hlb hbo LA LB
  go_enter Tryd.func8, Tryd.ntmps8
  go_wp2_with fail
  refine LV.mono ?_
  rintro e w1 ⟨rfl, q1⟩
  have Q1 := Lib.hid q1
  have M1 := made12_any w1 (recs_turn HRA.out q1) (by have := HBA.out; omega) HTA.out NL.out.2.1
  rw [HLA.out] at M1
  clear LV q1
  go_wp2_with fail
  refine M1.mono ?_
  rintro e w2 ⟨b1, A1, rfl, t1, n1, q2⟩
  have Q2 := Lib.hid (Qt.trans Q1.out q2)
  have T1 := Lib.hid t1
  have N1' := Lib.hid (fun k (h : A1 k) => (show w1.heap.size ≤ k ∧ k < w2.heap.size from ⟨n1 k h, t1.lt k h⟩))
  have M2 := made12_any w2 (recs_turn HRB.out Q2.out) (by have := HBB.out; omega) HTB.out NL.out.2.2
  rw [HLB.out] at M2
  clear M1 t1 n1 q2
  go_wp2_with fail
  refine M2.mono ?_
  rintro e w3 ⟨b2, A2, rfl, t2, n2, q3⟩
  have Q3 := Lib.hid (Qt.trans Q2.out q3)
  have T1b := Lib.hid (T1.out.qt q3)
  have T2 := Lib.hid t2
  have N2' := Lib.hid (fun k (h : A2 k) => (show w2.heap.size ≤ k ∧ k < w3.heap.size from ⟨n2 k h, t2.lt k h⟩))
  have B1 := Lib.hid (N1'.out b1 T1.out.own)
  have B2 := Lib.hid (N2'.out b2 T2.out.own)
  have BT := between12_any w3 T1b.out T2.out (by have := NL.out.1; omega)
  rw [HBW.out] at BT
  clear M2 t2 n2 q3
  go_wp2_with fail
  refine BT.mono ?_
  rintro e w4 ⟨vo, rfl, n4⟩
  have NO := Lib.hid n4
  obtain ⟨go4, ro4, hgo⟩ := newO_in n4 (by have := HBO.out; omega)
  have RO := Lib.hid ro4
  have HGO := Lib.hid hgo
  have P4 := Lib.hid n4.qt
  obtain ⟨ao, co, rfl⟩ := ownG_shape n4.own
  have RA := rrows12_any w4 (recs_turn HRA.out (Qt.trans Q3.out P4.out)) (by have := NL.out.2.1; omega)
  rw [HLA.out] at RA
  clear BT n4 ro4 hgo
  go_wp2_with fail
  refine RA.mono ?_
  rintro e w5 ⟨vra, rfl, n5⟩
  have NRA := Lib.hid n5
  have R5 := Lib.hid n5.qt
  have P5 := Lib.hid (Qt.trans P4.out n5.qt)
  have RB := rrows12_any w5 (recs_turn HRB.out (Qt.trans Q3.out P5.out)) (by have := NL.out.2.2; omega)
  rw [HLB.out] at RB
  clear RA n5
  go_wp2_with fail
  refine RB.mono ?_
  rintro e w6 ⟨vrb, rfl, n6⟩
  have R6 := Lib.hid (Qt.trans R5.out n6.qt)
  obtain ⟨gp, rp, _⟩ := ownG_in rowC_len (ownsRow_kept NRA.out.own n6.qt (fun _ _ e => e)) (by have := NL.out.1; omega)
  obtain ⟨gq, rq, _⟩ := ownG_in rowC_len n6.own (by have := NL.out.1; omega)
  have RBT := rbetween12_any w6 rp rq (by have := NL.out.1; omega)
  rw [HBW.out] at RBT
  clear RB n6 rp rq
  go_wp2_with fail
  refine RBT.mono ?_
  rintro e w7 ⟨vrw, rfl, n7⟩
  have R7 := Lib.hid (Qt.trans R6.out n7.qt)
  obtain ⟨gk, rk⟩ := opsIn_own n7.own (by have := HBO.out; omega)
  have S1 := sameO_yes (recs_turn RO.out R7.out) rk
  clear RBT n7 rk
  go_wp2_with fail
  refine S1.mono ?_
  rintro e w8 ⟨rfl, q8⟩
  have R8 := Lib.hid (Qt.trans R7.out q8)
  have BT1 := between12_any w8 (T1b.out.qt (Qt.trans P4.out R8.out)) (T1b.out.qt (Qt.trans P4.out R8.out)) (by have := NL.out.1; omega)
  rw [HSA.out] at BT1
  clear S1 q8
  go_wp2_with fail
  refine BT1.mono ?_
  rintro e w9 ⟨vz1, rfl, n9⟩
  have R9 := Lib.hid (Qt.trans R8.out n9.qt)
  obtain ⟨za1, zc1, rfl⟩ := ownG_shape n9.own
  have BT2 := between12_any w9 (T2.out.qt (Qt.trans P4.out R9.out)) (T2.out.qt (Qt.trans P4.out R9.out)) (by have := NL.out.1; omega)
  rw [HSB.out] at BT2
  clear BT1 n9
  go_wp2_with fail
  refine BT2.mono ?_
  rintro e w10 ⟨vz2, rfl, n10⟩
  have R10 := Lib.hid (Qt.trans R9.out n10.qt)
  obtain ⟨za2, zc2, rfl⟩ := ownG_shape n10.own
  have RT := rows12_any (T1b.out.qt (Qt.trans P4.out R10.out))
  clear BT2 n10
  go_wp2_with fail
  refine RT.mono ?_
  rintro e w11 ⟨vwas, rfl, n11⟩
  have WAS := Lib.hid n11
  have R11 := Lib.hid (Qt.trans R10.out n11.qt)
  have RU := rows12_any (T2.out.qt (Qt.trans P4.out R11.out))
  clear RT n11
  go_wp2_with fail
  refine RU.mono ?_
  rintro e y0 ⟨vgoal, rfl, n12⟩
  have GOAL := Lib.hid n12
  have R12 := Lib.hid (Qt.trans R11.out n12.qt)
  have QY := Lib.hid (Qt.trans Q3.out (Qt.trans P4.out R12.out))
  have TA := Lib.hid (T1b.out.qt (Qt.trans P4.out R12.out))
  have TB := Lib.hid (T2.out.qt (Qt.trans P4.out R12.out))
  have RBY := Lib.hid (recs_turn RO.out R12.out)
  have WASY := Lib.hid (WAS.out.quiet n12.qt)
  have ZS := Lib.hid (show w3.heap.size ≤ w11.heap.size from (Qt.trans P4.out R11.out).size)
  have START := Lib.hid (show AskAt y0 bo.length (.int .i64 0) y0 from ⟨0, Nat.zero_le _, rfl, Qt.refl _⟩)
  clear RU n12
  go_wp2
  go_loopw [59] (fun iv wr => AskAt y0 bo.length iv wr) (fun iv _ => bo.length - (intOf iv).toNat)
  case atStart => exact START.out
  case round =>
    obtain ⟨i, hi, rfl, hQ⟩ := hrel
    have HQ := Lib.hid hQ
    clear START
    by_cases hlt : i < bo.length
    · have zlt : decide ((i : Int) < (bo.length : Int)) = true := decide_eq_true (by omega)
      have zlt' : decide (i < bo.length) = true := decide_eq_true hlt
      obtain ⟨z, c1, hop, e0⟩ := RBY.out.elem hlt
      injection e0 with e0 q1 q2
      clear q1 q2
      subst e0
      obtain ⟨y1, y2, y3⟩ := OpsIn.cell (recs_turn RBY.out hQ) hop
      rw [Nat.zero_add] at y1 y2 y3
      obtain ⟨K, hK1, hKl⟩ : ∃ K : ByteArray, strV z.key = .string K ∧ K.data.toList = z.key := ⟨⟨z.key.toArray⟩, rfl, rfl⟩
      obtain ⟨V, hV1, hVl⟩ : ∃ V : ByteArray, strV z.val = .string V ∧ V.data.toList = z.val := ⟨⟨z.val.toArray⟩, rfl, rfl⟩
      rw [hK1] at y2
      rw [hV1] at y3
      have k0 : (0 : Int) ≤ (i : Int) := by omega
      have k1 : (i : Int) < (bo.length : Int) := by omega
      have hw1 := pl_w1 (k := i) (by have := HBO.out; omega)
      have HM := Lib.hid (pl_meas hlt)
      have HOP := Lib.hid hop
      have HKL := Lib.hid hKl
      have hzm := List.mem_of_getElem? hop
      have GT := fun o => get11_any (TA.out.qt (Qt.trans hQ ((Qt.refl wr).alloc o))) K
      have GU := fun o => get11_any (TB.out.qt (Qt.trans hQ ((Qt.refl wr).alloc o))) K
      rw [hKl] at GT GU
      unfold GotV at GT GU
      have FN := Lib.hid (fun W (q : Qt wr W) => (show AskAt y0 bo.length (.int .i64 ((i : Int) + 1)) W from ⟨i + 1, hlt, by simp, Qt.trans hQ q⟩))
      rcases HGS.out z hzm with ⟨hdel, hvz, ⟨va, hga⟩, hgb⟩ | ⟨hdel, hgb, hga | ⟨va, hga, hne⟩⟩
      · rw [hdel] at y1
        rw [hga] at GT
        rw [hgb] at GU
        obtain ⟨VA, hVA⟩ : ∃ VA : ByteArray, strV va = .string VA := ⟨_, rfl⟩
        simp only [Option.getD_some, Option.isSome_some, Option.getD_none, Option.isSome_none] at GT GU
        rw [hVA] at GT
        rw [show strV [] = .string ⟨#[]⟩ from rfl] at GU
        obtain rfl : V = ⟨#[]⟩ := by
          have h := hV1
          rw [hvz] at h
          injection h with h
          exact h.symm
        clear hi hQ hlt hop hK1 hKl hV1 hVl hzm hga hgb hdel hvz hVA
        go_wp2_with fail
        refine (GT _).mono ?_
        rintro e w' ⟨rfl, rfl⟩
        go_wp2_with fail
        refine (GU _).mono ?_
        rintro e w' ⟨rfl, rfl⟩
        have QB0 : Qt wr (wr.alloc (.cells #[.bool true, .string K, .string ⟨#[]⟩] 29)) := (Qt.refl wr).alloc _
        have b0 : (wr.alloc (.cells #[.bool true, .string K, .string ⟨#[]⟩] 29)).heap[wr.heap.size]? = some (.cells #[.bool true, .string K, .string ⟨#[]⟩] 29 (0, 0)) := heap_alloc_new wr _
        have hRW := recs_turn RBY.out (Qt.trans HQ.out QB0)
        clear GT GU
        generalize hWB : World.alloc wr _ = WB at *
        obtain ⟨B5, hB5⟩ : ∃ B5, wr.heap.size = B5 := ⟨_, rfl⟩
        rw [hB5] at b0 ⊢
        have d0 : WB.cell? ⟨B5, 0, none⟩ = some (.bool true) := by rw [Lib.cell_of_heap b0]; rfl
        have d1 : WB.cell? ⟨B5, 1, none⟩ = some (.string K) := by rw [Lib.cell_of_heap b0]; rfl
        have d2 : WB.cell? ⟨B5, 2, none⟩ = some (.string ⟨#[]⟩) := by rw [Lib.cell_of_heap b0]; rfl
        have QB := Lib.hid QB0
        clear hWB hB5 b0 QB0 y1 y2 y3
        by_cases hiz : i = 0
        · subst hiz
          clear hRW
          go_wp2
          go_quiet (fail)
          go_wp2
          first | exact ⟨FN.out _ (Keeps.drewN QB.out _), HM.out⟩ | (rw [hw1]; exact ⟨FN.out _ (Keeps.drewN QB.out _), HM.out⟩)
        · obtain ⟨j, hj⟩ : ∃ j, i = j + 1 := ⟨i - 1, by omega⟩
          obtain ⟨p, c1, hop2, _⟩ := hRW.elem (k := j) (by omega)
          obtain ⟨_, z2, _⟩ := OpsIn.cell hRW hop2
          rw [Nat.zero_add] at z2
          obtain ⟨Kp, hKp, hKpl⟩ : ∃ K : ByteArray, strV p.key = .string K ∧ K.data.toList = p.key := ⟨⟨p.key.toArray⟩, rfl, rfl⟩
          rw [hKp] at z2
          have zlk := HNB.out.next hop2 (by rw [← hj]; exact HOP.out)
          have zk : Op.bytesLess K.toList Kp.toList = false := by
            rw [ByteArray.toList_eq, ByteArray.toList_eq, hKpl, HKL.out]
            exact Tb.lt_asymm zlk
          have ze : (K.toList == Kp.toList) = false := by
            rw [ByteArray.toList_eq, ByteArray.toList_eq, hKpl, HKL.out]
            exact beq_eq_false_iff_ne.2 (fun e => by rw [e] at zlk; rw [Tb.lt_irrefl] at zlk; cases zlk)
          have j0 : (0 : Int) ≤ (j : Int) := by omega
          have j1 : (j : Int) < (bo.length : Int) := by omega
          have i1 : (0 : Int) < (i : Int) := by omega
          have i2 : 0 < i := by omega
          have i3 : decide ((0 : Int) < (i : Int)) = true := decide_eq_true i1
          have hs1 : IntKind.i64.wrap ((i : Int) - 1) = (j : Int) := by rw [IntKind.wrap_i64]; have := HBO.out; omega
          have hs2 : wrap64 ((i : Int) - 1) = (j : Int) := by unfold wrap64; have := HBO.out; omega
          clear hRW hop2 hKp hKpl hj hiz zlk
          go_wp2
          go_quiet (fail)
          go_wp2
          first | exact ⟨FN.out _ (Keeps.drewN QB.out _), HM.out⟩ | (rw [hw1]; exact ⟨FN.out _ (Keeps.drewN QB.out _), HM.out⟩)
      · rw [hdel] at y1
        rw [hga] at GT
        rw [hgb] at GU
        simp only [Option.getD_some, Option.isSome_some, Option.getD_none, Option.isSome_none] at GT GU
        rw [hV1] at GU
        rw [show strV [] = .string ⟨#[]⟩ from rfl] at GT
        clear hi hQ hlt hop hK1 hKl hV1 hVl hzm hga hgb hdel
        go_wp2_with fail
        refine (GT _).mono ?_
        rintro e w' ⟨rfl, rfl⟩
        go_wp2_with fail
        refine (GU _).mono ?_
        rintro e w' ⟨rfl, rfl⟩
        have QB0 : Qt wr (wr.alloc (.cells #[.bool false, .string K, .string V] 29)) := (Qt.refl wr).alloc _
        have b0 : (wr.alloc (.cells #[.bool false, .string K, .string V] 29)).heap[wr.heap.size]? = some (.cells #[.bool false, .string K, .string V] 29 (0, 0)) := heap_alloc_new wr _
        have hRW := recs_turn RBY.out (Qt.trans HQ.out QB0)
        clear GT GU
        generalize hWB : World.alloc wr _ = WB at *
        obtain ⟨B5, hB5⟩ : ∃ B5, wr.heap.size = B5 := ⟨_, rfl⟩
        rw [hB5] at b0 ⊢
        have d0 : WB.cell? ⟨B5, 0, none⟩ = some (.bool false) := by rw [Lib.cell_of_heap b0]; rfl
        have d1 : WB.cell? ⟨B5, 1, none⟩ = some (.string K) := by rw [Lib.cell_of_heap b0]; rfl
        have d2 : WB.cell? ⟨B5, 2, none⟩ = some (.string V) := by rw [Lib.cell_of_heap b0]; rfl
        have QB := Lib.hid QB0
        clear hWB hB5 b0 QB0 y1 y2 y3
        by_cases hiz : i = 0
        · subst hiz
          clear hRW
          go_wp2
          go_quiet (fail)
          go_wp2
          first | exact ⟨FN.out _ (Keeps.drewN QB.out _), HM.out⟩ | (rw [hw1]; exact ⟨FN.out _ (Keeps.drewN QB.out _), HM.out⟩)
        · obtain ⟨j, hj⟩ : ∃ j, i = j + 1 := ⟨i - 1, by omega⟩
          obtain ⟨p, c1, hop2, _⟩ := hRW.elem (k := j) (by omega)
          obtain ⟨_, z2, _⟩ := OpsIn.cell hRW hop2
          rw [Nat.zero_add] at z2
          obtain ⟨Kp, hKp, hKpl⟩ : ∃ K : ByteArray, strV p.key = .string K ∧ K.data.toList = p.key := ⟨⟨p.key.toArray⟩, rfl, rfl⟩
          rw [hKp] at z2
          have zlk := HNB.out.next hop2 (by rw [← hj]; exact HOP.out)
          have zk : Op.bytesLess K.toList Kp.toList = false := by
            rw [ByteArray.toList_eq, ByteArray.toList_eq, hKpl, HKL.out]
            exact Tb.lt_asymm zlk
          have ze : (K.toList == Kp.toList) = false := by
            rw [ByteArray.toList_eq, ByteArray.toList_eq, hKpl, HKL.out]
            exact beq_eq_false_iff_ne.2 (fun e => by rw [e] at zlk; rw [Tb.lt_irrefl] at zlk; cases zlk)
          have j0 : (0 : Int) ≤ (j : Int) := by omega
          have j1 : (j : Int) < (bo.length : Int) := by omega
          have i1 : (0 : Int) < (i : Int) := by omega
          have i2 : 0 < i := by omega
          have i3 : decide ((0 : Int) < (i : Int)) = true := decide_eq_true i1
          have hs1 : IntKind.i64.wrap ((i : Int) - 1) = (j : Int) := by rw [IntKind.wrap_i64]; have := HBO.out; omega
          have hs2 : wrap64 ((i : Int) - 1) = (j : Int) := by unfold wrap64; have := HBO.out; omega
          clear hRW hop2 hKp hKpl hj hiz zlk
          go_wp2
          go_quiet (fail)
          go_wp2
          first | exact ⟨FN.out _ (Keeps.drewN QB.out _), HM.out⟩ | (rw [hw1]; exact ⟨FN.out _ (Keeps.drewN QB.out _), HM.out⟩)
      · rw [hdel] at y1
        rw [hga] at GT
        rw [hgb] at GU
        obtain ⟨VA, hVA, hVAl⟩ : ∃ VA : ByteArray, strV va = .string VA ∧ VA.data.toList = va := ⟨⟨va.toArray⟩, rfl, rfl⟩
        have hvv2 : (VA.toList == V.toList) = false := by
          rw [ByteArray.toList_eq, ByteArray.toList_eq, hVAl, hVl]
          exact beq_eq_false_iff_ne.2 hne
        simp only [Option.getD_some, Option.isSome_some] at GT GU
        rw [hVA] at GT
        rw [hV1] at GU
        clear hi hQ hlt hop hK1 hKl hV1 hVl hzm hga hgb hdel hVA hVAl hne
        go_wp2_with fail
        refine (GT _).mono ?_
        rintro e w' ⟨rfl, rfl⟩
        go_wp2_with fail
        refine (GU _).mono ?_
        rintro e w' ⟨rfl, rfl⟩
        have QB0 : Qt wr (wr.alloc (.cells #[.bool false, .string K, .string V] 29)) := (Qt.refl wr).alloc _
        have b0 : (wr.alloc (.cells #[.bool false, .string K, .string V] 29)).heap[wr.heap.size]? = some (.cells #[.bool false, .string K, .string V] 29 (0, 0)) := heap_alloc_new wr _
        have hRW := recs_turn RBY.out (Qt.trans HQ.out QB0)
        clear GT GU
        generalize hWB : World.alloc wr _ = WB at *
        obtain ⟨B5, hB5⟩ : ∃ B5, wr.heap.size = B5 := ⟨_, rfl⟩
        rw [hB5] at b0 ⊢
        have d0 : WB.cell? ⟨B5, 0, none⟩ = some (.bool false) := by rw [Lib.cell_of_heap b0]; rfl
        have d1 : WB.cell? ⟨B5, 1, none⟩ = some (.string K) := by rw [Lib.cell_of_heap b0]; rfl
        have d2 : WB.cell? ⟨B5, 2, none⟩ = some (.string V) := by rw [Lib.cell_of_heap b0]; rfl
        have QB := Lib.hid QB0
        clear hWB hB5 b0 QB0 y1 y2 y3
        by_cases hiz : i = 0
        · subst hiz
          clear hRW
          go_wp2
          go_quiet (fail)
          go_wp2
          first | exact ⟨FN.out _ (Keeps.drewN QB.out _), HM.out⟩ | (rw [hw1]; exact ⟨FN.out _ (Keeps.drewN QB.out _), HM.out⟩)
        · obtain ⟨j, hj⟩ : ∃ j, i = j + 1 := ⟨i - 1, by omega⟩
          obtain ⟨p, c1, hop2, _⟩ := hRW.elem (k := j) (by omega)
          obtain ⟨_, z2, _⟩ := OpsIn.cell hRW hop2
          rw [Nat.zero_add] at z2
          obtain ⟨Kp, hKp, hKpl⟩ : ∃ K : ByteArray, strV p.key = .string K ∧ K.data.toList = p.key := ⟨⟨p.key.toArray⟩, rfl, rfl⟩
          rw [hKp] at z2
          have zlk := HNB.out.next hop2 (by rw [← hj]; exact HOP.out)
          have zk : Op.bytesLess K.toList Kp.toList = false := by
            rw [ByteArray.toList_eq, ByteArray.toList_eq, hKpl, HKL.out]
            exact Tb.lt_asymm zlk
          have ze : (K.toList == Kp.toList) = false := by
            rw [ByteArray.toList_eq, ByteArray.toList_eq, hKpl, HKL.out]
            exact beq_eq_false_iff_ne.2 (fun e => by rw [e] at zlk; rw [Tb.lt_irrefl] at zlk; cases zlk)
          have j0 : (0 : Int) ≤ (j : Int) := by omega
          have j1 : (j : Int) < (bo.length : Int) := by omega
          have i1 : (0 : Int) < (i : Int) := by omega
          have i2 : 0 < i := by omega
          have i3 : decide ((0 : Int) < (i : Int)) = true := decide_eq_true i1
          have hs1 : IntKind.i64.wrap ((i : Int) - 1) = (j : Int) := by rw [IntKind.wrap_i64]; have := HBO.out; omega
          have hs2 : wrap64 ((i : Int) - 1) = (j : Int) := by unfold wrap64; have := HBO.out; omega
          clear hRW hop2 hKp hKpl hj hiz zlk
          go_wp2
          go_quiet (fail)
          go_wp2
          first | exact ⟨FN.out _ (Keeps.drewN QB.out _), HM.out⟩ | (rw [hw1]; exact ⟨FN.out _ (Keeps.drewN QB.out _), HM.out⟩)
    · obtain rfl : i = bo.length := by omega
      have zlt : decide ((bo.length : Int) < (bo.length : Int)) = false := decide_eq_false (by omega)
      have zlt' : decide (bo.length < bo.length) = false := decide_eq_false (by omega)
      have R1 := rows12_any (TA.out.qt hQ)
      clear hi hQ hlt
      go_wp2_with fail
      refine R1.mono ?_
      rintro e x11 ⟨vx, rfl, m11⟩
      have X11 := Lib.hid (Qt.trans HQ.out m11.qt)
      obtain ⟨gx, rx⟩ := m11.rows (by have := NL.out.1; omega)
      obtain ⟨gx2, rx2⟩ := (WASY.out.quiet X11.out).rows (by have := NL.out.1; omega)
      have S2 := sameR12_yes rx rx2
      clear R1 m11 rx rx2
      go_wp2_with fail
      refine S2.mono ?_
      rintro e x12 ⟨rfl, m12⟩
      have X12 := Lib.hid (Qt.trans X11.out m12)
      have R2 := rows12_any (TB.out.qt X12.out)
      clear S2 m12
      go_wp2_with fail
      refine R2.mono ?_
      rintro e x13 ⟨vy, rfl, m13⟩
      have X13 := Lib.hid (Qt.trans X12.out m13.qt)
      obtain ⟨gy, ry⟩ := m13.rows (by have := NL.out.1; omega)
      obtain ⟨gy2, ry2⟩ := (GOAL.out.quiet X13.out).rows (by have := NL.out.1; omega)
      have S3 := sameR12_yes ry ry2
      clear R2 m13 ry ry2
      go_wp2_with fail
      refine S3.mono ?_
      rintro e x14 ⟨rfl, m14⟩
      have X14 := Lib.hid (Qt.trans X13.out m14)
      have AP := apply12_do x14 (TA.out.qt X14.out) (recs_turn RBY.out X14.out) (fun hne e => by have := (HGO.out hne).1; have := B1.out; have := B2.out; omega) (fun z hz => BL.out z hz) HBO.out (by have := NL.out.1; omega) (by have := BA.out; omega)
      rw [HAB.out] at AP
      clear S3 m14
      go_wp2_with fail
      refine AP.mono ?_
      rintro e x15 ⟨rfl, A5, t5, hA5, K5⟩
      have T5 := Lib.hid t5
      have GK := Lib.hid (ownsRow_kept (GOAL.out.quiet X14.out).own K5 (fun k e1 e2 => by have := (GOAL.out.quiet X14.out).new k e1; have := ZS.out; have := B1.out; have := B2.out; omega))
      have QX := Lib.hid (show Qt w x15 from Keeps.trans (Qt.trans QY.out X14.out) K5 (fun k hk e => by have := B1.out; have := Q1.out.size; omega))
      have R4 := rows12_any T5.out
      clear AP t5 hA5 K5
      go_wp2_with fail
      refine R4.mono ?_
      rintro e x16 ⟨vz, rfl, m16⟩
      have QX2 := Lib.hid (Qt.trans QX.out m16.qt)
      obtain ⟨gz, rz⟩ := m16.rows (by have := NL.out.1; omega)
      obtain ⟨gg, rg, _⟩ := ownR_rows (ownsRow_kept GK.out m16.qt (fun _ _ e => e)) (by have := NL.out.1; omega)
      have S5 := sameR12_yes rz rg
      clear R4 m16 rz rg
      go_wp2_with fail
      refine S5.mono ?_
      rintro e x17 ⟨rfl, m17⟩
      have FIN := Lib.hid (Qt.trans QX2.out m17)
      clear S5 m17
      go_wp2
      go_ret
      exact ⟨rfl, FIN.out⟩
end Go.Proofs.YtffjleceogablaaDoor
