/-
  The document's own batch: the contract of Between.
-/
import Derived.Test.YtffjleceogablaaDoorP40
import Derived.Deep.RegionHeld3
namespace Go.Proofs.YtffjleceogablaaDoor
open Go.RowKit Go.WideShapes
set_option maxRecDepth 100000

def BwAt (w : World) (a b : List Tb.R) (ov iv jv : Value) (wr : World) : Prop := ∃ (i j : Nat) (xs : List Bt.O), i ≤ a.length ∧ j ≤ b.length ∧ iv = .int .i64 i ∧ jv = .int .i64 j ∧ xs.length ≤ i + j ∧ NewO w wr ov xs ∧ xs ++ Bt.between (a.drop i) (b.drop j) = Bt.between a b
theorem drop_get {α : Type} {l : List α} {k : Nat} {x : α} (h : l[k]? = some x) : l.drop k = x :: l.drop (k + 1) := by
  obtain ⟨h1, rfl⟩ := List.getElem?_eq_some_iff.1 h
  exact List.drop_eq_getElem_cons h1
theorem bw_end {a b : List Tb.R} {i j : Nat} (hi : a.length ≤ i) (hj : b.length ≤ j) : Bt.between (a.drop i) (b.drop j) = [] := by
  rw [List.drop_eq_nil_of_le hi, List.drop_eq_nil_of_le hj, Bt.between]
theorem bw_c1 {a b : List Tb.R} {i j : Nat} {x : Tb.R} (hx : a[i]? = some x) (hj : b.length ≤ j) : Bt.between (a.drop i) (b.drop j) = ⟨true, x.1, []⟩ :: Bt.between (a.drop (i + 1)) (b.drop j) := by
  rw [drop_get hx, List.drop_eq_nil_of_le hj, Bt.between]
theorem bw_c2 {a b : List Tb.R} {i j : Nat} {x y : Tb.R} (hx : a[i]? = some x) (hy : b[j]? = some y) (h : Tb.lt x.1 y.1 = true) : Bt.between (a.drop i) (b.drop j) = ⟨true, x.1, []⟩ :: Bt.between (a.drop (i + 1)) (b.drop j) := by
  rw [drop_get hx, drop_get hy, Bt.between, if_pos h]
theorem bw_c3 {a b : List Tb.R} {i j : Nat} {y : Tb.R} (hi : a.length ≤ i) (hy : b[j]? = some y) : Bt.between (a.drop i) (b.drop j) = ⟨false, y.1, y.2⟩ :: Bt.between (a.drop i) (b.drop (j + 1)) := by
  rw [drop_get hy, List.drop_eq_nil_of_le hi, Bt.between]
theorem bw_c4 {a b : List Tb.R} {i j : Nat} {x y : Tb.R} (hx : a[i]? = some x) (hy : b[j]? = some y) (h : Tb.lt x.1 y.1 = false) (h2 : Tb.lt y.1 x.1 = true) : Bt.between (a.drop i) (b.drop j) = ⟨false, y.1, y.2⟩ :: Bt.between (a.drop i) (b.drop (j + 1)) := by
  rw [drop_get hx, drop_get hy, Bt.between, if_neg (by rw [h]; decide), if_pos h2]
theorem bw_c5 {a b : List Tb.R} {i j : Nat} {x y : Tb.R} (hx : a[i]? = some x) (hy : b[j]? = some y) (h : Tb.lt x.1 y.1 = false) (h2 : Tb.lt y.1 x.1 = false) (h3 : x.2 ≠ y.2) : Bt.between (a.drop i) (b.drop j) = ⟨false, y.1, y.2⟩ :: Bt.between (a.drop (i + 1)) (b.drop (j + 1)) := by
  rw [drop_get hx, drop_get hy, Bt.between, if_neg (by rw [h]; decide), if_neg (by rw [h2]; decide), if_neg h3]
theorem bw_c6 {a b : List Tb.R} {i j : Nat} {x y : Tb.R} (hx : a[i]? = some x) (hy : b[j]? = some y) (h : Tb.lt x.1 y.1 = false) (h2 : Tb.lt y.1 x.1 = false) (h3 : x.2 = y.2) : Bt.between (a.drop i) (b.drop j) = Bt.between (a.drop (i + 1)) (b.drop (j + 1)) := by
  rw [drop_get hx, drop_get hy, Bt.between, if_neg (by rw [h]; decide), if_neg (by rw [h2]; decide), if_pos h3]
theorem bw_meas {i j i2 j2 n m : Nat} (hi : i ≤ i2) (hj : j ≤ j2) (h : i + j < i2 + j2) (hn : i2 ≤ n) (hm : j2 ≤ m) : (n - (intOf (.int .i64 (i2 : Int))).toNat) + (m - (intOf (.int .i64 (j2 : Int))).toNat) < (n - (intOf (.int .i64 (i : Int))).toNat) + (m - (intOf (.int .i64 (j : Int))).toNat) := by
  simp only [intOf, Int.toNat_natCast]
  omega
theorem bw_push {w W W1 y : World} {a b : List Tb.R} {v v' : Value} {i j i2 j2 : Nat} {xs : List Bt.O} {z : Bt.O} (N : NewO w W v xs) (q : Qt W W1) (hx : xs.length ≤ i + j) (he : xs ++ Bt.between (a.drop i) (b.drop j) = Bt.between a b) (hz : Bt.between (a.drop i) (b.drop j) = z :: Bt.between (a.drop i2) (b.drop j2)) (hi : i2 ≤ a.length) (hj : j2 ≤ b.length) (hs : i + j + 1 ≤ i2 + j2)
    (own : y.ownsRow 0 29 3 v' (xs.length + 1) (opsC xs ++ opC z)) (gr : W1.grownBy y v.ownBlock) (la : Later W1 v.ownBlock v'.ownBlock) : BwAt w a b v' (.int .i64 i2) (.int .i64 j2) y :=
  ⟨i2, j2, xs ++ [z], hi, hj, rfl, rfl, by simp; omega, (NewG.growQ N q own gr la).1, by rw [← he, hz, List.append_assoc]; rfl⟩

theorem bw_qt {w wr : World} {a b : List Tb.R} {ov iv jv : Value} (h : BwAt w a b ov iv jv wr) : Qt w wr := by
  obtain ⟨_, _, _, _, _, _, _, _, N, _⟩ := h
  exact N.qt

set_option maxHeartbeats 3200000 in
theorem rbetween12_any {va vb : Value} {g o g2 o2 : Nat} {a b : List Tb.R} (w : World) (ha : RowsIn w va g o a) (hb : RowsIn w vb g2 o2 b) (hN : (a.length + b.length) * 40 ≤ 140737488355328) :
    Calls Tryd.prog 28 #[va, vb] w fun e w' => ∃ v', e = .returned v' ∧ NewO w w' v' (Bt.between a b) := by
  have HA := Lib.hid ha
  have HB := Lib.hid hb
  have HN := Lib.hid hN
  obtain ⟨pa, ca, rfl, xa⟩ := ha.val
  obtain ⟨pb, cb, rfl, xb⟩ := hb.val
  clear ha hb hN xa xb
  obtain ⟨i0, hi0, hz0, hz1, hz2⟩ := info_parts infoOp12
  have START := Lib.hid (show BwAt w a b (.slice (some ⟨w.heap.size, 0, none⟩) 0 0) (.int .i64 0) (.int .i64 0) (w.alloc (.cells #[] 29)) from ⟨0, 0, [], Nat.zero_le _, Nat.zero_le _, rfl, rfl, Nat.le_refl _, ⟨op_new0 w, fun g e => by injection e with e; subst e; exact Nat.le_refl _, (Qt.refl w).alloc _⟩, rfl⟩)
  go_enter Tryd.func28, Tryd.ntmps28
  go_wp2
  go_loopw [5, 6, 7] (fun ov iv jv wr => BwAt w a b ov iv jv wr) (fun _ iv jv _ => (a.length - (intOf iv).toNat) + (b.length - (intOf jv).toNat))
  case atStart => exact START.out
  case round =>
    obtain ⟨i, j, xs, hi, hj, rfl, rfl, hxl, NO, he⟩ := hrel
    have HNO := Lib.hid NO
    have HE := Lib.hid he
    have HX := Lib.hid hxl
    have HI := Lib.hid hi
    have HJ := Lib.hid hj
    obtain ⟨oa, oc, hov⟩ := ownG_shape NO.own
    subst hov
    have i00 : (0 : Int) ≤ (i : Int) := by omega
    have j00 : (0 : Int) ≤ (j : Int) := by omega
    have hwi : wrap64 ((i : Int) + 1) = (i : Int) + 1 := by have := HN.out; have := HI.out; unfold wrap64; omega
    have hwj : wrap64 ((j : Int) + 1) = (j : Int) + 1 := by have := HN.out; have := HJ.out; unfold wrap64; omega
    clear NO he hxl hi hj START
    by_cases hi : i < a.length
    · have zi : decide ((i : Int) < (a.length : Int)) = true := decide_eq_true (by omega)
      have zi' : decide (i < a.length) = true := decide_eq_true hi
      have zie : ((i : Int) == (a.length : Int)) = false := beq_eq_false_iff_ne.2 (by omega)
      have i01 : (i : Int) < (a.length : Int) := by omega
      obtain ⟨x, c1, hx, e0⟩ := HA.out.elem hi
      injection e0 with e0 q1 q2
      clear q1 q2
      subst e0
      obtain ⟨x1, x2⟩ := RowsIn.cell (recs_turn HA.out HNO.out.qt) hx
      obtain ⟨K1, hK1, hK1l⟩ : ∃ K : ByteArray, strV x.1 = .string K ∧ K.data.toList = x.1 := ⟨⟨x.1.toArray⟩, rfl, rfl⟩
      obtain ⟨V1, hV1, hV1l⟩ : ∃ K : ByteArray, strV x.2 = .string K ∧ K.data.toList = x.2 := ⟨⟨x.2.toArray⟩, rfl, rfl⟩
      rw [hK1] at x1
      rw [hV1] at x2
      by_cases hj : j < b.length
      · have zj : decide ((j : Int) < (b.length : Int)) = true := decide_eq_true (by omega)
        have zj' : decide (j < b.length) = true := decide_eq_true hj
        have zje : ((j : Int) == (b.length : Int)) = false := beq_eq_false_iff_ne.2 (by omega)
        have j01 : (j : Int) < (b.length : Int) := by omega
        obtain ⟨y, c2, hy, e0⟩ := HB.out.elem hj
        injection e0 with e0 q1 q2
        clear q1 q2
        subst e0
        obtain ⟨y1, y2⟩ := RowsIn.cell (recs_turn HB.out HNO.out.qt) hy
        obtain ⟨K2, hK2, hK2l⟩ : ∃ K : ByteArray, strV y.1 = .string K ∧ K.data.toList = y.1 := ⟨⟨y.1.toArray⟩, rfl, rfl⟩
        obtain ⟨V2, hV2, hV2l⟩ : ∃ K : ByteArray, strV y.2 = .string K ∧ K.data.toList = y.2 := ⟨⟨y.2.toArray⟩, rfl, rfl⟩
        rw [hK2] at y1
        rw [hV2] at y2
        have HI2 := Lib.hid (And.intro hi hj)
        cases hlt : Tb.lt x.1 y.1 with
        | true =>
          have zk : Op.bytesLess K1.toList K2.toList = true := by rw [ByteArray.toList_eq, ByteArray.toList_eq, hK1l, hK2l]; exact hlt
          have HZ := Lib.hid (bw_c2 hx hy hlt)
          have HZC := Lib.hid (show opC ⟨true, x.1, []⟩ = [.bool true, .string K1, .string ⟨#[]⟩] by rw [← hK1]; rfl)
          clear hK1 hK2 hK1l hK2l hV1 hV2 hV1l hV2l hx hy hlt hi hj
          go_wp2
          go_quiet (fail)
          obtain ⟨w1, hwq⟩ : ∃ W, wr.drewN nq = W := ⟨_, rfl⟩
          have Q1 := Lib.hid (show Qt wr w1 from hwq ▸ Keeps.drewN (Qt.refl wr) nq)
          have N1 := Lib.hid (HNO.out.quiet Q1.out)
          have x1' := Q1.out.cellv x1
          clear x1
          have x1 := x1'
          clear x1'
          have x2' := Q1.out.cellv x2
          clear x2
          have x2 := x2'
          clear x2'
          have y1' := Q1.out.cellv y1
          clear y1
          have y1 := y1'
          clear y1'
          have y2' := Q1.out.cellv y2
          clear y2
          have y2 := y2'
          clear y2'
          rw [hwq]
          clear hwq nq
          have hb1 : xs.length + 1 ≤ maxLen := by have := HN.out; have := HX.out; have := HI2.out; unfold maxLen; omega
          have hb2 : (xs.length + 1) * 40 ≤ 140737488355328 := by have := HN.out; have := HX.out; have := HI2.out; omega
          have OW := Lib.hid (fun o => (show (w1.alloc o).ownsRow 0 29 3 (.slice oa xs.length oc) xs.length (opsC xs) from ownsRow_kept N1.out.own ((Keeps.refl (fun _ => False) _).alloc o) (fun _ _ e => e)))
          have QA := Lib.hid (show Qt w1 (w1.alloc (Obj.cells #[.bool true, .string K1, .string ⟨#[]⟩] 29)) from (Qt.refl w1).alloc _)
          go_wp2_with (at_builtin; refine wpList_append_rows _ rfl _ _ 22 rfl 29 i0 (.agg #[.bool false, .string ⟨#[]⟩, .string ⟨#[]⟩]) 3 40 Tryd.underlying22 hi0 hz0 hz1 hz2 rfl (by decide) _ xs.length (opsC xs) rfl (OW.out _) (some ⟨w1.heap.size, 0, none⟩) 1 1 [.bool true, .string K1, .string ⟨#[]⟩] rfl rfl (fun _ => ⟨_, rfl, newsG w1 [.bool true, .string K1, .string ⟨#[]⟩] 29⟩) (by intro y hy; simp at hy; rcases hy with rfl | rfl | rfl <;> rfl) hb1 hb2 ?_)
          intro v4 x4 own4 gr4 la4
          have FN := Lib.hid (bw_push N1.out QA.out HX.out HE.out HZ.out (i2 := (i + 1)) (j2 := j) (by have := HI2.out; omega) (by have := HI2.out; omega) (by omega) (by rw [HZC.out]; exact own4) gr4 la4)
          clear own4 gr4 la4 hb1 hb2
          have HM := Lib.hid (bw_meas (i := i) (j := j) (i2 := (i + 1)) (j2 := j) (n := a.length) (m := b.length) (by omega) (by omega) (by omega) (by have := HI2.out; omega) (by have := HI2.out; omega))
          push_cast at FN HM
          go_wp2
          rw [hwi]
          exact ⟨FN.out, HM.out⟩
        | false =>
          cases hgt : Tb.lt y.1 x.1 with
          | true =>
            have zk : Op.bytesLess K1.toList K2.toList = false := by rw [ByteArray.toList_eq, ByteArray.toList_eq, hK1l, hK2l]; exact hlt
            have zg : Op.bytesLess K2.toList K1.toList = true := by rw [ByteArray.toList_eq, ByteArray.toList_eq, hK2l, hK1l]; exact hgt
            have KY := Lib.hid (fun (W : World) (q : Qt w W) => (show W.cell? ⟨g2, o2 + j * 2, none⟩ = some (.string K2) ∧ W.cell? ⟨g2, o2 + j * 2 + 1, none⟩ = some (.string V2) from by have h := RowsIn.cell (recs_turn HB.out q) hy; rw [hK2, hV2] at h; exact h))
            have HZ := Lib.hid (bw_c4 hx hy hlt hgt)
            have HZC := Lib.hid (show opC ⟨false, y.1, y.2⟩ = [.bool false, .string K2, .string V2] by rw [← hK2, ← hV2]; rfl)
            clear hK1 hK2 hK1l hK2l hV1 hV2 hV1l hV2l hx hy hlt hgt hi hj
            go_wp2
            go_quiet (fail)
            obtain ⟨w1, hwq⟩ : ∃ W, wr.drewN nq = W := ⟨_, rfl⟩
            have Q1 := Lib.hid (show Qt wr w1 from hwq ▸ Keeps.drewN (Qt.refl wr) nq)
            have N1 := Lib.hid (HNO.out.quiet Q1.out)
            have x1' := Q1.out.cellv x1
            clear x1
            have x1 := x1'
            clear x1'
            have x2' := Q1.out.cellv x2
            clear x2
            have x2 := x2'
            clear x2'
            have y1' := Q1.out.cellv y1
            clear y1
            have y1 := y1'
            clear y1'
            have y2' := Q1.out.cellv y2
            clear y2
            have y2 := y2'
            clear y2'
            rw [hwq]
            clear hwq nq
            go_wp2
            go_quiet (fail)
            obtain ⟨w2, hwq⟩ : ∃ W, w1.drewN nq = W := ⟨_, rfl⟩
            have Q2 := Lib.hid (show Qt w1 w2 from hwq ▸ Keeps.drewN (Qt.refl w1) nq)
            have N2 := Lib.hid (N1.out.quiet Q2.out)
            have x1' := Q2.out.cellv x1
            clear x1
            have x1 := x1'
            clear x1'
            have x2' := Q2.out.cellv x2
            clear x2
            have x2 := x2'
            clear x2'
            have y1' := Q2.out.cellv y1
            clear y1
            have y1 := y1'
            clear y1'
            have y2' := Q2.out.cellv y2
            clear y2
            have y2 := y2'
            clear y2'
            rw [hwq]
            clear hwq nq
            have hb1 : xs.length + 1 ≤ maxLen := by have := HN.out; have := HX.out; have := HI2.out; unfold maxLen; omega
            have hb2 : (xs.length + 1) * 40 ≤ 140737488355328 := by have := HN.out; have := HX.out; have := HI2.out; omega
            have QA := Lib.hid (show Qt w2 (w2.alloc (Obj.cells #[.bool false, .string K2, .string V2] 29)).drew from Keeps.drew ((Qt.refl w2).alloc _))
            have OW := Lib.hid (ownsRow_kept N2.out.own QA.out (fun _ _ e => e))
            have NWS := Lib.hid (fun (j : Nat) (u : Value) (h : ([.bool false, .string K2, .string V2] : List Value)[j]? = some u) => Qt.cellv (Keeps.drew (Qt.refl (w2.alloc (Obj.cells #[.bool false, .string K2, .string V2] 29)))) (newsG w2 [.bool false, .string K2, .string V2] 29 j u h))
            have HNQ := Lib.hid N2.out.qt
            have HB1 := Lib.hid hb1
            have HB2 := Lib.hid hb2
            clear hb1 hb2
            go_wp2
            go_region_held3 (fun W' => W'.cell? ⟨g2, o2 + j * 2, none⟩ = some (.string K2) ∧ W'.cell? ⟨g2, o2 + j * 2 + 1, none⟩ = some (.string V2))
              (first | go_keep | exact KY.out _ (bw_qt FN.out) | exact KY.out _ (Qt.trans HNQ.out QA.out) | exact KY.out _ (HNQ.out.alloc _) | exact KY.out _ (Keeps.drew HNQ.out) | exact KY.out _ (Keeps.drew (HNQ.out.alloc _)))
              ((refine step_append_rows (by rfl) _ _ 22 (by rfl) 29 i0 (.agg #[.bool false, .string ⟨#[]⟩, .string ⟨#[]⟩]) 3 40 Tryd.underlying22 hi0 hz0 hz1 hz2 rfl (by decide) (.slice oa xs.length oc) xs.length (opsC xs) (by rfl) OW.out (some ⟨w2.heap.size, 0, none⟩) 1 1 [.bool false, .string K2, .string V2] (by rfl) (by rfl) (fun _ => ⟨_, rfl, NWS.out⟩) (by intro y hy; simp at hy; rcases hy with rfl | rfl | rfl <;> rfl) HB1.out HB2.out ?_; intro v4 x4 own4 gr4 la4; have FN := Lib.hid (bw_push N2.out QA.out HX.out HE.out HZ.out (i2 := i) (j2 := (j + 1)) (by have := HI2.out; omega) (by have := HI2.out; omega) (by omega) (by rw [HZC.out]; exact own4) gr4 la4); clear own4 gr4 la4))
            have HM := Lib.hid (bw_meas (i := i) (j := j) (i2 := i) (j2 := (j + 1)) (n := a.length) (m := b.length) (by omega) (by omega) (by omega) (by have := HI2.out; omega) (by have := HI2.out; omega))
            push_cast at FN HM
            go_wp2
            rw [hwj]
            exact ⟨FN.out, HM.out⟩
          | false =>
            by_cases hv : x.2 = y.2
            · have zk : Op.bytesLess K1.toList K2.toList = false := by rw [ByteArray.toList_eq, ByteArray.toList_eq, hK1l, hK2l]; exact hlt
              have zg : Op.bytesLess K2.toList K1.toList = false := by rw [ByteArray.toList_eq, ByteArray.toList_eq, hK2l, hK1l]; exact hgt
              have ze : (V1.toList == V2.toList) = true := by rw [Bool.eq_iff_iff]; simp [ByteArray.toList_eq, hV1l, hV2l, hv]
              have zn : (V1.toList != V2.toList) = false := by rw [bne, ze]; rfl
              have HZ := Lib.hid (bw_c6 hx hy hlt hgt hv)
              clear hK1 hK2 hK1l hK2l hV1 hV2 hV1l hV2l hx hy hlt hgt hv hi hj
              go_wp2
              go_quiet (fail)
              obtain ⟨w1, hwq⟩ : ∃ W, wr.drewN nq = W := ⟨_, rfl⟩
              have Q1 := Lib.hid (show Qt wr w1 from hwq ▸ Keeps.drewN (Qt.refl wr) nq)
              have N1 := Lib.hid (HNO.out.quiet Q1.out)
              have x1' := Q1.out.cellv x1
              clear x1
              have x1 := x1'
              clear x1'
              have x2' := Q1.out.cellv x2
              clear x2
              have x2 := x2'
              clear x2'
              have y1' := Q1.out.cellv y1
              clear y1
              have y1 := y1'
              clear y1'
              have y2' := Q1.out.cellv y2
              clear y2
              have y2 := y2'
              clear y2'
              rw [hwq]
              clear hwq nq
              go_wp2
              go_quiet (fail)
              obtain ⟨w2, hwq⟩ : ∃ W, w1.drewN nq = W := ⟨_, rfl⟩
              have Q2 := Lib.hid (show Qt w1 w2 from hwq ▸ Keeps.drewN (Qt.refl w1) nq)
              have N2 := Lib.hid (N1.out.quiet Q2.out)
              have x1' := Q2.out.cellv x1
              clear x1
              have x1 := x1'
              clear x1'
              have x2' := Q2.out.cellv x2
              clear x2
              have x2 := x2'
              clear x2'
              have y1' := Q2.out.cellv y1
              clear y1
              have y1 := y1'
              clear y1'
              have y2' := Q2.out.cellv y2
              clear y2
              have y2 := y2'
              clear y2'
              rw [hwq]
              clear hwq nq
              go_wp2
              go_quiet (fail)
              obtain ⟨w3, hwq⟩ : ∃ W, w2.drewN nq = W := ⟨_, rfl⟩
              have Q3 := Lib.hid (show Qt w2 w3 from hwq ▸ Keeps.drewN (Qt.refl w2) nq)
              have N3 := Lib.hid (N2.out.quiet Q3.out)
              have x1' := Q3.out.cellv x1
              clear x1
              have x1 := x1'
              clear x1'
              have x2' := Q3.out.cellv x2
              clear x2
              have x2 := x2'
              clear x2'
              have y1' := Q3.out.cellv y1
              clear y1
              have y1 := y1'
              clear y1'
              have y2' := Q3.out.cellv y2
              clear y2
              have y2 := y2'
              clear y2'
              rw [hwq]
              clear hwq nq
              have FN := Lib.hid (show BwAt w a b (.slice oa xs.length oc) (.int .i64 ((i + 1 : Nat) : Int)) (.int .i64 ((j + 1 : Nat) : Int)) w3 from ⟨i + 1, j + 1, xs, HI2.out.1, HI2.out.2, rfl, rfl, by have := HX.out; omega, N3.out, by rw [← HE.out, HZ.out]⟩)
              have HM := Lib.hid (bw_meas (i := i) (j := j) (i2 := (i + 1)) (j2 := (j + 1)) (n := a.length) (m := b.length) (by omega) (by omega) (by omega) (by have := HI2.out; omega) (by have := HI2.out; omega))
              push_cast at FN HM
              go_wp2
              rw [hwi]
              rw [hwj]
              exact ⟨FN.out, HM.out⟩
            · have zk : Op.bytesLess K1.toList K2.toList = false := by rw [ByteArray.toList_eq, ByteArray.toList_eq, hK1l, hK2l]; exact hlt
              have zg : Op.bytesLess K2.toList K1.toList = false := by rw [ByteArray.toList_eq, ByteArray.toList_eq, hK2l, hK1l]; exact hgt
              have ze : (V1.toList == V2.toList) = false := by rw [Bool.eq_iff_iff]; simp [ByteArray.toList_eq, hV1l, hV2l, hv]
              have zn : (V1.toList != V2.toList) = true := by rw [bne, ze]; rfl
              have KY := Lib.hid (fun (W : World) (q : Qt w W) => (show W.cell? ⟨g2, o2 + j * 2, none⟩ = some (.string K2) ∧ W.cell? ⟨g2, o2 + j * 2 + 1, none⟩ = some (.string V2) from by have h := RowsIn.cell (recs_turn HB.out q) hy; rw [hK2, hV2] at h; exact h))
              have HZ := Lib.hid (bw_c5 hx hy hlt hgt hv)
              have HZC := Lib.hid (show opC ⟨false, y.1, y.2⟩ = [.bool false, .string K2, .string V2] by rw [← hK2, ← hV2]; rfl)
              clear hK1 hK2 hK1l hK2l hV1 hV2 hV1l hV2l hx hy hlt hgt hv hi hj
              go_wp2
              go_quiet (fail)
              obtain ⟨w1, hwq⟩ : ∃ W, wr.drewN nq = W := ⟨_, rfl⟩
              have Q1 := Lib.hid (show Qt wr w1 from hwq ▸ Keeps.drewN (Qt.refl wr) nq)
              have N1 := Lib.hid (HNO.out.quiet Q1.out)
              have x1' := Q1.out.cellv x1
              clear x1
              have x1 := x1'
              clear x1'
              have x2' := Q1.out.cellv x2
              clear x2
              have x2 := x2'
              clear x2'
              have y1' := Q1.out.cellv y1
              clear y1
              have y1 := y1'
              clear y1'
              have y2' := Q1.out.cellv y2
              clear y2
              have y2 := y2'
              clear y2'
              rw [hwq]
              clear hwq nq
              go_wp2
              go_quiet (fail)
              obtain ⟨w2, hwq⟩ : ∃ W, w1.drewN nq = W := ⟨_, rfl⟩
              have Q2 := Lib.hid (show Qt w1 w2 from hwq ▸ Keeps.drewN (Qt.refl w1) nq)
              have N2 := Lib.hid (N1.out.quiet Q2.out)
              have x1' := Q2.out.cellv x1
              clear x1
              have x1 := x1'
              clear x1'
              have x2' := Q2.out.cellv x2
              clear x2
              have x2 := x2'
              clear x2'
              have y1' := Q2.out.cellv y1
              clear y1
              have y1 := y1'
              clear y1'
              have y2' := Q2.out.cellv y2
              clear y2
              have y2 := y2'
              clear y2'
              rw [hwq]
              clear hwq nq
              go_wp2
              go_quiet (fail)
              obtain ⟨w3, hwq⟩ : ∃ W, w2.drewN nq = W := ⟨_, rfl⟩
              have Q3 := Lib.hid (show Qt w2 w3 from hwq ▸ Keeps.drewN (Qt.refl w2) nq)
              have N3 := Lib.hid (N2.out.quiet Q3.out)
              have x1' := Q3.out.cellv x1
              clear x1
              have x1 := x1'
              clear x1'
              have x2' := Q3.out.cellv x2
              clear x2
              have x2 := x2'
              clear x2'
              have y1' := Q3.out.cellv y1
              clear y1
              have y1 := y1'
              clear y1'
              have y2' := Q3.out.cellv y2
              clear y2
              have y2 := y2'
              clear y2'
              rw [hwq]
              clear hwq nq
              have hb1 : xs.length + 1 ≤ maxLen := by have := HN.out; have := HX.out; have := HI2.out; unfold maxLen; omega
              have hb2 : (xs.length + 1) * 40 ≤ 140737488355328 := by have := HN.out; have := HX.out; have := HI2.out; omega
              have QA := Lib.hid (show Qt w3 (w3.alloc (Obj.cells #[.bool false, .string K2, .string V2] 29)).drew from Keeps.drew ((Qt.refl w3).alloc _))
              have OW := Lib.hid (ownsRow_kept N3.out.own QA.out (fun _ _ e => e))
              have NWS := Lib.hid (fun (j : Nat) (u : Value) (h : ([.bool false, .string K2, .string V2] : List Value)[j]? = some u) => Qt.cellv (Keeps.drew (Qt.refl (w3.alloc (Obj.cells #[.bool false, .string K2, .string V2] 29)))) (newsG w3 [.bool false, .string K2, .string V2] 29 j u h))
              have HNQ := Lib.hid N3.out.qt
              have HB1 := Lib.hid hb1
              have HB2 := Lib.hid hb2
              clear hb1 hb2
              go_wp2
              go_region_held3 (fun W' => W'.cell? ⟨g2, o2 + j * 2, none⟩ = some (.string K2) ∧ W'.cell? ⟨g2, o2 + j * 2 + 1, none⟩ = some (.string V2))
                (first | go_keep | exact KY.out _ (bw_qt FN.out) | exact KY.out _ (Qt.trans HNQ.out QA.out) | exact KY.out _ (HNQ.out.alloc _) | exact KY.out _ (Keeps.drew HNQ.out) | exact KY.out _ (Keeps.drew (HNQ.out.alloc _)))
                ((refine step_append_rows (by rfl) _ _ 22 (by rfl) 29 i0 (.agg #[.bool false, .string ⟨#[]⟩, .string ⟨#[]⟩]) 3 40 Tryd.underlying22 hi0 hz0 hz1 hz2 rfl (by decide) (.slice oa xs.length oc) xs.length (opsC xs) (by rfl) OW.out (some ⟨w3.heap.size, 0, none⟩) 1 1 [.bool false, .string K2, .string V2] (by rfl) (by rfl) (fun _ => ⟨_, rfl, NWS.out⟩) (by intro y hy; simp at hy; rcases hy with rfl | rfl | rfl <;> rfl) HB1.out HB2.out ?_; intro v4 x4 own4 gr4 la4; have FN := Lib.hid (bw_push N3.out QA.out HX.out HE.out HZ.out (i2 := (i + 1)) (j2 := (j + 1)) (by have := HI2.out; omega) (by have := HI2.out; omega) (by omega) (by rw [HZC.out]; exact own4) gr4 la4); clear own4 gr4 la4))
              have HM := Lib.hid (bw_meas (i := i) (j := j) (i2 := (i + 1)) (j2 := (j + 1)) (n := a.length) (m := b.length) (by omega) (by omega) (by omega) (by have := HI2.out; omega) (by have := HI2.out; omega))
              push_cast at FN HM
              go_wp2
              rw [hwi]
              rw [hwj]
              exact ⟨FN.out, HM.out⟩
      · have hje : j = b.length := by have := HJ.out; omega
        have zj : decide ((j : Int) < (b.length : Int)) = false := decide_eq_false (by omega)
        have zj' : decide (j < b.length) = false := decide_eq_false hj
        have zje : ((j : Int) == (b.length : Int)) = true := beq_iff_eq.2 (by omega)
        have HI2 := Lib.hid (And.intro hi HJ.out)
        have HZ := Lib.hid (bw_c1 (a := a) (b := b) (i := i) (j := j) hx (by omega))
        have HZC := Lib.hid (show opC ⟨true, x.1, []⟩ = [.bool true, .string K1, .string ⟨#[]⟩] by rw [← hK1]; rfl)
        clear hK1 hK1l hV1 hV1l hx hi hj hje
        go_wp2
        go_quiet (fail)
        obtain ⟨w1, hwq⟩ : ∃ W, wr.drewN nq = W := ⟨_, rfl⟩
        have Q1 := Lib.hid (show Qt wr w1 from hwq ▸ Keeps.drewN (Qt.refl wr) nq)
        have N1 := Lib.hid (HNO.out.quiet Q1.out)
        have x1' := Q1.out.cellv x1
        clear x1
        have x1 := x1'
        clear x1'
        have x2' := Q1.out.cellv x2
        clear x2
        have x2 := x2'
        clear x2'
        rw [hwq]
        clear hwq nq
        have hb1 : xs.length + 1 ≤ maxLen := by have := HN.out; have := HX.out; have := HI2.out; unfold maxLen; omega
        have hb2 : (xs.length + 1) * 40 ≤ 140737488355328 := by have := HN.out; have := HX.out; have := HI2.out; omega
        have OW := Lib.hid (fun o => (show (w1.alloc o).ownsRow 0 29 3 (.slice oa xs.length oc) xs.length (opsC xs) from ownsRow_kept N1.out.own ((Keeps.refl (fun _ => False) _).alloc o) (fun _ _ e => e)))
        have QA := Lib.hid (show Qt w1 (w1.alloc (Obj.cells #[.bool true, .string K1, .string ⟨#[]⟩] 29)) from (Qt.refl w1).alloc _)
        go_wp2_with (at_builtin; refine wpList_append_rows _ rfl _ _ 22 rfl 29 i0 (.agg #[.bool false, .string ⟨#[]⟩, .string ⟨#[]⟩]) 3 40 Tryd.underlying22 hi0 hz0 hz1 hz2 rfl (by decide) _ xs.length (opsC xs) rfl (OW.out _) (some ⟨w1.heap.size, 0, none⟩) 1 1 [.bool true, .string K1, .string ⟨#[]⟩] rfl rfl (fun _ => ⟨_, rfl, newsG w1 [.bool true, .string K1, .string ⟨#[]⟩] 29⟩) (by intro y hy; simp at hy; rcases hy with rfl | rfl | rfl <;> rfl) hb1 hb2 ?_)
        intro v4 x4 own4 gr4 la4
        have FN := Lib.hid (bw_push N1.out QA.out HX.out HE.out HZ.out (i2 := (i + 1)) (j2 := j) (by have := HI2.out; omega) (by have := HI2.out; omega) (by omega) (by rw [HZC.out]; exact own4) gr4 la4)
        clear own4 gr4 la4 hb1 hb2
        have HM := Lib.hid (bw_meas (i := i) (j := j) (i2 := (i + 1)) (j2 := j) (n := a.length) (m := b.length) (by omega) (by omega) (by omega) (by have := HI2.out; omega) (by have := HI2.out; omega))
        push_cast at FN HM
        go_wp2
        rw [hwi]
        exact ⟨FN.out, HM.out⟩
    · have hie : i = a.length := by have := HI.out; omega
      have zi : decide ((i : Int) < (a.length : Int)) = false := decide_eq_false (by omega)
      have zi' : decide (i < a.length) = false := decide_eq_false hi
      have zie : ((i : Int) == (a.length : Int)) = true := beq_iff_eq.2 (by omega)
      by_cases hj : j < b.length
      · have zj : decide ((j : Int) < (b.length : Int)) = true := decide_eq_true (by omega)
        have zj' : decide (j < b.length) = true := decide_eq_true hj
        have zje : ((j : Int) == (b.length : Int)) = false := beq_eq_false_iff_ne.2 (by omega)
        have j01 : (j : Int) < (b.length : Int) := by omega
        obtain ⟨y, c2, hy, e0⟩ := HB.out.elem hj
        injection e0 with e0 q1 q2
        clear q1 q2
        subst e0
        obtain ⟨y1, y2⟩ := RowsIn.cell (recs_turn HB.out HNO.out.qt) hy
        obtain ⟨K2, hK2, hK2l⟩ : ∃ K : ByteArray, strV y.1 = .string K ∧ K.data.toList = y.1 := ⟨⟨y.1.toArray⟩, rfl, rfl⟩
        obtain ⟨V2, hV2, hV2l⟩ : ∃ K : ByteArray, strV y.2 = .string K ∧ K.data.toList = y.2 := ⟨⟨y.2.toArray⟩, rfl, rfl⟩
        rw [hK2] at y1
        rw [hV2] at y2
        have HI2 := Lib.hid (And.intro HI.out hj)
        have KY := Lib.hid (fun (W : World) (q : Qt w W) => (show W.cell? ⟨g2, o2 + j * 2, none⟩ = some (.string K2) ∧ W.cell? ⟨g2, o2 + j * 2 + 1, none⟩ = some (.string V2) from by have h := RowsIn.cell (recs_turn HB.out q) hy; rw [hK2, hV2] at h; exact h))
        have HZ := Lib.hid (bw_c3 (a := a) (b := b) (i := i) (j := j) (by omega) hy)
        have HZC := Lib.hid (show opC ⟨false, y.1, y.2⟩ = [.bool false, .string K2, .string V2] by rw [← hK2, ← hV2]; rfl)
        clear hK2 hK2l hV2 hV2l hy hi hj hie
        go_wp2
        go_quiet (fail)
        obtain ⟨w1, hwq⟩ : ∃ W, wr.drewN nq = W := ⟨_, rfl⟩
        have Q1 := Lib.hid (show Qt wr w1 from hwq ▸ Keeps.drewN (Qt.refl wr) nq)
        have N1 := Lib.hid (HNO.out.quiet Q1.out)
        have y1' := Q1.out.cellv y1
        clear y1
        have y1 := y1'
        clear y1'
        have y2' := Q1.out.cellv y2
        clear y2
        have y2 := y2'
        clear y2'
        rw [hwq]
        clear hwq nq
        go_wp2
        go_quiet (fail)
        obtain ⟨w2, hwq⟩ : ∃ W, w1.drewN nq = W := ⟨_, rfl⟩
        have Q2 := Lib.hid (show Qt w1 w2 from hwq ▸ Keeps.drewN (Qt.refl w1) nq)
        have N2 := Lib.hid (N1.out.quiet Q2.out)
        have y1' := Q2.out.cellv y1
        clear y1
        have y1 := y1'
        clear y1'
        have y2' := Q2.out.cellv y2
        clear y2
        have y2 := y2'
        clear y2'
        rw [hwq]
        clear hwq nq
        have hb1 : xs.length + 1 ≤ maxLen := by have := HN.out; have := HX.out; have := HI2.out; unfold maxLen; omega
        have hb2 : (xs.length + 1) * 40 ≤ 140737488355328 := by have := HN.out; have := HX.out; have := HI2.out; omega
        have QA := Lib.hid (show Qt w2 (w2.alloc (Obj.cells #[.bool false, .string K2, .string V2] 29)).drew from Keeps.drew ((Qt.refl w2).alloc _))
        have OW := Lib.hid (ownsRow_kept N2.out.own QA.out (fun _ _ e => e))
        have NWS := Lib.hid (fun (j : Nat) (u : Value) (h : ([.bool false, .string K2, .string V2] : List Value)[j]? = some u) => Qt.cellv (Keeps.drew (Qt.refl (w2.alloc (Obj.cells #[.bool false, .string K2, .string V2] 29)))) (newsG w2 [.bool false, .string K2, .string V2] 29 j u h))
        have HNQ := Lib.hid N2.out.qt
        have HB1 := Lib.hid hb1
        have HB2 := Lib.hid hb2
        clear hb1 hb2
        go_wp2
        go_region_held3 (fun W' => W'.cell? ⟨g2, o2 + j * 2, none⟩ = some (.string K2) ∧ W'.cell? ⟨g2, o2 + j * 2 + 1, none⟩ = some (.string V2))
          (first | go_keep | exact KY.out _ (bw_qt FN.out) | exact KY.out _ (Qt.trans HNQ.out QA.out) | exact KY.out _ (HNQ.out.alloc _) | exact KY.out _ (Keeps.drew HNQ.out) | exact KY.out _ (Keeps.drew (HNQ.out.alloc _)))
          ((refine step_append_rows (by rfl) _ _ 22 (by rfl) 29 i0 (.agg #[.bool false, .string ⟨#[]⟩, .string ⟨#[]⟩]) 3 40 Tryd.underlying22 hi0 hz0 hz1 hz2 rfl (by decide) (.slice oa xs.length oc) xs.length (opsC xs) (by rfl) OW.out (some ⟨w2.heap.size, 0, none⟩) 1 1 [.bool false, .string K2, .string V2] (by rfl) (by rfl) (fun _ => ⟨_, rfl, NWS.out⟩) (by intro y hy; simp at hy; rcases hy with rfl | rfl | rfl <;> rfl) HB1.out HB2.out ?_; intro v4 x4 own4 gr4 la4; have FN := Lib.hid (bw_push N2.out QA.out HX.out HE.out HZ.out (i2 := i) (j2 := (j + 1)) (by have := HI2.out; omega) (by have := HI2.out; omega) (by omega) (by rw [HZC.out]; exact own4) gr4 la4); clear own4 gr4 la4))
        have HM := Lib.hid (bw_meas (i := i) (j := j) (i2 := i) (j2 := (j + 1)) (n := a.length) (m := b.length) (by omega) (by omega) (by omega) (by have := HI2.out; omega) (by have := HI2.out; omega))
        push_cast at FN HM
        go_wp2
        rw [hwj]
        exact ⟨FN.out, HM.out⟩
      · have hje : j = b.length := by have := HJ.out; omega
        have zj : decide ((j : Int) < (b.length : Int)) = false := decide_eq_false (by omega)
        have zj' : decide (j < b.length) = false := decide_eq_false hj
        have zje : ((j : Int) == (b.length : Int)) = true := beq_iff_eq.2 (by omega)
        have FIN := Lib.hid (show xs = Bt.between a b by rw [← HE.out, bw_end (by omega) (by omega), List.append_nil])
        clear hi hj hie hje
        go_wp2
        go_ret
        refine ⟨_, rfl, ?_⟩
        rw [← FIN.out]
        exact HNO.out
end Go.Proofs.YtffjleceogablaaDoor
