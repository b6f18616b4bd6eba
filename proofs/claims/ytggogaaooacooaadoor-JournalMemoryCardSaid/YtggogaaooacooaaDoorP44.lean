/-
  The contract of remitlaw10.JournalMemory: it answers true.
-/
import Derived.Test.YtggogaaooacooaaDoorP43
namespace Go.Proofs.YtggogaaooacooaaDoor
open Go.RowKit Go.WideShapes Go.Shelf
attribute [local go_sem] Oper.semAt_some
set_option maxRecDepth 100000

theorem nums_qt {W W' : World} {v : Value} {l : List Int} (h : Nums W v l) (q : Qt W W') : Nums W' v l := by
  obtain ⟨a, c, e, h⟩ := h
  refine ⟨a, c, e, fun k x hk => ?_⟩
  obtain ⟨g, o, e2, h2⟩ := h k x hk
  exact ⟨g, o, e2, q.cellv h2⟩
theorem mem_start (w2 w3 w4 : World) {wa : World} {b q : Nat} (hD : DK (fun k => w2.heap.size ≤ k) wa w3 b (DS.newD 64)) (h2 : w2.heap.size ≤ q) (hc : CJ w3 q b ⟨1, 60, 7, 0, false, (DS.newD 64).cr⟩) (h4 : w3.alloc (.cells #[.slice none 0 0] 66) = w4) :
    MmS wa w4 b q w3.heap.size (DS.newD 64).dur [] (DS.newD 64) (.slice none 0 0) := by
  have q4 : Qt w3 w4 := h4 ▸ (Qt.refl w3).alloc _
  have hl : (DS.newD 64).dur.length = 64 := by simp [DS.newD]
  refine ⟨rowT_nil _, fun g hg => (by cases hg), J.Alive.start rfl rfl (by rw [hl]; decide), by decide, ⟨Nat.le_refl _, Nat.le_refl _, Nat.le_refl _⟩, (hD.more (fun k e => ?_)).qt q4, hc.qt q4, h4 ▸ Boxed.new w3 66 (.slice none 0 0)⟩
  have := hc.lt
  rcases e with e | e | e
  · exact .inl (by omega)
  · exact .inl (by omega)
  · cases e

set_option maxHeartbeats 6400000 in
theorem memoryJ_any (ad : Nat → Addr) (sv : Value) (sizes : List Int) (stop : Int) (w : World) (hs : Nums w sv sizes) (hsl : sizes.length ≤ 140737488355328) (hE : Errs ad w) (hT : Tab w) :
    Calls Tryd.prog 7 #[sv, .int .i64 stop] w fun e w' => e = .returned (.bool true) ∧ Qt w w' := by
  refine (callsIn_wide (n := 5)).1 ?_
  refine callsIn_of_wp_marks Tryd.func7 rfl trivial ?_ rfl
  simp only [Tryd.ntmps7, List.size_toArray, List.length_cons, List.length_nil, Nat.reduceAdd, Nat.reduceSub, Array.replicate_succ, Array.replicate_zero, List.push_toArray, List.append_toArray, List.nil_append, List.cons_append]
  refine wpIn_wide.2 ?_
  obtain ⟨sa, sc, hsv, hsc⟩ := hs
  subst hsv
  have HS := Lib.hid (show Nums w (.slice sa sizes.length sc) sizes from ⟨sa, sc, rfl, hsc⟩)
  have HSL := Lib.hid hsl
  have HE0 := Lib.hid hE
  have HT0 := Lib.hid hT
  obtain ⟨i0, hi0, hz0', hz1, hz2⟩ := info_parts infoStrT
  clear hE hT hsl hsc
  go_wp2_with fail
  obtain ⟨wa, hwa⟩ : ∃ W, (w.alloc (.cells #[.int .i64 stop] 3)).alloc (.cells #[.bool false] 4) = W := ⟨_, rfl⟩
  have QA := Lib.hid (show Qt w wa from hwa ▸ ((Qt.refl w).alloc _).alloc _)
  have BS := Lib.hid (show Boxed wa w.heap.size 3 (.int .i64 stop) from hwa ▸ (Boxed.new w 3 (.int .i64 stop)).alloc _)
  have BR := Lib.hid (show Boxed wa (w.heap.size + 1) 4 (.bool false) from by
    have h := Boxed.new (w.alloc (.cells #[.int .i64 stop] 3)) 4 (.bool false)
    rw [World.size_alloc] at h
    exact hwa ▸ h)
  rw [hwa]
  clear hwa
  have HE := Lib.hid (HE0.out.kept QA.out (OffErrs.none ad))
  have HT := Lib.hid (HT0.out.qt QA.out)
  have NU := Lib.hid (nums_qt HS.out QA.out)
  have FX := fixedJ_any ad wa HE.out HT.out
  refine FX.mono ?_
  rintro e w1 ⟨rfl, q1⟩
  have Q1 := Lib.hid q1
  have NW := new_any ad 64 w1 (HE.out.kept q1 (OffErrs.none ad))
  clear q1 FX
  go_wp2_with fail
  refine NW.mono ?_
  rintro e w2 (⟨hno, rfl, q2⟩ | ⟨n1, n2, b, rfl, hD, q2⟩)
  · exact absurd ⟨by decide, by decide⟩ hno
  have D2 := Lib.hid (show DK (fun k => w2.heap.size ≤ k) wa w2 b (DS.newD 64) from dk_new Q1.out hD q2)
  have BG := dk_begin HE.out D2.out 1 60 7 (by decide)
  have Z2 := Lib.hid (Nat.le_trans Q1.out.size q2.size)
  clear hD q2 NW n1 n2
  go_wp2_with fail
  refine BG.mono ?_
  rintro e w3 hb
  obtain ⟨q3, q, hq1, rfl, hc⟩ := begin_ok (i := 1) (n := 60) (v := 7) hb (J.refE_zero (by simp [DS.newD]) (by decide) (by decide) (by decide) rfl)
  have D3 := D2.out.qt q3
  have QG := Lib.hid (show wa.heap.size ≤ q from Nat.le_trans Z2.out hq1)
  obtain ⟨w4, h4⟩ : ∃ W, w3.alloc (.cells #[.slice none 0 0] 66) = W := ⟨_, rfl⟩
  have S4 := Lib.hid (mem_start w2 w3 w4 D3 hq1 hc h4)
  have QL := Lib.hid (show q < w3.heap.size from hc.lt)
  have START := Lib.hid (show MmAt wa b q w3.heap.size sizes.length (DS.newD 64).dur (.int .i64 0) w4 from ⟨0, [], _, _, Nat.zero_le _, rfl, S4.out⟩)
  obtain ⟨D, hD⟩ : ∃ D, (DS.newD 64).dur = D := ⟨_, rfl⟩
  have BK := Lib.hid (show J.Backs D 1 60 0 from hD ▸ J.backs_new (by decide))
  rw [hD] at START
  clear hb q3 hq1 hc D3 BG S4 hD Z2 D2
  go_wp2
  clear h4
  generalize w3.heap.size = lb at *
  go_loopw [52] (fun iv wr => MmAt wa b q lb sizes.length D iv wr) (fun iv _ => sizes.length - (intOf iv).toNat)
  case atStart => exact START.out
  case round =>
    obtain ⟨k, all, dk, av, hk, rfl, HS⟩ := hrel
    obtain ⟨aa, ac, rfl, hacl, haa⟩ := HS.row.shape
    have hS := Lib.hid HS
    have HALB := Lib.hid HS.len
    clear HS hacl haa
    by_cases hlt : k < sizes.length
    · obtain ⟨x, gx, ox, cx, ex, hx⟩ := nums_at NU.out hlt
      injection ex with ex1 ex2 ex3
      subst ex1 ex3
      have hcell := hS.out.dk.since.qt.cellv hx
      have zlt := sj_lt hlt
      have zlt' : decide (k < sizes.length) = true := decide_eq_true hlt
      obtain ⟨ik0, ik1⟩ := sj_in hlt
      have hkb : k ≤ 140737488355328 := Nat.le_trans (Nat.le_of_lt hlt) HSL.out
      have hk1 := sj_w1b hkb
      have hzb : modU x 3001 ≤ 3000 := by have := Nat.mod_lt ((x % 18446744073709551616).toNat) (show 0 < 3001 by decide); unfold modU; omega
      obtain ⟨rv, hrv⟩ : ∃ rv, recB (k : Int) (modU x 3001) = rv := ⟨_, rfl⟩
      have hrl : rv.length ≤ 3000 := by rw [← hrv, recB_length]; exact hzb
      obtain ⟨R, hR, hRl⟩ : ∃ R : ByteArray, R = ⟨rv.toArray⟩ ∧ R.data.toList = rv := ⟨_, rfl, rfl⟩
      have hRs : R.size ≤ 3000 := by rw [← dlen7, hRl]; exact hrl
      have RC := Lib.hid (fun W => record_any x (k : Int) W)
      rw [hrv, ← hR] at RC
      have HSTR := Lib.hid (show strV rv = .string R by rw [hR]; rfl)
      have HRB := Lib.hid (show rv.length < 4294967296 by omega)
      have HRS := Lib.hid (show R.size ≤ 1099511627776 by omega)
      have HLT := Lib.hid hlt
      have HME := Lib.hid (sj_meas hlt)
      have AP := Lib.hid (fun (W : World) (S3 : MmS wa W b q lb D all dk (.slice aa all.length ac)) => dk_appendM HE.out HT.out (gv_ge QG.out QL.out S3.new) S3.lt (.inl rfl) S3.dk (S3.cnt.few S3.alive (show 60 ≤ 64 by decide)) (by decide) (by decide) S3.cj S3.fine R HRS.out)
      rw [hRl] at AP
      clear hx hlt hkb hzb hrv hrl hR hRl hRs hk
      go_wp2_with fail
      refine (RC.out _).mono ?_
      rintro e w5 ⟨rfl, q5⟩
      have S5 := Lib.hid (hS.out.qt q5)
      have AX := AP.out _ S5.out
      clear q5 hcell RC
      rcases J.mem_append S5.out.alive S5.out.calm S5.out.cnt (show 60 ≤ 64 by decide) rv HRB.out with ea | ⟨d2, ea, hA, hc, hcalm⟩
      · rw [ea] at AX
        clear ea
        go_wp2_with fail
        refine AX.mono ?_
        rintro e w6 h6
        obtain ⟨rfl, dk6, cj6, k6⟩ := jkp_no h6
        have FN := Lib.hid (show MmAt wa b q lb sizes.length D (.int .i64 ((k : Int) + 1)) w6 from ⟨k + 1, all, dk, _, HLT.out, rfl, S5.out.next QL.out k6 dk6 cj6⟩)
        clear h6 dk6 cj6 k6 AX
        go_wp2
        rw [hk1]
        exact ⟨FN.out, HME.out⟩
      · rw [ea] at AX
        clear ea
        have HA := Lib.hid (show J.Alive D (all ++ [rv]) 0 (jOf 1 60 7 0 (J.total (all ++ [rv]))) d2 from by rw [J.total_snoc]; exact hA)
        have HCN := Lib.hid hc
        have HCM := Lib.hid hcalm
        clear hA hc hcalm
        go_wp2_with fail
        refine AX.mono ?_
        rintro e w6 h6
        obtain ⟨rfl, dk6, cj6, k6⟩ := jkp_ok h6
        have CJ6 := Lib.hid (show CJ w6 q b (jOf 1 60 7 0 (J.total (all ++ [rv]))) from by rw [J.total_snoc]; exact cj6)
        have DK6 := Lib.hid dk6
        have RB6 := Lib.hid (S5.out.call QL.out k6)
        clear h6 dk6 cj6 k6 AX
        have HOW := Lib.hid (fun o => (show (w6.alloc o).ownsRow 0 9 1 (.slice aa all.length ac) all.length (all.map strV) from ownsRow_kept RB6.out.1 ((Keeps.refl (fun _ => False) w6).alloc o) (fun _ _ h => h)))
        have hb1 : all.length + 1 ≤ maxLen := by have := HALB.out; unfold maxLen; omega
        have hb2 : (all.length + 1) * 16 ≤ 140737488355328 := by have := HALB.out; omega
        have c6 := RB6.out.2.cell
        go_wp2_with (at_builtin; refine wpList_append_cells0 _ rfl _ _ 66 rfl 9 i0 (.string ⟨#[]⟩) 1 16 Tryd.underlying66 hi0 hz0' hz1 hz2 rfl (by decide) _ all.length _ rfl (HOW.out _) ⟨w6.heap.size, 0, none⟩ 1 1 [.string R] rfl rfl ?c1 ?c2 hb1 hb2 ?_)
        case c1 => exact newsT1 w6 R
        case c2 => intro x hx; simp at hx; subst hx; rfl
        intro v' w7 own7 hg7 hl7 _
        obtain ⟨b7, row8, new8, dk8, cj8, box8⟩ := mm_more (t := rv) QL.out QG.out S5.out.new DK6.out CJ6.out RB6.out.2 _ (by rw [HSTR.out]; exact own7) hg7 hl7
        obtain ⟨g', cap', rfl⟩ := ownsRow_succ own7
        have c7 := b7.cell
        have f7 := b7.frozen
        have FN := Lib.hid (show MmAt wa b q lb sizes.length D (.int .i64 ((k : Int) + 1)) _ from ⟨k + 1, all ++ [rv], d2, _, HLT.out, rfl, ⟨row8, new8, HA.out, HCM.out, HCN.out, dk8, cj8, box8⟩⟩)
        clear row8 new8 dk8 cj8 box8 own7 hg7 hl7 b7 c6
        go_wp2
        rw [hk1]
        exact ⟨FN.out, HME.out⟩
    · obtain rfl : k = sizes.length := by omega
      obtain ⟨x0, hx0⟩ : ∃ W : World, W = wr := ⟨_, rfl⟩
      subst hx0
      have zlt : decide ((sizes.length : Int) < (sizes.length : Int)) = false := decide_eq_false (by omega)
      have zlt' : decide (sizes.length < sizes.length) = false := decide_eq_false (by omega)
      have HRP := Lib.hid (show J.replay dk 1 60 7 = (all, 0) from J.alive_replay hS.out.alive BK.out (show 0 < 7 by decide) (show 7 ≤ 1099511627776 by decide) (show 60 < 65536 by decide))
      have RP := dk_replay HE.out HT.out hS.out.dk 1 60 7 (by decide)
      rw [HRP.out] at RP
      clear hlt hk START
      go_wp2_with fail
      refine RP.mono ?_
      rintro e x1 h1
      obtain ⟨va, rfl, N1⟩ := rpJ_ok h1
      obtain ⟨ya, yc, rfl⟩ := N1.shape
      have HN1 := Lib.hid N1
      have S1 := Lib.hid (hS.out.qt N1.qt)
      have RP2 := dk_replay HE.out HT.out S1.out.dk 1 60 7 (by decide)
      rw [HRP.out] at RP2
      clear h1 N1 RP zlt zlt'
      go_wp2_with fail
      refine RP2.mono ?_
      rintro e x2 h2
      obtain ⟨vb, rfl, N2⟩ := rpJ_ok h2
      obtain ⟨yb, yd, rfl⟩ := N2.shape
      have HN2 := Lib.hid N2
      have S2 := Lib.hid (S1.out.qt N2.qt)
      have EA := dk_eachW HE.out HT.out S2.out.dk 1 60 7 (by decide)
      rw [HRP.out] at EA
      clear h2 N2 RP2
      go_wp2_with fail
      refine EA.mono ?_
      rintro e x3 ⟨fv, rfl, hE3, q3⟩
      have HEW := Lib.hid hE3
      obtain ⟨gf, fb, rfl, hen, hseq⟩ := hE3
      have HEN := Lib.hid hen
      have HSQ := Lib.hid hseq
      clear hen hseq
      have hne : ∀ W, (binOp .eql 71 (.func (.func gf) #[] fb) .nilFunc).run Tryd.prog W = .ok (.bool false) W := func_nil gf fb
      have S3 := Lib.hid (S2.out.qt q3)
      have TA := Lib.hid (HN1.out.texts.qt (Qt.trans HN2.out.qt q3))
      have TB := Lib.hid (HN2.out.texts.qt q3)
      have TL := Lib.hid S3.out.row.texts
      have LE := Lib.hid (show all.length ≤ 140737488355328 by have := HALB.out; omega)
      have c3 := S3.out.box.cell
      have SA := same_yes TA.out TL.out LE.out
      have Q3 := Lib.hid q3
      clear q3 EA
      go_wp2_with fail
      refine SA.mono ?_
      rintro e x4 ⟨rfl, q4⟩
      have Q4 := Lib.hid q4
      have TB4 := Lib.hid (TB.out.qt q4)
      have S4 := Lib.hid (S3.out.qt q4)
      have TL4 := Lib.hid S4.out.row.texts
      have c4 := S4.out.box.cell
      have SB := same_yes TB4.out TL4.out LE.out
      clear q4 SA c3
      go_wp2_with fail
      refine SB.mono ?_
      rintro e x5 ⟨rfl, q5⟩
      have Q35 := Lib.hid (Qt.trans Q4.out q5)
      have Q15 := Lib.hid (Qt.trans (Qt.trans HN2.out.qt Q3.out) Q35.out)
      clear q5 SB c4
      have HA5 := Lib.hid (show x5.ownsRow 0 9 1 (.slice ya all.length yc) all.length (all.map strV) from ownsRow_kept HN1.out.own Q15.out (fun _ _ e => e))
      have START2 := Lib.hid (show MkAt x5 (.slice ya all.length yc) all.length (.int .i64 0) x5 from ⟨0, _, Nat.zero_le _, rfl, HA5.out, Keeps.refl _ _⟩)
      clear hne
      go_wp2
      go_loopw [105] (fun iv wr => MkAt x5 (.slice ya all.length yc) all.length iv wr) (fun iv _ => all.length - (intOf iv).toNat)
      case atStart => exact START2.out
      case round =>
        obtain ⟨k2, xs, hk2, rfl, hrow, hK⟩ := hrel
        by_cases hlt2 : k2 < all.length
        · have zlt2 := sj_lt hlt2
          have zlt2' : decide (k2 < all.length) = true := decide_eq_true hlt2
          obtain ⟨jk0, jk1⟩ := sj_in hlt2
          have hk21 := sj_w1b (k := k2) (by have := LE.out; omega)
          have HME2 := Lib.hid (sj_meas hlt2)
          obtain ⟨a0, c0, e0, _, hpos⟩ := row_shape hrow
          injection e0 with e1 _ e2
          subst e1 e2
          obtain ⟨g, rfl⟩ := hpos (by omega)
          obtain ⟨cv, hcl, hcf⟩ := row_cell hrow hlt2
          have FN := Lib.hid (mk_store hrow hlt2 hK (.string ⟨#[109, 97, 114, 107, 101, 100]⟩))
          clear hlt2 hk2 hrow hK
          go_wp2
          rw [hk21]
          exact ⟨FN.out, HME2.out⟩
        · obtain rfl : k2 = all.length := by omega
          have zlt2 : decide ((all.length : Int) < (all.length : Int)) = false := decide_eq_false (by omega)
          have zlt2' : decide (all.length < all.length) = false := decide_eq_false (by omega)
          have START3 := Lib.hid (show GrAt x5 (.slice ya all.length yc) all.length (.slice ya all.length yc) (.int .i64 0) wr from ⟨0, xs, by decide, rfl, hrow, fun g e => .inl e, hK⟩)
          obtain ⟨y0, hy0⟩ : ∃ W : World, W = wr := ⟨_, rfl⟩
          subst hy0
          clear hlt2 hk2 hrow hK START2
          go_wp2
          go_loopw [18, 19] (fun gv iv wr => GrAt x5 (.slice ya all.length yc) all.length gv iv wr) (fun _ iv _ => 80 - (intOf iv).toNat)
          case atStart => exact START3.out
          case round =>
            obtain ⟨k3, ys, hk3, rfl, hrow3, hgv, hK3⟩ := hrel
            by_cases hlt3 : k3 < 80
            · have zlt3 : decide ((k3 : Int) < 80) = true := decide_eq_true (by omega)
              have hk31 := sj_w1b (k := k3) (by omega)
              have HME3 := Lib.hid (sj_meas hlt3)
              obtain ⟨ga, gc, rfl, _, _⟩ := row_shape hrow3
              have HOW := Lib.hid (fun o => (show (wr.alloc o).ownsRow 0 9 1 (.slice ga (all.length + k3) gc) (all.length + k3) ys from ownsRow_kept hrow3 ((Keeps.refl (fun _ => False) wr).alloc o) (fun _ _ h => h)))
              have hb1 : all.length + k3 + 1 ≤ maxLen := by have := HALB.out; unfold maxLen; omega
              have hb2 : (all.length + k3 + 1) * 16 ≤ 140737488355328 := by have := HALB.out; omega
              have FNH := Lib.hid (fun (w7 : World) (v' : Value) (o : Obj) (zs : List Value) (h1 : w7.ownsRow 0 9 1 v' (all.length + k3 + 1) zs) (h2 : (wr.alloc o).grownBy w7 (Value.slice ga (all.length + k3) gc).ownBlock) (h3 : Later (wr.alloc o) (Value.slice ga (all.length + k3) gc).ownBlock v'.ownBlock) => (show GrAt x5 (.slice ya all.length yc) all.length v' (.int .i64 ((k3 : Int) + 1)) w7 from gr_more hlt3 hgv hK3 h1 h2 h3))
              clear hlt3 hk3 hrow3 hgv hK3
              go_wp2_with (at_builtin; refine wpList_append_cells0 _ rfl _ _ 66 rfl 9 i0 (.string ⟨#[]⟩) 1 16 Tryd.underlying66 hi0 hz0' hz1 hz2 rfl (by decide) _ (all.length + k3) _ rfl (HOW.out _) ⟨wr.heap.size, 0, none⟩ 1 1 [.string ⟨#[103, 114, 111, 119, 110]⟩] rfl rfl ?c1 ?c2 hb1 hb2 ?_)
              case c1 => exact newsT1 wr ⟨#[103, 114, 111, 119, 110]⟩
              case c2 => intro x hx; simp at hx; subst hx; rfl
              intro v' w7 own7 hg7 hl7 _
              have FN := Lib.hid (FNH.out _ _ _ _ own7 hg7 hl7)
              obtain ⟨g', cap', rfl⟩ := ownsRow_succ own7
              clear own7 hg7 hl7 hb1 hb2
              go_wp2
              rw [hk31]
              exact ⟨FN.out, HME3.out⟩
            · obtain rfl : k3 = 80 := by omega
              have zlt3 : decide (((80 : Nat) : Int) < 80) = false := decide_eq_false (by omega)
              obtain ⟨y1, hy1⟩ : ∃ W : World, W = wr := ⟨_, rfl⟩
              subst hy1
              obtain ⟨dk1, row1, box1, tb1, ke1⟩ := mem_turned QG.out QL.out hS.out HN1.out HN2.out Q3.out Q35.out hK3
              have DK1 := Lib.hid dk1
              have ROW1 := Lib.hid row1
              have BOX1 := Lib.hid box1
              have KE1 := Lib.hid ke1
              have Z13 := Lib.hid (show x3.heap.size ≤ y1.heap.size from Nat.le_trans Q35.out.size hK3.size)
              have Z02 := Lib.hid (show x0.heap.size ≤ x2.heap.size from Nat.le_trans HN1.out.qt.size HN2.out.qt.size)
              have c1 := box1.cell
              have SB := same_yes tb1 row1.texts LE.out
              clear hlt3 hk3 hrow3 hgv hK3 dk1 row1 box1 tb1 ke1 START3
              go_wp2_with fail
              refine SB.mono ?_
              rintro e y2 ⟨rfl, q2⟩
              have hmk : (Instr.makeSlice 75 (.int .i64 256) (.int .i64 256)).run Tryd.prog y2 = .ok (.slice (some ⟨y2.heap.size, 0, none⟩) 256 256) (y2.alloc (.cells (madeCells #[Value.int .u8 0] 256) 5)) := make_zeros9 y2 256 (by decide)
              obtain ⟨y3, hy3⟩ : ∃ W, y2.alloc (.cells (madeCells #[Value.int .u8 0] 256) 5) = W := ⟨_, rfl⟩
              have hcv := (show RawAt y3 y2.heap.size (List.replicate 256 0) from hy3 ▸ RawAt.zeros y2 256).conv (n := 256) (by simp) 256
              rw [List.take_of_length_le (by simp)] at hcv
              obtain ⟨Z, hZ⟩ : ∃ Z : ByteArray, ⟨(List.replicate 256 (0 : UInt8)).toArray⟩ = Z := ⟨_, rfl⟩
              have HZ : strL Z = zeros := by rw [← hZ]; rfl
              rw [hZ] at hcv
              rw [hy3] at hmk
              have Q13 := Lib.hid (show Qt y1 y3 from Qt.trans q2 (hy3 ▸ (Qt.refl y2).alloc _))
              have OZ := J.over_zeros (d := dk) (i := 1) (n := 60) (v := 7) hS.out.alive.on hS.out.calm (by rw [hS.out.alive.life.len]; exact hS.out.alive.fit) (by decide) (by decide) (by decide) (by decide)
              have OZ1 : dk.writeE 1 zeros = 0 := OZ.1
              have HRZ := Lib.hid (show J.replay (dk.writeD 1 zeros) 1 60 7 = ([], 0) from OZ.2)
              have WR := dk_write HE.out (gm_lt hS.out (Nat.le_trans Z02.out (Nat.le_trans Q3.out.size Z13.out)) Q13.out.size) (DK1.out.qt Q13.out) ((hS.out.cnt.few hS.out.alive (show 60 ≤ 64 by decide)).few (by decide) (by decide)) 1 Z
              rw [HZ, OZ1] at WR
              clear hZ HZ hy3 OZ OZ1 q2 SB c1
              go_wp2_with fail
              refine WR.mono ?_
              rintro e y4 ⟨he, dk4, k4⟩
              obtain rfl : e = .returned .nilIface := he
              obtain ⟨row4, box4, ke4⟩ := mem_written Z02.out Z13.out ROW1.out BOX1.out KE1.out Q13.out k4
              have DK4 := Lib.hid dk4
              have ROW4 := Lib.hid row4
              have BOX4 := Lib.hid box4
              have KE4 := Lib.hid ke4
              have QW4 := Lib.hid (show Qt wa y4 from dk4.since.qt)
              generalize dk.writeD 1 zeros = d2 at *
              clear hmk hcv WR dk4 k4 row4 box4 ke4
              go_wp2_with fail
              obtain ⟨y5, hy5⟩ : ∃ W, y4.alloc (.cells #[.int .i64 0] 3) = W := ⟨_, rfl⟩
              have NB5 := Lib.hid (show NbAt y4 all [] y5 from ⟨⟨hy5 ▸ Boxed.new y4 3 (.int .i64 0), List.nil_prefix⟩, hy5 ▸ (Below.refl _ y4).alloc (Nat.le_refl _) _⟩)
              have Z5 : y5.heap.size = y4.heap.size + 1 := by rw [← hy5]; simp
              have Z34 : x3.heap.size ≤ y4.heap.size := KE4.out.size
              have K5 := Lib.hid (show Keeps (fun k => k < x2.heap.size) x3 y5 from Keeps.trans KE4.out NB5.out.qt (fun _ _ e => e.elim))
              rw [hy5]
              clear hy5
              refine (wpIn_wide (n := 5)).1 ?_
              refine wpIn_both (NdAt y4 all stop y5.heap.size) ?loop ?rest
              case' loop =>
               refine' wpIn_rangeFunc_ownG rfl (by omega) (gf := gf) (lb := fb) rfl trivial HEN.out (HSQ.out 4 (by omega) y5 K5.out) belowK_t (belowK_b (by omega)) (Below.refl _ _) (fun _ => rfl)
                (NbAt y4 all) (NxAt y4 all stop) (nbAt_own (by omega)) (nxAt_own (by omega)) NB5.out _ ?assign ?body ?done ?stop
              case assign =>
                intro l x W K hK
                unfold encT
                gi_wp2
                exact hK
              case body =>
                rintro l pre x W hN hlt
                have HN := Lib.hid hN
                have cN := hN.1.1.cell
                have fN := hN.1.1.frozen
                have QT := Lib.hid (Qt.trans QW4.out hN.qt)
                have cL := (boxed_qt BOX4.out hN.qt).cell
                have cS := (boxed_qt BS.out QT.out).cell
                have cR := (boxed_qt BR.out QT.out).cell
                have fR := (boxed_qt BR.out QT.out).frozen
                have hst3 : w.heap.size ≠ y4.heap.size := by have := BS.out.lt; have := QW4.out.size; omega
                have zge : decide ((all.length : Int) ≤ (pre.length : Int)) = false := decide_eq_false (by omega)
                have zge' : decide (all.length ≤ pre.length) = false := decide_eq_false (by omega)
                obtain ⟨k0, k1⟩ := sj_in hlt
                have hk1 := sj_w1b (k := pre.length) (by have := LE.out; omega)
                obtain ⟨g, og, rfl, hg⟩ := (ROW4.out.texts.qt hN.qt).get (show all[pre.length]? = some (all.getD pre.length []) by simp [List.getD, List.getElem?_eq_getElem hlt])
                have cg := hg W (Qt.refl W)
                have HLT := Lib.hid hlt
                have Z34H := Lib.hid Z34
                obtain ⟨S, hS, hSl⟩ : ∃ S : ByteArray, strV x.2 = .string S ∧ S.data.toList = x.2 := ⟨⟨x.2.toArray⟩, rfl, rfl⟩
                obtain ⟨T, hT, hTl⟩ : ∃ T : ByteArray, strV (all.getD pre.length []) = .string T ∧ T.data.toList = all.getD pre.length [] := ⟨⟨(all.getD pre.length []).toArray⟩, rfl, rfl⟩
                rw [hT] at cg
                rw [hS]
                by_cases hx : x.1 = pre.length
                · have zx : ((x.1 : Int) != (pre.length : Int)) = false := by rw [bne_eq_false_iff_eq]; omega
                  by_cases he : x.2 = all.getD pre.length []
                  · have ze : (S.toList == T.toList) = true := by rw [bytes_eq7, hSl, hTl]; exact decide_eq_true he
                    have ze2 : (S.toList != T.toList) = false := by rw [bytes_ne7, hSl, hTl]; exact decide_eq_false (fun q => q he)
                    have MORE := Lib.hid (HN.out.more hx HLT.out he)
                    by_cases hst : (pre.length : Int) + 1 = stop
                    · have zst : ((pre.length : Int) + 1 == stop) = true := by rw [beq_iff_eq]; exact hst
                      have HST := Lib.hid hst
                      clear hN hg hS hSl hT hTl hx he hlt Z34 hst Z5
                      gi_wp2
                      exact ⟨(KeepsOthers.setCell _ _ _).from _, .inr ⟨rfl, by rw [List.length_append, List.length_singleton]; push_cast; exact HST.out, MORE.out⟩⟩
                    · have zst : ((pre.length : Int) + 1 == stop) = false := by rw [beq_eq_false_iff_ne]; exact hst
                      clear hN hg hS hSl hT hTl hx he hlt Z34 hst Z5
                      gi_wp2
                      exact ⟨(KeepsOthers.setCell _ _ _).from _, (Below.refl _ W).setCell (p := ⟨y4.heap.size, 0, none⟩) Z34H.out _, MORE.out⟩
                  · have ze : (S.toList == T.toList) = false := by rw [bytes_eq7, hSl, hTl]; exact decide_eq_false he
                    have ze2 : (S.toList != T.toList) = true := by rw [bytes_ne7, hSl, hTl]; exact decide_eq_true he
                    have BAD := Lib.hid (show ¬ pre ++ [x] <+: enumT all from fun h => he (prefix_snoc.1 h).2.2.2)
                    clear hN hg hS hSl hT hTl hx he hlt Z34 Z5
                    gi_wp2
                    exact ⟨(KeepsOthers.setCell _ _ _).from _, .inl ⟨rfl, BAD.out⟩⟩
                · have zx : ((x.1 : Int) != (pre.length : Int)) = true := by rw [bne_iff_ne]; omega
                  have BAD := Lib.hid (show ¬ pre ++ [x] <+: enumT all from fun h => hx (prefix_snoc.1 h).2.1)
                  clear hN hg hS hSl hT hTl hx hlt Z34 Z5
                  gi_wp2
                  exact ⟨(KeepsOthers.setCell _ _ _).from _, .inl ⟨rfl, BAD.out⟩⟩
              case done =>
                rintro D xs W hD rfl hN hK
                refine ⟨D, .inl rfl, rfl, all.length, .inl rfl, ?_, hN.2, hK, hD⟩
                have h := hN.1.1
                rw [enumT_length] at h
                exact h
              case stop =>
                rintro D c pre W hD hpre hx hK
                rcases hx with ⟨_, h⟩ | ⟨rfl, h1, h2⟩
                · exact absurd hpre h
                · exact wpIn_exit ⟨D, .inr rfl, rfl, pre.length, .inr h1, h2.1.1, h2.2, hK, hD⟩
              case rest =>
                rintro D1 y6 ⟨m, hm, bm, hB6, hD1, hD1g⟩
                dsimp only
                have HD1G := Lib.hid hD1g
                have Q46 := Lib.hid (show Qt y4 y6 from Qt.of_below hB6)
                have QW6 := Lib.hid (Qt.trans QW4.out Q46.out)
                have cN := bm.cell
                have fN := bm.frozen
                have cL := (boxed_qt BOX4.out Q46.out).cell
                have cS := (boxed_qt BS.out QW6.out).cell
                have HZ : ((m : Int) != (all.length : Int)) = false ∨ (((m : Int) != (all.length : Int)) = true ∧ ((m : Int) != stop) = false) := by
                  by_cases h : m = all.length
                  · left; rw [bne_eq_false_iff_eq]; omega
                  · right
                    refine ⟨by rw [bne_iff_ne]; omega, ?_⟩
                    rcases hm with hm | hm
                    · exact absurd hm h
                    · rw [bne_eq_false_iff_eq]; exact hm
                have NB7 := Lib.hid (show NbAt y4 all [] (y6.setCell ⟨y4.heap.size, 0, none⟩ (.int .i64 0)) from ⟨⟨boxed_set bm, List.nil_prefix⟩, hB6.setCell (p := ⟨y4.heap.size, 0, none⟩) (Nat.le_refl _) _⟩)
                have HD7 := Lib.hid (show (y6.setCell ⟨y4.heap.size, 0, none⟩ (.int .i64 0)).heap[D1]? = some (.deferred (some [])) from (heap_setCell_other _ _ _ _ (by simp; omega)).trans hD1)
                obtain ⟨y7, hy7⟩ : ∃ W, y6.setCell ⟨y4.heap.size, 0, none⟩ (.int .i64 0) = W := ⟨_, rfl⟩
                rw [hy7] at NB7 HD7
                have Z47 := Lib.hid (show y4.heap.size ≤ y7.heap.size from NB7.out.2.size)
                have K7 := Lib.hid (show Keeps (fun k => k < x2.heap.size) x3 y7 from Keeps.trans KE4.out NB7.out.qt (fun _ _ e => e.elim))
                clear hB6 bm hm hD1 hD1g
                rcases HZ with zn | ⟨zn, zs⟩
                all_goals
                  go_wp2_with fail
                  clear cN fN cL cS hy7
                  refine (wpIn_wide (n := 5)).1 ?_
                  refine' wpIn_rangeFunc_ownG rfl (by omega) (gf := gf) (lb := fb) rfl trivial HEN.out (HSQ.out 4 (by omega) y7 K7.out) belowK_t (belowK_b (Nat.le_trans Z34 Z47.out)) (Below.refl _ _) (fun _ => rfl)
                    (NbD y4 all D1) (fun c pre _ => c = .ret ∧ ¬ pre <+: enumT all) (nbD_own Z47.out (lt_of_block HD7.out)) (fun c => pure_own c) ⟨NB7.out, HD7.out⟩ _ ?assign ?body ?done ?stop
                  case assign =>
                    intro l x W K hK
                    unfold encT
                    gi_wp2
                    exact hK
                  case body =>
                    rintro l pre x W ⟨hN, hK⟩ hlt
                    have HN := Lib.hid hN
                    have HK := Lib.hid hK
                    have cN := hN.1.1.cell
                    have fN := hN.1.1.frozen
                    have QT := Lib.hid (Qt.trans QW4.out hN.qt)
                    have cL := (boxed_qt BOX4.out hN.qt).cell
                    have cR := (boxed_qt BR.out QT.out).cell
                    have fR := (boxed_qt BR.out QT.out).frozen
                    have zge : decide ((all.length : Int) ≤ (pre.length : Int)) = false := decide_eq_false (by omega)
                    have zge' : decide (all.length ≤ pre.length) = false := decide_eq_false (by omega)
                    obtain ⟨k0, k1⟩ := sj_in hlt
                    have hk1 := sj_w1b (k := pre.length) (by have := LE.out; omega)
                    obtain ⟨g, og, rfl, hg⟩ := (ROW4.out.texts.qt hN.qt).get (show all[pre.length]? = some (all.getD pre.length []) by simp [List.getD, List.getElem?_eq_getElem hlt])
                    have cg := hg W (Qt.refl W)
                    have HLT := Lib.hid hlt
                    have Z34H := Lib.hid Z34
                    have Z5H := Lib.hid Z5
                    obtain ⟨S, hS, hSl⟩ : ∃ S : ByteArray, strV x.2 = .string S ∧ S.data.toList = x.2 := ⟨⟨x.2.toArray⟩, rfl, rfl⟩
                    obtain ⟨T, hT, hTl⟩ : ∃ T : ByteArray, strV (all.getD pre.length []) = .string T ∧ T.data.toList = all.getD pre.length [] := ⟨⟨(all.getD pre.length []).toArray⟩, rfl, rfl⟩
                    rw [hT] at cg
                    rw [hS]
                    by_cases hx : x.1 = pre.length
                    · have zx : ((x.1 : Int) != (pre.length : Int)) = false := by rw [bne_eq_false_iff_eq]; omega
                      by_cases he : x.2 = all.getD pre.length []
                      · have ze : (S.toList == T.toList) = true := by rw [bytes_eq7, hSl, hTl]; exact decide_eq_true he
                        have ze2 : (S.toList != T.toList) = false := by rw [bytes_ne7, hSl, hTl]; exact decide_eq_false (fun q => q he)
                        have MORE := Lib.hid (HN.out.more hx HLT.out he)
                        clear hN hK hg hS hSl hT hTl hx he hlt Z34 Z5
                        gi_wp2
                        refine ⟨(KeepsOthers.setCell _ _ _).from _, (Below.refl _ W).setCell (p := ⟨y4.heap.size, 0, none⟩) Z34H.out _, MORE.out, ?_⟩
                        exact (heap_setCell_other _ _ _ _ (by have := HD1G.out; have := Z5H.out; simp; omega)).trans HK.out
                      · have ze : (S.toList == T.toList) = false := by rw [bytes_eq7, hSl, hTl]; exact decide_eq_false he
                        have ze2 : (S.toList != T.toList) = true := by rw [bytes_ne7, hSl, hTl]; exact decide_eq_true he
                        have BAD := Lib.hid (show ¬ pre ++ [x] <+: enumT all from fun h => he (prefix_snoc.1 h).2.2.2)
                        clear hN hK hg hS hSl hT hTl hx he hlt Z34 Z5
                        gi_wp2
                        exact ⟨(KeepsOthers.setCell _ _ _).from _, rfl, BAD.out⟩
                    · have zx : ((x.1 : Int) != (pre.length : Int)) = true := by rw [bne_iff_ne]; omega
                      have BAD := Lib.hid (show ¬ pre ++ [x] <+: enumT all from fun h => hx (prefix_snoc.1 h).2.1)
                      clear hN hK hg hS hSl hT hTl hx hlt Z34 Z5
                      gi_wp2
                      exact ⟨(KeepsOthers.setCell _ _ _).from _, rfl, BAD.out⟩
                  case stop =>
                    rintro D2 c pre W _ hpre ⟨_, h⟩ _
                    exact absurd hpre h
                  case done =>
                    rintro D2 xs W hD2 rfl ⟨hN, hK1⟩ hK2
                    have bN := hN.1.1
                    rw [enumT_length] at bN
                    have Q4W := Lib.hid hN.qt
                    have RP := dk_replay HE.out HT.out (DK4.out.qt Q4W.out) 1 60 7 (by decide)
                    rw [HRZ.out] at RP
                    have BN := Lib.hid bN
                    have HK1 := Lib.hid hK1
                    have HK2 := Lib.hid hK2
                    have HD2 := Lib.hid hD2
                    clear hN bN hK1 hK2 hD2
                    go_wp2_with fail
                    refine RP.mono ?_
                    rintro e y9 h9
                    obtain ⟨vc, rfl, N9⟩ := rpJ_ok h9
                    obtain ⟨ca, cc, hvc⟩ := N9.shape
                    rw [List.length_nil] at hvc
                    subst hvc
                    have Q9 := Lib.hid N9.qt
                    have Q49 := Lib.hid (Qt.trans Q4W.out N9.qt)
                    have QW9 := Lib.hid (Qt.trans QW4.out Q49.out)
                    have B9 := Lib.hid (boxed_qt BN.out Q9.out)
                    have R9 := Lib.hid (boxed_qt BR.out QW9.out)
                    have cN := B9.out.cell
                    have cL := (boxed_qt BOX4.out Q49.out).cell
                    have cR := R9.out.cell
                    have fR := R9.out.frozen
                    have zl : ((all.length : Int) == (all.length : Int)) = true := beq_self_eq_true _
                    have E1 := Lib.hid ((Q9.out.block D1 (lt_of_block HK1.out) (fun e => e)).trans HK1.out)
                    have E2 := Lib.hid ((Q9.out.block D2 (lt_of_block HK2.out) (fun e => e)).trans HK2.out)
                    clear h9 N9 RP
                    go_wp2
                    have hd1 := HD1G.out
                    have hd2 := HD2.out
                    have hw4 := (Qt.trans QA.out QW4.out).size
                    have hd3 := lt_of_block HD7.out
                    obtain ⟨e2, e1, bb, qq⟩ := mem_end (Qt.trans QA.out QW9.out) (Nat.le_succ _) R9.out E1.out E2.out (by omega) (by omega) (by omega)
                    exact ⟨by simp, .inl ⟨_, _, rfl, run_takeDeferred e2, by simp, .inl ⟨_, _, rfl, run_takeDeferred e1, _, results_cell1 (p := 4) (by kernel_rfl) _ Tryd.prog _ rfl (isAggB _) bb.cell, rfl, qq⟩⟩⟩
end Go.Proofs.YtggogaaooacooaaDoor
