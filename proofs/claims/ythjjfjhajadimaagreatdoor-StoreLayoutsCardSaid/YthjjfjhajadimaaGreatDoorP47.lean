/-
  Joined: OFix, ORLay, OLayLaw, LaidA, LaidB, Laid, GTab, Trod, ODoor.
-/
import Derived.Test.YthjjfjhajadimaaGreatDoorP46
import Derived.Deep.RegionHeld3
import Derived.Test.YthjjfjhajadimaaGreatDoorRows
import Derived.ProofKit
import Derived.LaidMore
import Derived.LaidLaws
import Derived.OpenShut
import Derived.Stop.LaidErr
import Derived.Deep.DeepHandedRow
import Derived.Deep.DeepWitnessRowRef
import Derived.Lib.LaidTab
import Derived.Lib.SmallJoins
import Derived.Lay
import Derived.Carry
namespace Go.Proofs.YthjjfjhajadimaaGreatDoor
open Go.RowKit Go.WideShapes
set_option maxRecDepth 100000
set_option maxHeartbeats 8000000 in
theorem fixed13_any (ad : Nat -> Addr) (w : World) (hE : Errs ad w) (hT : Tab w) : Calls Tryz.prog 10 #[] w fun e w' => e = .returned (.bool true) /\ Qt w w' := by
 obtain ⟨d1, d2, s2, d3, s3, o0, f1, o1, v2, r2, c2, r3, f3, w1, w2, w3⟩ := So.fixed_plain
 have HE := Lib.hid hE
 have HT := Lib.hid hT
 have NW := new_any ad 64 w hE
 have HO0 := Lib.hid o0
 have HF1 := Lib.hid f1
 have HO1 := Lib.hid o1
 have HV2 := Lib.hid v2
 have HR2 := Lib.hid r2
 have HC2 := Lib.hid c2
 have HR3 := Lib.hid r3
 have HF3 := Lib.hid f3
 have HW1 := Lib.hid w1
 have HW2 := Lib.hid w2
 have HW3 := Lib.hid w3
 clear hE hT o0 f1 o1 v2 r2 c2 r3 f3 w1 w2 w3
 go_enter Tryz.func10, Tryz.ntmps10
 go_wp2_with fail
 refine NW.mono ?_
 rintro e w1 (⟨hno, rfl, q1⟩ | ⟨n1, n2, b, rfl, hD, q1⟩)
 ·exact absurd ⟨by decide, by decide⟩ hno
 have D1 := Lib.hid (show Dk w.heap.size ad w1 b (DS.newD 64) (Grow (fun _ => False) w w1) from dk_start HE.out HT.out hD q1)
 have OP0 := Lib.hid (open13_any D1.out ⟨by decide, by decide, by decide, by decide⟩)
 rw [HO0.out] at OP0
 clear NW hD n1 n2
 go_wp2_with fail
 refine OP0.out.mono ?_
 rintro e w2 ⟨S2, he, hd2⟩
 rw [errV_pos ad (by decide)] at he
 subst he
 have D2 := Lib.hid hd2.dk
 have Q2 := Lib.hid (show Keeps (fun k => w.heap.size <= k) w w2 from Keeps.trans (q1.mono (fun _ _ e => e.elim)) hd2.keeps (fun k hk e => D1.out.low k e))
 obtain ⟨WL, hWL, qL, bL, hzL⟩ := box_own w2 87 #[.bool false, .string ⟨#[98]⟩, .string ⟨#[50]⟩, .bool false, .string ⟨#[97]⟩, .string ⟨#[49]⟩]
 have OI := Lib.hid (show OpsIn WL (.slice (some ⟨w2.heap.size, 0, none⟩) 2 2) w2.heap.size 0 So.fixA from recs_block (l := So.fixA) opC_len bL (by decide))
 have D3 := Lib.hid (D2.out.qt qL)
 have FM := Lib.hid (format13_any D3.out ⟨by decide, by decide, by decide, by decide⟩ OI.out ⟨by decide, by decide⟩)
 rw [HF1.out] at FM
 have QL := Lib.hid qL
 clear hd2 q1 qL bL hzL OP0
 go_wp2_with fail
 refine FM.out.mono ?_
 rintro e w3 ⟨S3, he, hd3⟩
 obtain rfl : e = .returned .nilIface := he
 have D4 := Lib.hid hd3.dk
 have Q3 := Lib.hid (show Keeps (fun k => w.heap.size <= k) w w3 from Keeps.trans (Keeps.trans Q2.out (QL.out.mono (fun _ _ e => e.elim)) (fun k hk e => e)) hd3.keeps (fun k hk e => D3.out.low k e))
 have NU := Lib.hid (fun W (x : Qt w3 W) => (num_any ad 14 W (D4.out.errs.qt x) (by decide)))
 rw [errV_pos ad (by decide)] at NU
 have OP1 := Lib.hid (fun W (x : Qt w3 W) => open13_any (D4.out.qt x) HW1.out.s)
 rw [HO1.out] at OP1
 clear hd3 FM
 go_wp2_with fail
 refine (NU.out _ (Qt.refl w3)).mono ?_
 rintro e w4 ⟨rfl, q4⟩
 have Q4 := Lib.hid q4
 clear q4
 go_wp2_with fail
 refine (OP1.out _ Q4.out).mono ?_
 rintro e w5 ⟨p, O, H, rfl, st, ho, hh, kk⟩
 have ST := Lib.hid st
 have HO := Lib.hid (show ∀ k, O k -> w.heap.size <= k from st.sub.2.1)
 have Q5 := Lib.hid (show Keeps (fun k => w.heap.size <= k) w w5 from Keeps.trans (Keeps.trans Q3.out (Q4.out.mono (fun _ _ e => e.elim)) (fun k hk e => e)) kk (fun k hk e => D4.out.low k e))
 clear st ho hh kk
 go_wp2_with fail
 have VE : Calls Tryz.prog 25 #[.pointer (some ⟨p, 0, none⟩)] w5 fun e w' => e = .returned (.int .i64 2) /\ w' = w5 := by
  have k := version_sto ST.out
  rw [HV2.out] at k
  exact k
 refine VE.mono ?_
 rintro e w6 ⟨rfl, rfl⟩
 clear VE
 have SZ : Calls Tryz.prog 40 #[.pointer (some ⟨p, 0, none⟩)] w6 fun e w' => e = .returned (.int .i64 9) /\ Qt w6 w' := by
  have k := size_sto ST.out
  rw [HR2.out, So.fix_apply.2.2.1] at k
  exact k
 go_wp2_with fail
 refine SZ.mono ?_
 rintro e w7 ⟨rfl, q7⟩
 have ST7 := Lib.hid (ST.out.qt q7)
 have RW := Lib.hid (rows_sto ST7.out)
 rw [HR2.out] at RW
 have Q7 := Lib.hid (Keeps.trans Q5.out (q7.mono (fun _ _ e => e.elim)) (fun k hk e => e))
 clear SZ q7
 go_wp2_with fail
 refine RW.out.mono ?_
 rintro e w8 ⟨v, rfl, N⟩
 obtain ⟨g8, hr8, _⟩ := newR_in N (by decide)
 have q8 := N.qt
 obtain ⟨WL, hWL, qL, bL, hzL⟩ := box_own w8 101 #[.string ⟨#[97]⟩, .string ⟨#[49]⟩, .string ⟨#[98]⟩, .string ⟨#[50]⟩]
 have RI : RowsIn WL (.slice (some ⟨w8.heap.size, 0, none⟩) 2 2) w8.heap.size 0 So.fixR := recs_block (l := So.fixR) rowC_len bL (by decide)
 have SM := Lib.hid (sameR12_yes (recs_turn hr8 qL) RI)
 have ST9 := Lib.hid ((ST7.out.qt q8).qt qL)
 have Q9 := Lib.hid (Keeps.trans Q7.out ((Qt.trans q8 qL).mono (fun _ _ e => e.elim)) (fun k hk e => e))
 clear N hr8 q8 qL bL hzL RI
 go_wp2_with fail
 refine SM.out.mono ?_
 rintro e w9 ⟨rfl, q9⟩
 have ST10 := Lib.hid (ST9.out.qt q9)
 have Q10 := Lib.hid (Keeps.trans Q9.out (q9.mono (fun _ _ e => e.elim)) (fun k hk e => e))
 clear q9
 obtain ⟨WK, hWK, qK, bK, hzK⟩ := box_own w9 87 #[.bool true, .string ⟨#[97]⟩, .string ⟨#[]⟩, .bool false, .string ⟨#[99]⟩, .string ⟨#[]⟩]
 have OI := Lib.hid (show OpsIn WK (.slice (some ⟨w9.heap.size, 0, none⟩) 2 2) w9.heap.size 0 So.fixB from recs_block (l := So.fixB) opC_len bK (by decide))
 have CM := Lib.hid (commit_sto (ST10.out.qt qK) HW2.out OI.out (by decide) (by decide))
 rw [HC2.out] at CM
 have Q11 := Lib.hid (Keeps.trans Q10.out (qK.mono (fun _ _ e => e.elim)) (fun k hk e => e))
 clear qK bK hzK
 go_wp2_with fail
 refine CM.out.mono ?_
 rintro e w10 ⟨he, O2, H2, st2, ho2, hh2, kk2⟩
 obtain rfl : e = .returned .nilIface := he
 have ST12 := Lib.hid st2
 have Q12 := Lib.hid (show Keeps (fun k => w.heap.size <= k) w w10 from Keeps.trans Q11.out kk2 (fun k hk e => HO.out k e))
 have GT : Calls Tryz.prog 47 #[.pointer (some ⟨p, 0, none⟩), .string ⟨#[98]⟩] w10 fun e w' => e = .returned (.tuple #[.string ⟨#[50]⟩, .bool true]) /\ w' = w10 := by
  have k := get_sto ST12.out ⟨#[98]⟩
  rw [HR3.out] at k
  exact k
 clear st2 ho2 hh2 kk2 CM
 go_wp2_with fail
 refine GT.mono ?_
 rintro e w11 ⟨rfl, rfl⟩
 clear GT
 have SZ : Calls Tryz.prog 40 #[.pointer (some ⟨p, 0, none⟩)] w11 fun e w' => e = .returned (.int .i64 8) /\ Qt w11 w' := by
  have k := size_sto ST12.out
  rw [HR3.out, So.fix_apply.2.2.2] at k
  exact k
 go_wp2_with fail
 refine SZ.mono ?_
 rintro e w12 ⟨rfl, q12⟩
 obtain ⟨S13, D13, hS13, _⟩ := (ST12.out.qt q12).disk
 have FM := format13_any D13 HW3.out.s (recs_none (f := opC)) ⟨by decide, by decide⟩
 rw [HF3.out] at FM
 have Q13 := Lib.hid (Keeps.trans Q12.out (q12.mono (fun _ _ e => e.elim)) (fun k hk e => e))
 have HD13 := Lib.hid D13
 clear SZ q12 hS13 D13
 go_wp2_with fail
 refine FM.mono ?_
 rintro e w13 ⟨S14, he, hd14⟩
 obtain rfl : e = .returned (.iface 335 (.pointer (some (ad 21)))) := he
 have NU2 := num_any ad 21 w13 hd14.dk.errs (by decide)
 rw [errV_pos ad (by decide)] at NU2
 have Q14 := Lib.hid (show Keeps (fun k => w.heap.size <= k) w w13 from Keeps.trans Q13.out hd14.keeps (fun k hk e => HD13.out.low k e))
 clear FM hd14
 go_wp2_with fail
 refine NU2.mono ?_
 rintro e w14 ⟨rfl, q14⟩
 have FIN := Lib.hid (show Qt w w14 from (Keeps.trans Q14.out (q14.mono (fun _ _ e => e.elim)) (fun k hk e => e)).mono (fun k hk e => absurd hk (Nat.not_lt.2 e)))
 clear q14
 go_wp2
 go_ret
 exact ⟨rfl, FIN.out⟩
theorem results_rlay {fn : Func} {p u : Tmp} (h : fn.results = #[.cell p 61, .tmp u]) (tmps : Array Value) (w : World) (g : Nat) (a b c d e : Value) (hp : tmps.getD p undef = .pointer (some ⟨g, 0, none⟩)) (hb : Bk w g 61 [a, b, c, d, e]) :
  (results fn tmps).run Tryz.prog w = .ok (.tuple #[.agg #[a, b, c, d, e], tmps.getD u undef]) w := by
 have h1 := run_loadVar_row (P := Tryz.prog) w g 61 61 #[a, b, c, d, e] (0, 0) _ hb Tryz.underlying61 rfl (by kernel_rfl)
 rw [results_cell_tmp h, hp]
 simp [asAddr, h1, Result.andThen]
def rlayV (n : Int) : Value := if So.layE n = 0 then .agg #[.int .i64 2, .int .i64 (2 + ((So.each n.toNat : Nat) : Int)), .int .i64 ((So.each n.toNat : Nat) : Int), .int .i64 ((So.logAt n.toNat : Nat) : Int), .int .i64 ((So.many n.toNat : Nat) : Int)] else .agg #[.int .i64 0, .int .i64 0, .int .i64 0, .int .i64 0, .int .i64 0]
set_option maxHeartbeats 1600000 in
theorem rlay13_any (n : Int) (w : World) :
  Calls Tryz.prog 30 #[.int .i64 n] w fun e w' => e = .returned (.tuple #[rlayV n, .int .i64 (So.layE n : Nat)]) /\ Qt w w' := by
 obtain ⟨W, hW, q0, bx⟩ : ∃ W, w.alloc (.cells #[.int .i64 0, .int .i64 0, .int .i64 0, .int .i64 0, .int .i64 0] 61) = W /\ Qt w W /\ Bk W w.heap.size 61 [.int .i64 0, .int .i64 0, .int .i64 0, .int .i64 0, .int .i64 0] := ⟨_, rfl, (Qt.refl w).alloc _, Bk.new w _ _⟩
 have Q0 := Lib.hid q0
 obtain ⟨B, hB⟩ : ∃ B, w.heap.size = B := ⟨_, rfl⟩
 have HB := Lib.hid hB
 rw [hB] at bx
 have BX := Lib.hid bx
 have c0 := bx.cell 0 _ rfl
 have c1 := bx.cell 1 _ rfl
 have c2 := bx.cell 2 _ rfl
 have c3 := bx.cell 3 _ rfl
 have c4 := bx.cell 4 _ rfl
 have f0 := bx.frozen 0
 have f1 := bx.frozen 1
 have f2 := bx.frozen 2
 have f3 := bx.frozen 3
 have f4 := bx.frozen 4
 clear bx q0
 by_cases h1 : n < 64
 ·have FIN := Lib.hid (show rlayV n = .agg #[.int .i64 0, .int .i64 0, .int .i64 0, .int .i64 0, .int .i64 0] /\ So.layE n = 13 from ⟨by unfold rlayV; rw [show So.layE n = 13 from if_pos h1]; rfl, if_pos h1⟩)
  have y : decide (n < 64) = true := decide_eq_true h1
  clear h1
  go_enter Tryz.func30, Tryz.ntmps30
  go_wp2
  have b2 := ((((BX.out.set 0 (.int .i64 0)).set 1 (.int .i64 0)).set 2 (.int .i64 0)).set 3 (.int .i64 0)).set 4 (.int .i64 0)
  have q2 := qt_set (qt_set (qt_set (qt_set (qt_set Q0.out (Nat.le_of_eq HB.out) 0 (.int .i64 0)) (Nat.le_of_eq HB.out) 1 (.int .i64 0)) (Nat.le_of_eq HB.out) 2 (.int .i64 0)) (Nat.le_of_eq HB.out) 3 (.int .i64 0)) (Nat.le_of_eq HB.out) 4 (.int .i64 0)
  refine bodyPost_ret (results_rlay rfl _ _ _ _ _ _ _ _ rfl b2) rfl ⟨?_, q2⟩
  rw [FIN.out.1, FIN.out.2]
  rfl
 ·have y1 : decide (n < 64) = false := decide_eq_false h1
  by_cases h2 : 65536 < n
  ·have FIN := Lib.hid (show rlayV n = .agg #[.int .i64 0, .int .i64 0, .int .i64 0, .int .i64 0, .int .i64 0] /\ So.layE n = 6 from ⟨by unfold rlayV; rw [show So.layE n = 6 from by unfold So.layE; rw [if_neg h1, if_pos h2]]; rfl, by unfold So.layE; rw [if_neg h1, if_pos h2]⟩)
   have y : decide (65536 < n) = true := decide_eq_true h2
   clear h1 h2
   go_enter Tryz.func30, Tryz.ntmps30
   go_wp2
   have b2 := ((((BX.out.set 0 (.int .i64 0)).set 1 (.int .i64 0)).set 2 (.int .i64 0)).set 3 (.int .i64 0)).set 4 (.int .i64 0)
   have q2 := qt_set (qt_set (qt_set (qt_set (qt_set Q0.out (Nat.le_of_eq HB.out) 0 (.int .i64 0)) (Nat.le_of_eq HB.out) 1 (.int .i64 0)) (Nat.le_of_eq HB.out) 2 (.int .i64 0)) (Nat.le_of_eq HB.out) 3 (.int .i64 0)) (Nat.le_of_eq HB.out) 4 (.int .i64 0)
   refine bodyPost_ret (results_rlay rfl _ _ _ _ _ _ _ _ rfl b2) rfl ⟨?_, q2⟩
   rw [FIN.out.1, FIN.out.2]
   rfl
  ·have y2 : decide (65536 < n) = false := decide_eq_false h2
   have hin := layE_in (n := n) (by omega) (by omega)
   obtain ⟨m, rfl⟩ : ∃ m : Nat, n = m := ⟨n.toNat, by omega⟩
   have hq : ((m : Int) - 2).tdiv 3 = ((So.each m : Nat) : Int) := by unfold So.each; rw [Int.tdiv_eq_ediv_of_nonneg (by omega)]; omega
   have hlog : So.logAt m = 2 + 2 * So.each m := rfl
   have hmany : ((So.many m : Nat) : Int) = (m : Int) - 2 - 2 * ((So.each m : Nat) : Int) := by unfold So.many So.each; omega
   have hel : So.each m <= 65536 := by unfold So.each; omega
   have FIN := Lib.hid (show rlayV (m : Int) = .agg #[.int .i64 2, .int .i64 (2 + ((So.each m : Nat) : Int)), .int .i64 ((So.each m : Nat) : Int), .int .i64 (2 + 2 * ((So.each m : Nat) : Int)), .int .i64 ((m : Int) - 2 - 2 * ((So.each m : Nat) : Int))] /\ So.layE (m : Int) = 0 from ⟨by
    unfold rlayV
    rw [if_pos hin, Int.toNat_natCast, hmany, hlog]
    simp, hin⟩)
   have h1' : 64 <= m := by omega
   have h2' : m <= 65536 := by omega
   clear hlog hmany h1 h2 hin
   generalize So.each m = a at *
   go_enter Tryz.func30, Tryz.ntmps30
   go_wp2
   have b2 := ((((BX.out.set 0 (.int .i64 2)).set 1 (.int .i64 (2 + (a : Int)))).set 2 (.int .i64 (a : Int))).set 3 (.int .i64 (2 + 2 * (a : Int)))).set 4 (.int .i64 ((m : Int) - 2 - 2 * (a : Int)))
   have q2 := qt_set (qt_set (qt_set (qt_set (qt_set Q0.out (Nat.le_of_eq HB.out) 0 (.int .i64 2)) (Nat.le_of_eq HB.out) 1 (.int .i64 (2 + (a : Int)))) (Nat.le_of_eq HB.out) 2 (.int .i64 (a : Int))) (Nat.le_of_eq HB.out) 3 (.int .i64 (2 + 2 * (a : Int)))) (Nat.le_of_eq HB.out) 4 (.int .i64 ((m : Int) - 2 - 2 * (a : Int)))
   refine bodyPost_ret (results_rlay rfl _ _ _ _ _ _ _ _ rfl b2) rfl ⟨?_, q2⟩
   rw [FIN.out.1, FIN.out.2]
   rfl
set_option maxHeartbeats 8000000 in
theorem layouts13_any (ad : Nat -> Addr) (n : Int) (w : World) (h0 : -9223372036854775808 <= n) (h1 : n <= 9223372036854775807) (hE : Errs ad w) (hT : Tab w) :
  Calls Tryz.prog 5 #[.int .i64 n] w fun e w' => e = .returned (.bool true) /\ Qt w w' := by
 have FX := fixed13_any ad w hE hT
 have HE := Lib.hid hE
 have LY := Lib.hid (fun W (x : Qt w W) => layout13_any ad n W (HE.out.qt x))
 have RL := Lib.hid (fun W => rlay13_any n W)
 have NU := Lib.hid (fun W (x : Qt w W) k (hk : k <= 37) => num_any ad k W (HE.out.qt x) hk)
 have RM := Lib.hid (fun k W => refRoom_any k W)
 clear hE hT
 by_cases hz : So.layE n = 0
 ·obtain ⟨h64, hmax⟩ : 64 <= n /\ n <= 65536 := by
   unfold So.layE at hz
   split at hz
   ·cases hz
   ·split at hz
    ·cases hz
    ·omega
  obtain ⟨m, rfl⟩ : ∃ m : Nat, n = m := ⟨n.toNat, by omega⟩
  have hm64 : 64 <= m := by omega
  have e1 := So.log_in hm64
  have e2 := So.many_ge hm64
  have e3 : So.logAt m = 2 + 2 * So.each m := rfl
  have e4 : So.each m <= 65536 := by unfold So.each; omega
  have LB := Lib.hid (fun W (x : Qt w W) => (show Calls Tryz.prog 29 #[.int .i64 (m : Int)] W fun e w' => e = .returned (layT m) /\ ∃ k, w' = W.drewN k from by
   have k := LY.out W x
   rw [show layR ad (m : Int) = layT m from if_pos hz] at k
   exact k))
  have RB := Lib.hid (fun W => (show Calls Tryz.prog 30 #[.int .i64 (m : Int)] W fun e w' => e = .returned (.tuple #[.agg #[.int .i64 2, .int .i64 (2 + ((So.each m : Nat) : Int)), .int .i64 ((So.each m : Nat) : Int), .int .i64 ((So.logAt m : Nat) : Int), .int .i64 ((So.many m : Nat) : Int)], .int .i64 0]) /\ Qt W w' from by
   have k := RL.out W
   rw [show rlayV (m : Int) = _ from if_pos hz, hz, Int.toNat_natCast] at k
   exact k))
  unfold layT at LB
  generalize So.each m = a at *
  generalize So.logAt m = lg at *
  generalize So.many m = mn at *
  have NB := Lib.hid (fun W (x : Qt w W) => (show Calls Tryz.prog 21 #[.nilIface] W fun e w' => e = .returned (.int .i64 0) /\ Qt W w' from NU.out W x 0 (by decide)))
  have RMB := Lib.hid (fun W => (show Calls Tryz.prog 31 #[.int .i64 (a : Int)] W fun e w' => e = .returned (.int .i64 (234 * (a : Int))) /\ w' = W from by
   have k := RM.out (a : Int) W
   rwa [show roomZ (a : Int) = 234 * (a : Int) from by unfold roomZ; omega] at k))
  have z1 : ((2 + (a : Int)) != (2 + (a : Int))) = false := bne_self_eq_false _
  have z2 : ((a : Int) != (a : Int)) = false := bne_self_eq_false _
  have z3 : ((lg : Int) != (lg : Int)) = false := bne_self_eq_false _
  have z4 : ((mn : Int) != (mn : Int)) = false := bne_self_eq_false _
  have z5 : ((2 + (a : Int)) == (2 + (a : Int))) = true := beq_self_eq_true _
  have z6 : ((lg : Int) == (2 + (a : Int) + (a : Int))) = true := by rw [beq_iff_eq]; omega
  have z7 : (wrap64 ((lg : Int) + (mn : Int)) == (m : Int)) = true := by rw [beq_iff_eq]; unfold wrap64; omega
  have z8 : decide ((a : Int) <= (mn : Int)) = true := decide_eq_true (by omega)
  have z8n : a <= mn := by omega
  have z9 : decide ((mn : Int) <= (a : Int) + 2) = true := decide_eq_true (by omega)
  have z10 : ((234 * (a : Int)) == (234 * (a : Int))) = true := beq_self_eq_true _
  clear hz LY RL NU RM h64 hmax e1 e2 e3
  go_enter Tryz.func5, Tryz.ntmps5
  go_wp2_with fail
  refine FX.mono ?_
  rintro e w1 ⟨rfl, q1⟩
  have Q1 := Lib.hid q1
  clear FX q1
  go_wp2_with fail
  refine (LB.out w1 Q1.out).mono ?_
  rintro e w2 ⟨rfl, k, rfl⟩
  have Q2 := Lib.hid (show Qt w (w1.drewN k) from Keeps.drewN Q1.out k)
  go_wp2_with fail
  refine (RB.out _).mono ?_
  rintro e w3 ⟨rfl, q3⟩
  obtain ⟨W4, hW4, q4, b4, hz4⟩ := box_own w3 61 #[.int .i64 2, .int .i64 (2 + (a : Int)), .int .i64 (a : Int), .int .i64 (lg : Int), .int .i64 (mn : Int)]
  have Q4 := Lib.hid (Qt.trans (Qt.trans Q2.out q3) q4)
  have B4 := Lib.hid b4
  clear q3 q4 b4 hz4
  go_wp2_with fail
  refine (NB.out _ Q4.out).mono ?_
  rintro e w5 ⟨rfl, q5⟩
  have b5 := B4.out.qt q5
  have c0 := b5.cell 0 _ rfl
  have c1 := b5.cell 1 _ rfl
  have c2 := b5.cell 2 _ rfl
  have c3 := b5.cell 3 _ rfl
  have c4 := b5.cell 4 _ rfl
  have FIN := Lib.hid (Qt.trans Q4.out q5)
  clear b5 q5
  go_wp2_with fail
  refine (RMB.out _).mono ?_
  rintro e w6 ⟨rfl, rfl⟩
  go_wp2
  go_ret
  exact ⟨rfl, FIN.out⟩
 ·obtain ⟨er, her⟩ : ∃ x, So.layE n = x := ⟨_, rfl⟩
  have hle : er <= 37 /\ er ≠ 0 /\ ((n < 64) \/ (65536 < n)) := by
   rw [<- her]
   unfold So.layE at hz ⊢
   split
   ·exact ⟨by omega, by omega, .inl (by assumption)⟩
   ·split
    ·exact ⟨by omega, by omega, .inr (by assumption)⟩
    ·rename_i a b
     rw [if_neg a, if_neg b] at hz
     exact absurd rfl hz
  have LB := Lib.hid (fun W (x : Qt w W) => (show Calls Tryz.prog 29 #[.int .i64 n] W fun e w' => e = .returned (.tuple #[.int .i64 0, .int .i64 0, .int .i64 0, .int .i64 0, .int .i64 0, .iface 335 (.pointer (some (ad er)))]) /\ ∃ m, w' = W.drewN m from by
   have k := LY.out W x
   rw [show layR ad n = layN ad (So.layE n) from if_neg hz, her] at k
   unfold layN at k
   rw [errV_pos ad (Nat.pos_of_ne_zero hle.2.1)] at k
   exact k))
  have RB := Lib.hid (fun W => (show Calls Tryz.prog 30 #[.int .i64 n] W fun e w' => e = .returned (.tuple #[.agg #[.int .i64 0, .int .i64 0, .int .i64 0, .int .i64 0, .int .i64 0], .int .i64 (er : Int)]) /\ Qt W w' from by
   have k := RL.out W
   rw [show rlayV n = _ from if_neg hz, her] at k
   exact k))
  have HN := Lib.hid hle.2.2
  have NB := Lib.hid (fun W (x : Qt w W) => (show Calls Tryz.prog 21 #[.iface 335 (.pointer (some (ad er)))] W fun e w' => e = .returned (.int .i64 (er : Int)) /\ Qt W w' from by
   have k := NU.out W x er hle.1
   rwa [errV_pos ad (Nat.pos_of_ne_zero hle.2.1)] at k))
  have ze : ((er : Int) != 0) = true := by rw [bne_iff_ne]; omega
  have zs : ((er : Int) != (er : Int)) = false := bne_self_eq_false _
  clear hle hz her LY RL NU
  go_enter Tryz.func5, Tryz.ntmps5
  go_wp2_with fail
  refine FX.mono ?_
  rintro e w1 ⟨rfl, q1⟩
  have Q1 := Lib.hid q1
  clear FX q1
  go_wp2_with fail
  refine (LB.out w1 Q1.out).mono ?_
  rintro e w2 ⟨rfl, m, rfl⟩
  have Q2 := Lib.hid (show Qt w (w1.drewN m) from Keeps.drewN Q1.out m)
  go_wp2_with fail
  refine (RB.out _).mono ?_
  rintro e w3 ⟨rfl, q3⟩
  have Q3 := Lib.hid (Qt.trans Q2.out q3)
  have b3 := Bk.new w3 61 #[.int .i64 0, .int .i64 0, .int .i64 0, .int .i64 0, .int .i64 0]
  have q4 : Qt w3 (w3.alloc (.cells #[.int .i64 0, .int .i64 0, .int .i64 0, .int .i64 0, .int .i64 0] 61)) := (Qt.refl w3).alloc _
  have B3 := Lib.hid b3
  have Q4 := Lib.hid (Qt.trans Q3.out q4)
  clear q3 q4 b3
  go_wp2_with fail
  refine (NB.out _ Q4.out).mono ?_
  rintro e w5 ⟨rfl, q5⟩
  have b5 := B3.out.qt q5
  have c0 := b5.cell 0 _ rfl
  have c1 := b5.cell 1 _ rfl
  have c2 := b5.cell 2 _ rfl
  have c3 := b5.cell 3 _ rfl
  have c4 := b5.cell 4 _ rfl
  have FIN := Lib.hid (Qt.trans Q4.out q5)
  clear b5 q5
  go_wp2_with fail
  have OR := Lib.hid (show (decide (n < 64) || decide (65536 < n)) = true from by
   rcases HN.out with x | x
   ·rw [decide_eq_true x]; rfl
   ·rw [decide_eq_true x, Bool.or_true])
  go_wp2
  all_goals go_ret
  ·refine ⟨?_, FIN.out⟩
   show Ending.returned (Value.bool (decide (n < 64) || decide (65536 < n))) = _
   rw [OR.out]
  ·exact ⟨rfl, FIN.out⟩
end Go.Proofs.YthjjfjhajadimaaGreatDoor
namespace Go.Proofs.YthjjfjhajadimaaGreatDoor
open Go.ChangeShapes Go.WideShapes Go.ChangeAt Go.RowKit
set_option maxRecDepth 100000
theorem laidOut : laidOutB Tryz.prog = true := by kernel_rfl
theorem own' : ownKnob Tryz.prog.godebug = none := by kernel_rfl
theorem witness_laid {H : Type} {enc : TypeId × Value -> H} {C : Checked} {os : Os} {f : FuncId} {fn : Func} {s : OpenSpec} {conds : List PathCond} {apart : Bool} {laid : List (String × DataW Unit)} (modest : Bool) (w0 : World) (args : Array Value) (hos : w0.os = os)
  (hsh : (w0.forCall (fun _ _ => 0) ⟨#[], args, []⟩).Shaped C.prog)
  (hok : Input.okWideB C.prog (w0.forCall (fun _ _ => 0) ⟨#[], args, []⟩) f ⟨#[], args, []⟩ = true)
  (hrow : s.preRow enc C.prog fn conds apart laid (w0.forCall (fun _ _ => 0) ⟨#[], args, []⟩).memory args) :
  ∃ (w : World) (tape : Tape) (i : Input), w.os = os /\ (w.forCall tape i).Shaped C.prog /\ i.vars = [] /\ Input.okWide C.prog (w.forCall tape i) .any w.heap.size f i /\
   s.preRow enc C.prog fn conds apart laid (w.forCall tape i).memory i.args /\ ({ modest := modest } : Assume).holds C.prog (lone (Frame.enter C.prog f i.args .normal) [] (w.forCall tape i)) :=
 ⟨w0, fun _ _ => 0, ⟨#[], args, []⟩, hos, hsh, (Input.okWide_of_okWideB (base := 0) hok).1, (Input.okWide_of_okWideB hok).2, hrow, by
  simp only [Assume.holds]
  exact ⟨by simp, by simp, fun _ => Modest.zero, by simp, by simp⟩⟩
theorem laidVars_sub {P : Program} {w : World} {L' L : List (String × DataW Unit)} (hs : L'.Sublist L) : ∀ {ps : List MemPlace}, DataW.LaidVars P w L ps -> ∃ q, DataW.LaidVars P w L' q /\ q.Sublist ps := by
 induction hs with
 | slnil => intro ps h; exact ⟨ps, h, List.Sublist.refl _⟩
 | cons a _ ih =>
  intro ps h
  obtain ⟨n, d⟩ := a
  obtain ⟨g, t, cs, f, p, q, h1, h2, h3, h4, hq, e⟩ := h
  obtain ⟨q', hq', hsub⟩ := ih hq
  exact ⟨q', hq', by rw [e]; exact hsub.trans (List.sublist_append_right _ _)⟩
 | cons_cons a _ ih =>
  intro ps h
  obtain ⟨n, d⟩ := a
  obtain ⟨g, t, cs, f, p, q, h1, h2, h3, h4, hq, e⟩ := h
  obtain ⟨q', hq', hsub⟩ := ih hq
  exact ⟨_, ⟨g, t, cs, f, p, q', h1, h2, h3, h4, hq', rfl⟩, by rw [e]; exact List.Sublist.append (List.Sublist.refl _) hsub⟩
theorem laidMet_sub {P : Program} {W : World} {L' L : List (String × DataW Unit)} (hs : L'.Sublist L) (h : laidMet P L W) : laidMet P L' W := by
 obtain ⟨ps, hv, hnd, hrows⟩ := h
 obtain ⟨q, hq, hsub⟩ := laidVars_sub hs hv
 exact ⟨q, hq, hnd.sublist hsub, fun b off hb => hrows b off (hsub.subset hb)⟩
theorem cellsErr : Tryz.prog.cellsOf 349 = 1 := by kernel_rfl
theorem cellsString : Tryz.prog.cellsOf 9 = 1 := by kernel_rfl
theorem starErr : "*errors.errorString" = "*" ++ "errors.errorString" := by decide
theorem rowErr (u : TypeId) (h : Tryz.prog.typeName? 3 u = some "*errors.errorString") : u = 335 :=
 typeName_ptr_named (nm := "errors.errorString") (by rw [<- starErr]; kernel_rfl) (by kernel_rfl) (by decide) u (by rw [<- starErr]; exact h)
def errD (text : List UInt8) : DataW Unit := .iface "*errors.errorString" (.ptr (.agg [.lit (.string text)]))
theorem laid_errs {W : World} {PS : List MemPlace} (hrows : ∀ b off, MemPlace.cell b off ∈ PS -> (∃ c t, W.heap[b]? = some (.cells c t (0, 0))) /\ ∀ u v, W.cell? ⟨b, off, none⟩ = some (.iface u v) -> Value.okWide Tryz.prog W .any 0 u v) :
  ∀ (L : List (String × List UInt8)) (gs : List Nat) (ps : List MemPlace), (∀ x ∈ ps, x ∈ PS) -> ps.Nodup -> L.map (fun x => Tryz.prog.globalNamed x.1) = gs.map some -> (∀ g ∈ gs, (Tryz.prog.globals[g]?).map (·.type) = some 27) ->
   DataW.LaidVars Tryz.prog W (L.map fun x => (x.1, errD x.2)) ps ->
   ∃ al : List Addr, al.length = gs.length /\ (∀ (i : Nat) (g : Nat) (a : Addr), gs[i]? = some g -> al[i]? = some a -> W.cell? ⟨g, 0, none⟩ = some (.iface 335 (.pointer (some a))) /\ (∃ c t, W.heap[a.block]? = some (.cells c t (0, 0)))) /\
    (∀ a ∈ al, MemPlace.cell a.block a.off ∈ ps) /\ (al.map fun a => MemPlace.cell a.block a.off).Nodup
 | [], gs, ps, _, _, hg, _, _ => by
  obtain rfl : gs = [] := by simpa using hg.symm
  exact ⟨[], rfl, fun i g a h => by simp at h, fun a h => by simp at h, by simp⟩
 | (n, text) :: r, [], ps, _, _, hg, _, _ => by simp at hg
 | (n, text) :: r, g :: gs, ps, hps, hnd, hg, ht, h => by
  simp only [List.map_cons, List.cons.injEq] at hg
  obtain ⟨g0, t0, cs0, f0, p0, q0, hg0, ht0, hv0, hd0, hq, e0⟩ := h
  obtain rfl := Option.some.inj (hg.1.symm.trans hg0)
  obtain rfl := Option.some.inj ((ht g (by simp)).symm.trans ht0)
  obtain ⟨l0⟩ := cs0
  have ok0 : ∀ u v, l0 = [.iface u v] -> Value.okWide Tryz.prog W .any 0 u v := fun u v e => by
   subst e
   exact (hrows g 0 (hps _ (by rw [e0]; simp [MemPlace.row]))).2 u v (by simpa using World.var?_cell hg0 hv0 0)
  obtain ⟨a0, s0, rfl, hc0, hs0, hz0, rfl⟩ := errorString_of_trod Tryz.underlying27 rowErr Tryz.underlying335 Tryz.underlying349 rfl rfl Tryz.underlying9 cellsErr cellsString hd0 ok0
  have hsub : q0.Sublist ps := by rw [e0]; exact List.sublist_append_right _ _
  obtain ⟨al, hl, h1, h2, h3⟩ := laid_errs hrows r gs q0 (fun x hx => hps x (hsub.subset hx)) (hnd.sublist hsub) hg.2 (fun g' hg' => ht g' (by simp [hg'])) hq
  have hmem : MemPlace.cell a0.block a0.off ∈ ps := by rw [e0]; simp [MemPlace.row]
  refine ⟨a0 :: al, by simp [hl], fun i g' a hi ha => ?_, fun a ha => ?_, ?_⟩
  ·cases i with
   | zero =>
    simp at hi ha
    subst hi ha
    exact ⟨by simpa using World.var?_cell hg0 hv0 0, (hrows _ _ (hps _ hmem)).1⟩
   | succ i => exact h1 i g' a (by simpa using hi) (by simpa using ha)
  ·rcases List.mem_cons.1 ha with rfl | ha
   ·exact hmem
   ·exact hsub.subset (h2 a ha)
  ·simp only [List.map_cons, List.nodup_cons]
   refine ⟨fun hm => ?_, h3⟩
   obtain ⟨a, ha, hae⟩ := List.mem_map.1 hm
   rw [e0] at hnd
   have hq1 := h2 a ha
   rw [hae] at hq1
   exact (List.nodup_append.1 hnd).2.2 _ (by simp [MemPlace.row]) _ hq1 rfl
theorem errs_of_list {W : World} (L : List (String × List UInt8)) (gs : List Nat) (hg : L.map (fun x => Tryz.prog.globalNamed x.1) = gs.map some) (ht : (gs.all fun g => decide ((Tryz.prog.globals[g]?).map (·.type) = some 27)) = true)
  (hall : (gErrs.all fun g => gs.contains g) = true) (hnd0 : gErrs.Nodup) (h : laidMet Tryz.prog (L.map fun x => (x.1, errD x.2)) W) : ∃ ad, Errs ad W := by
 obtain ⟨ps, hv, hnd, hrows⟩ := h
 obtain ⟨al, hl, h1, _, h3⟩ := laid_errs hrows L gs ps (fun _ h => h) hnd hg (fun g hg => of_decide_eq_true (List.all_eq_true.1 ht g hg)) hv
 have hlen : gErrs.length = 37 := rfl
 have pos : ∀ i, i < 37 -> gs[gs.idxOf (gErrs.getD i 0)]? = some (gErrs.getD i 0) /\ al[gs.idxOf (gErrs.getD i 0)]? = some (al.getD (gs.idxOf (gErrs.getD i 0)) default) := by
  intro i hi
  have hm : gErrs.getD i 0 ∈ gErrs := by rw [List.getD_eq_getElem?_getD, List.getElem?_eq_getElem (by omega)]; exact List.getElem_mem _
  have hm2 : gErrs.getD i 0 ∈ gs := List.contains_iff_mem.1 (List.all_eq_true.1 hall _ hm)
  have hlt := List.idxOf_lt_length_of_mem hm2
  refine ⟨by rw [List.getElem?_eq_getElem hlt]; simp, ?_⟩
  generalize gs.idxOf (gErrs.getD i 0) = x at *
  rw [List.getD_eq_getElem?_getD, List.getElem?_eq_getElem (by omega)]; rfl
 refine ⟨fun n => al.getD (gs.idxOf (gErrs.getD (n - 1) 0)) default, fun i g hgi => ?_, fun i j hi hj he => ?_, fun i hi => ?_⟩
 ·have hi : i < 37 := (List.getElem?_eq_some_iff.1 hgi).1
  have e : gErrs.getD i 0 = g := by rw [List.getD_eq_getElem?_getD, hgi]; rfl
  obtain ⟨p1, p2⟩ := pos i hi
  simp only [Nat.add_sub_cancel]
  rw [e] at p1 p2 ⊢
  exact (h1 _ g _ p1 p2).1
 ·simp only [Nat.add_sub_cancel] at he
  obtain ⟨p1, p2⟩ := pos i hi
  obtain ⟨q1, q2⟩ := pos j hj
  rw [<- he] at q2
  have hidx : gs.idxOf (gErrs.getD i 0) = gs.idxOf (gErrs.getD j 0) := by
   refine (List.getElem?_inj (by rw [List.length_map]; exact (List.getElem?_eq_some_iff.1 p2).1) h3).1 ?_
   rw [List.getElem?_map, List.getElem?_map, p2, q2]
  rw [hidx, q1] at p1
  have hv := Option.some.inj p1
  refine ((List.getElem?_inj (by omega) hnd0).1 ?_).symm
  rw [List.getElem?_eq_getElem (show j < gErrs.length by omega), List.getElem?_eq_getElem (show i < gErrs.length by omega)]
  rw [List.getD_eq_getElem?_getD, List.getD_eq_getElem?_getD, List.getElem?_eq_getElem (show j < gErrs.length by omega), List.getElem?_eq_getElem (show i < gErrs.length by omega)] at hv
  simpa using hv
 ·obtain ⟨p1, p2⟩ := pos i hi
  simp only [Nat.add_sub_cancel]
  exact (h1 _ _ _ p1 p2).2
def errTexts : List (String × List UInt8) := [
 ("remit/api.ErrShort", [114, 101, 109, 105, 116, 58, 32, 116, 111, 111, 32, 115, 104, 111, 114, 116]),
 ("remit/api.ErrVarint", [114, 101, 109, 105, 116, 58, 32, 118, 97, 114, 105, 110, 116]),
 ("remit/api.ErrLimit", [114, 101, 109, 105, 116, 58, 32, 108, 105, 109, 105, 116]),
 ("remit/api.ErrOrder", [114, 101, 109, 105, 116, 58, 32, 111, 114, 100, 101, 114]),
 ("remit/api.ErrTail", [114, 101, 109, 105, 116, 58, 32, 116, 97, 105, 108]),
 ("remit/api.ErrRange", [114, 101, 109, 105, 116, 58, 32, 114, 97, 110, 103, 101]),
 ("remit/api.ErrForm", [114, 101, 109, 105, 116, 58, 32, 102, 111, 114, 109]),
 ("remit/api.ErrDigits", [114, 101, 109, 105, 116, 58, 32, 99, 104, 101, 99, 107, 32, 100, 105, 103, 105, 116, 115]),
 ("remit/api.ErrAmount", [114, 101, 109, 105, 116, 58, 32, 97, 109, 111, 117, 110, 116]),
 ("remit/api.ErrOverflow", [114, 101, 109, 105, 116, 58, 32, 111, 118, 101, 114, 102, 108, 111, 119]),
 ("remit/api.ErrCurrency", [114, 101, 109, 105, 116, 58, 32, 99, 117, 114, 114, 101, 110, 99, 121]),
 ("remit/api.ErrDown", [114, 101, 109, 105, 116, 58, 32, 100, 111, 119, 110]),
 ("remit/api.ErrSmall", [114, 101, 109, 105, 116, 58, 32, 115, 109, 97, 108, 108]),
 ("remit/api.ErrBlank", [114, 101, 109, 105, 116, 58, 32, 98, 108, 97, 110, 107]),
 ("remit/api.ErrCorrupt", [114, 101, 109, 105, 116, 58, 32, 99, 111, 114, 114, 117, 112, 116]),
 ("remit/api.ErrWorn", [114, 101, 109, 105, 116, 58, 32, 119, 111, 114, 110]),
 ("remit/api.ErrFull", [114, 101, 109, 105, 116, 58, 32, 102, 117, 108, 108]),
 ("remit/api.ErrLarge", [114, 101, 109, 105, 116, 58, 32, 108, 97, 114, 103, 101]),
 ("remit/api.ErrClosed", [114, 101, 109, 105, 116, 58, 32, 99, 108, 111, 115, 101, 100]),
 ("remit/api.ErrAccount", [114, 101, 109, 105, 116, 58, 32, 97, 99, 99, 111, 117, 110, 116]),
 ("remit/api.ErrExists", [114, 101, 109, 105, 116, 58, 32, 101, 120, 105, 115, 116, 115]),
 ("remit/api.ErrFrozen", [114, 101, 109, 105, 116, 58, 32, 102, 114, 111, 122, 101, 110]),
 ("remit/api.ErrFunds", [114, 101, 109, 105, 116, 58, 32, 102, 117, 110, 100, 115]),
 ("remit/api.ErrLegs", [114, 101, 109, 105, 116, 58, 32, 108, 101, 103, 115]),
 ("remit/api.ErrConflict", [114, 101, 109, 105, 116, 58, 32, 99, 111, 110, 102, 108, 105, 99, 116]),
 ("remit/api.ErrId", [114, 101, 109, 105, 116, 58, 32, 105, 100]),
 ("remit/api.ErrPayee", [114, 101, 109, 105, 116, 58, 32, 112, 97, 121, 101, 101]),
 ("remit/api.ErrRail", [114, 101, 109, 105, 116, 58, 32, 114, 97, 105, 108]),
 ("remit/api.ErrBusy", [114, 101, 109, 105, 116, 58, 32, 98, 117, 115, 121]),
 ("remit/api.ErrWindow", [114, 101, 109, 105, 116, 58, 32, 119, 105, 110, 100, 111, 119]),
 ("remit/api.ErrPhase", [114, 101, 109, 105, 116, 58, 32, 112, 104, 97, 115, 101]),
 ("remit/api.ErrToken", [114, 101, 109, 105, 116, 58, 32, 116, 111, 107, 101, 110]),
 ("remit/api.ErrTime", [114, 101, 109, 105, 116, 58, 32, 116, 105, 109, 101]),
 ("remit/api.ErrUnknown", [114, 101, 109, 105, 116, 58, 32, 117, 110, 107, 110, 111, 119, 110]),
 ("remit/api.ErrConfig", [114, 101, 109, 105, 116, 58, 32, 99, 111, 110, 102, 105, 103, 117, 114, 97, 116, 105, 111, 110]),
 ("remit/api.ErrCommand", [114, 101, 109, 105, 116, 58, 32, 99, 111, 109, 109, 97, 110, 100]),
 ("remit/api.ErrUse", [114, 101, 109, 105, 116, 58, 32, 105, 110, 32, 117, 115, 101])]
theorem errs_of_texts {W : World} (h : laidMet Tryz.prog (errTexts.map fun x => (x.1, errD x.2)) W) : ∃ ad, Errs ad W :=
 errs_of_list errTexts gErrs (by kernel_rfl) (by kernel_rfl) (by decide) (by decide) h
theorem tab_of {W : World} (h : laidMet Tryz.prog [("remit/checks.steps", (Rows.laid_remit_checks_steps : DataW Unit))] W) : Tab W := by
 have h1 := Lib.tabIs_of_head (P := Tryz.prog) (W := W) (name := "remit/checks.steps") (k := .u32) (zs := C.tab.map Int.ofNat) (rest := []) (g := 38) (t := 332) (e := 259) (n := 16) (by kernel_rfl) (by kernel_rfl) Tryz.underlying332 Tryz.underlying259 (by kernel_rfl) (by kernel_rfl) h
 intro k hk
 have h2 := h1.cell (g := 38) (by kernel_rfl) k (by simpa [C.tab] using hk)
 rw [h2]
 congr 2
 have : ∀ k < 16, (C.tab.map Int.ofNat).getD k 0 = ((C.tab.getD k 0 : Nat) : Int) := by decide
 exact this k hk
end Go.Proofs.YthjjfjhajadimaaGreatDoor

namespace Go.Proofs.YthjjfjhajadimaaGreatDoor
open Go.ChangeShapes Go.WideShapes Go.ChangeAt Go.RowKit
set_option maxRecDepth 100000
def all38 : List (String × DataW Unit) := (errTexts.map fun x => (x.1, errD x.2)) ++ [("remit/checks.steps", Rows.laid_remit_checks_steps)]
theorem errs_tab_of {W : World} (h : laidMet Tryz.prog all38 W) : (∃ ad, Errs ad W) /\ Tab W :=
 ⟨errs_of_texts (laidMet_sub (List.sublist_append_left _ _) h), tab_of (laidMet_sub (List.sublist_append_right _ _) h)⟩
theorem layoutsS_rows : all38 = Rows.storeLayoutsRow.laid := rfl
theorem errs_layoutsS {W : World} (h : laidMetH Tryz.prog Rows.storeLayoutsRow.laid W) : (∃ ad, Errs ad W) /\ Tab W := by
 rw [MakeChecks.laidMetH_plain _ _ _ (by kernel_rfl), <- layoutsS_rows] at h
 exact errs_tab_of h
noncomputable def doorS (os : Os) : World := World.laidAll Tryz.prog os all38
theorem doorS_met (os : Os) (args : Array Value) : laidMetH Tryz.prog all38 ((doorS os).forCall (fun _ _ => 0) ⟨#[], args, []⟩).memory := by
 rw [MakeChecks.laidMetH_plain _ _ _ (by kernel_rfl)]
 exact laidMet_laidAll _ (by kernel_rfl) (by kernel_rfl)
end Go.Proofs.YthjjfjhajadimaaGreatDoor
