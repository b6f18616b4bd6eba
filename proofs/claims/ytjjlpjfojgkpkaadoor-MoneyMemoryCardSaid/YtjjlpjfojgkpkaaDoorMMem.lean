/-
  The contract of remitlaw04.MoneyMemory.
-/
import Derived.Test.YtjjlpjfojgkpkaaDoorNewL
import Derived.Test.YtjjlpjfojgkpkaaDoorKeptInts
import Derived.Test.YtjjlpjfojgkpkaaDoorNum
import Derived.Outline
import Derived.Deep.RegionHeld3
import Derived.StillTailTactics
namespace Go.Proofs.YtjjlpjfojgkpkaaDoor
open Go.RowKit Go.WideShapes
set_option maxRecDepth 100000

theorem infoL : (Tryd.prog.info? 2).map (fun i => (i.zero, i.size, i.bytes)) = some (some (.int .i64 0), 1, 8) := by kernel_rfl
/-- The first loop: places of a row of the call's own are written over. -/
def MarkA (T : TypeId) (B : Nat) (w8 : World) (va : Value) (n : Nat) (i : Value) (wr : World) : Prop :=
  ∃ k : Nat, k ≤ n ∧ i = .int .i64 k ∧ (∃ ys, ys.length = n ∧ NewL T B wr va ys) ∧ Keeps (fun j => va.ownBlock = some j) w8 wr
theorem MarkA.more {T : TypeId} {B : Nat} {w8 wr : World} {g n cap k : Nat} (h : MarkA T B w8 (.slice (some ⟨g, 0, none⟩) n cap) n (.int .i64 (k : Int)) wr) (hk : k < n) :
    MarkA T B w8 (.slice (some ⟨g, 0, none⟩) n cap) n (.int .i64 ((k : Int) + 1)) (wr.setCell ⟨g, k, none⟩ (.int .i64 (-7))) := by
  obtain ⟨k', h1, h2, ⟨ys, h3, h4⟩, h5⟩ := h
  injection h2 with _ h2
  obtain rfl : k = k' := by omega
  exact ⟨k + 1, hk, rfl, ⟨_, by rw [List.length_set]; exact h3, h4.store hk (-7)⟩, h5.setCell (p := ⟨g, k, none⟩) (fun _ => rfl) _⟩
/-- The second loop: that row grows, or a new one does. -/
def GrowA (T : TypeId) (w9 : World) (va : Value) (n : Nat) (v i : Value) (wr : World) : Prop :=
  ∃ k : Nat, k ≤ 80 ∧ i = .int .i64 k ∧ ∃ ys : List Int, ys.length = n + k ∧ wr.ownsRow 0 T 1 v (n + k) (ys.map intV) ∧ (∀ j, v.ownBlock = some j → va.ownBlock = some j ∨ w9.heap.size ≤ j) ∧ Keeps (fun j => va.ownBlock = some j ∨ w9.heap.size ≤ j) w9 wr
theorem GrowA.more {T : TypeId} {w9 wr w1 : World} {va v v1 : Value} {n k : Nat} {ys : List Int} (h : GrowA T w9 va n v (.int .i64 (k : Int)) wr) (hk : k < 80) (hys : ys.length = n + k) {o : Obj}
    (hown : w1.ownsRow 0 T 1 v1 (n + k + 1) (ys.map intV ++ [intV (-8)])) (hg : (wr.alloc o).grownBy w1 v.ownBlock) (hl : Later (wr.alloc o) v.ownBlock v1.ownBlock) : GrowA T w9 va n v1 (.int .i64 ((k : Int) + 1)) w1 := by
  obtain ⟨k', h1, h2, ys', h3, h4, h5, h6⟩ := h
  injection h2 with _ h2
  obtain rfl : k = k' := by omega
  have hs := h6.size
  refine ⟨k + 1, hk, rfl, ys ++ [-8], by rw [List.length_append, hys]; rfl, by rw [List.map_append]; exact hown, fun j hj => ?_, Keeps.grown (h6.alloc o) hg (fun j hj e => h5 j e.symm)⟩
  rcases hl with e | ⟨g', e, hge⟩
  · exact h5 j (e ▸ hj)
  · rw [e] at hj; injection hj with hj; rw [World.size_alloc] at hge; exact .inr (by omega)
noncomputable def thirds (k : Nat) : List Int := (List.range k).map fun (j : Nat) => (j : Int) % 3
theorem thirds_length (k : Nat) : (thirds k).length = k := by simp [thirds]
theorem thirds_succ (k : Nat) : thirds (k + 1) = thirds k ++ [(k : Int) % 3] := by simp [thirds, List.range_succ]
theorem thirds_split (n m : Nat) : ∃ tl, thirds (n + m) = thirds n ++ tl := by
  induction m with
  | zero => exact ⟨[], by simp⟩
  | succ m ih =>
    obtain ⟨tl, h⟩ := ih
    exact ⟨tl ++ [((n + m : Nat) : Int) % 3], by rw [← Nat.add_assoc, thirds_succ, h, List.append_assoc]⟩
theorem thirds_step {fs : List Int} {k : Nat} (h : k < fs.length) : (thirds k ++ fs.drop k).set k ((k : Int) % 3) = thirds (k + 1) ++ fs.drop (k + 1) := by
  rw [List.set_append_right _ _ (by rw [thirds_length]; exact Nat.le_refl _), thirds_length, Nat.sub_self, thirds_succ, List.append_assoc, List.drop_eq_getElem_cons h]
  rfl
/-- The third loop: the list that was handed in is written over. -/
def FillF (B : Nat) (w9 : World) (gf n cf : Nat) (fs : List Int) (i : Value) (wr : World) : Prop :=
  ∃ k : Nat, k ≤ n + 80 ∧ i = .int .i64 k ∧ NewL 3 B wr (.slice (some ⟨gf, 0, none⟩) (n + 80) cf) (thirds k ++ fs.drop k) ∧ Keeps (fun j => j = gf) w9 wr
theorem FillF.more {B : Nat} {w9 wr : World} {gf n cf k : Nat} {fs : List Int} (h : FillF B w9 gf n cf fs (.int .i64 (k : Int)) wr) (hk : k < n + 80) (hfs : fs.length = n + 80) :
    FillF B w9 gf n cf fs (.int .i64 ((k : Int) + 1)) (wr.setCell ⟨gf, k, none⟩ (.int .i64 ((k : Int) % 3))) := by
  obtain ⟨k', h1, h2, h3, h4⟩ := h
  injection h2 with _ h2
  obtain rfl : k = k' := by omega
  refine ⟨k + 1, hk, rfl, ?_, h4.setCell (p := ⟨gf, k, none⟩) (fun _ => rfl) _⟩
  have := h3.store hk ((k : Int) % 3)
  rw [thirds_step (by omega)] at this
  exact this
set_option maxHeartbeats 3200000 in
theorem memory4_any (ad : Nat → Addr) (a : Int) (v : Value) (g off : Nat) (ws : List Int) (v' : Value) (g' off' : Nat) (xs : List Int) (w : World) (wl : ws.length ≤ 17592186043904) (xl : xs.length ≤ 17592186043904) (A : List Int → List Int) (E : List Int → Nat) (X : Int) (m : Nat) (hm : m ≤ 37) (hEn : ∀ ys, E ys ≤ 37) (hA : ∀ ys, (A ys).length ≤ ys.length)
    (FX : Hid (Calls Tryd.prog 4 #[] w fun e w' => e = .returned (.bool true) ∧ Qt w w'))
    (hE : Errs ad w)
    (SP : Hid (∀ W, Qt w W → ∀ va ga oa ys, IntsAt .i64 W va ga oa ys → Calls Tryd.prog 6 #[.int .i64 a, va] W fun e W' => ∃ vr, e = .returned (.tuple #[vr, errV ad (E ys)]) ∧ Qt W W' ∧ NewL 2 W.heap.size W' vr (A ys)))
    (SU : Hid (∀ W, Qt w W → ∀ va ga oa, IntsAt .i64 W va ga oa xs → Calls Tryd.prog 10 #[va] W fun e W' => e = .returned (.tuple #[.int .i64 X, errV ad m]) ∧ Qt W W'))
    (SA : Hid (∀ W va ga oa vb gb ob ys, IntsAt .i64 W va ga oa ys → IntsAt .i64 W vb gb ob ys → Calls Tryd.prog 9 #[va, vb] W fun e W' => e = .returned (.bool true) ∧ ∃ n, W' = W.drewN n))
    (hv : IntsAt .i64 w v g off ws) (hv' : IntsAt .i64 w v' g' off' xs) :
    Calls Tryd.prog 3 #[.int .i64 a, v, v'] w fun e w' => e = .returned (.bool true) ∧ Qt w w' := by
  obtain ⟨i0, hi, hz0, hz1, hz2⟩ := info_parts infoL
  obtain ⟨j0, hj, hj0, hj1, hj2⟩ := info_parts infoInt
  have HE := Lib.hid (fun W (q : Qt w W) => hE.kept q (OffErrs.none ad))
  have HV := Lib.hid (fun W (q : Qt w W) => hv.qt q)
  have HV' := Lib.hid (fun W (q : Qt w W) => hv'.qt q)
  have HA := Lib.hid hA
  have NU := Lib.hid (fun W (q : Qt w W) ys => num_any ad (E ys) W (hE.kept q (OffErrs.none ad)) (hEn ys))
  have NM := Lib.hid (fun W (q : Qt w W) => num_any ad m W (hE.kept q (OffErrs.none ad)) hm)
  clear hE hv hv' hA hEn hm
  go_enter Tryd.func3, Tryd.ntmps3
  go_wp2_with fail
  refine (FX.out).mono ?_
  rintro e w1 ⟨rfl, k1⟩
  have K1 := Lib.hid k1; clear k1
  go_wp2_with fail
  refine (spareInts_any v g off ws w1 (HV.out _ K1.out) wl).mono ?_
  rintro e w2 ⟨gf, cf, rfl, hn2, k2⟩
  have N2 := Lib.hid (NewL.of_ints hn2)
  have K2 := Lib.hid (Qt.trans K1.out k2)
  have hgf : w1.heap.size ≤ gf := hn2.new gf rfl
  have hm8 : (ws ++ marksI 80).length ≤ 17592186044416 := by rw [List.length_append, marksI_length]; omega
  have IN := Lib.hid (fun W (q : Qt w2 W) => (N2.out.qt q).take hm8)
  clear k2 hn2
  go_wp2_with fail
  refine (SP.out _ K2.out _ _ _ _ (IN.out _ (Qt.refl _))).mono ?_
  rintro e w3 ⟨va, rfl, k3, n3⟩
  have K23 := Lib.hid k3
  have K3 := Lib.hid (Qt.trans K2.out k3)
  have NA := Lib.hid n3
  have BA := Lib.hid (fun j (hj : va.ownBlock = some j) => (n3.lt hj).2)
  have BF := Lib.hid (show gf < w2.heap.size from (N2.out.lt rfl).2)
  clear k3 n3
  go_wp2_with fail
  refine (SP.out _ K3.out _ _ _ _ (IN.out _ K23.out)).mono ?_
  rintro e w4 ⟨vb, rfl, k4, n4⟩
  have NA4 := Lib.hid (NA.out.qt k4)
  have K24 := Lib.hid (Qt.trans K23.out k4)
  have K4 := Lib.hid (Qt.trans K3.out k4)
  have NB := Lib.hid n4
  have S34 := Lib.hid k4.size
  have S23 := Lib.hid K23.out.size
  clear k4 n4 NA
  go_wp2_with fail
  refine (SP.out _ K4.out _ _ _ _ (IN.out _ K24.out)).mono ?_
  rintro e w5 ⟨vc, rfl, k5, n5⟩
  have NA5 := Lib.hid (NA4.out.qt k5)
  have NB5 := Lib.hid (NB.out.qt k5)
  have K25 := Lib.hid (Qt.trans K24.out k5)
  have K5 := Lib.hid (Qt.trans K4.out k5)
  have NC5 := Lib.hid n5
  have K45 := Lib.hid k5.size
  clear k5 n5 NA4 NB
  obtain ⟨aa, ca, rfl, hca, hsa⟩ := NA5.out.shape
  obtain ⟨ab, cb, rfl, hcb, hsb⟩ := NB5.out.shape
  obtain ⟨ac, cc, rfl, hcc, hsc⟩ := NC5.out.shape
  have hla : (A ws).length ≤ 17592186044416 := by have := HA.out ws; omega
  obtain ⟨ga, TA⟩ := NA5.out.at hla
  obtain ⟨gb, TB⟩ := NB5.out.at hla
  obtain ⟨gc, TC⟩ := NC5.out.at hla
  have HSA := Lib.hid hsa
  have HSB := Lib.hid hsb
  have HSC := Lib.hid hsc
  have TA5 := Lib.hid (fun W (q : Qt w5 W) => TA.qt q)
  have TB5 := Lib.hid (fun W (q : Qt w5 W) => TB.qt q)
  have TC5 := Lib.hid (fun W (q : Qt w5 W) => TC.qt q)
  have hlA := Lib.hid (HA.out ws)
  clear hsa hsb hsc TA TB TC hla
  have NW := Lib.hid (fun W (q : Qt w W) => NU.out W q ws)
  generalize A ws = AS at *
  generalize hEE : errV ad (E ws) = EE at *
  generalize E ws = EN at *
  clear hEE
  go_wp2_with fail
  refine (keptInts_any _ v gf 0 g off ws w5 ((N2.out.qt K25.out).atg hm8) (HV.out _ K5.out) wl).mono ?_
  rintro e w6 ⟨rfl, k6⟩
  have K56 := Lib.hid k6
  have K6 := Lib.hid (Qt.trans K5.out k6)
  clear k6
  go_wp2_with fail
  refine (NW.out _ K6.out).mono ?_
  rintro e w7 ⟨rfl, k7⟩
  have K57 := Lib.hid (Qt.trans K56.out k7)
  have K7 := Lib.hid (Qt.trans K6.out k7)
  clear k7 K56 K6
  go_wp2_with fail
  refine (NW.out _ K7.out).mono ?_
  rintro e w8 ⟨rfl, k8⟩
  have K58 := Lib.hid (Qt.trans K57.out k8)
  have K8 := Lib.hid (Qt.trans K7.out k8)
  clear k8 K57 K7
  go_wp2_with fail
  refine (NW.out _ K8.out).mono ?_
  rintro e w9 ⟨rfl, k9⟩
  have K59 := Lib.hid (Qt.trans K58.out k9)
  have K9 := Lib.hid (Qt.trans K8.out k9)
  clear k9 K58 K8
  go_wp2_with fail
  refine (NW.out _ K9.out).mono ?_
  rintro e w10 ⟨rfl, k10⟩
  have K510 := Lib.hid (Qt.trans K59.out k10)
  have K10 := Lib.hid (Qt.trans K9.out k10)
  clear k10 K59 K9
  go_wp2_with fail
  refine (SA.out _ _ _ _ _ _ _ _ (TA5.out _ K510.out) (TB5.out _ K510.out)).mono ?_
  rintro e w11 ⟨rfl, n11, rfl⟩
  go_wp2_with fail
  refine (SA.out _ _ _ _ _ _ _ _ (TA5.out _ (K510.out.drewN n11)) (TC5.out _ (K510.out.drewN n11))).mono ?_
  rintro e w12 ⟨rfl, n12, rfl⟩
  have K12 := Lib.hid (Keeps.drewN (Keeps.drewN K10.out n11) n12)
  have K512 := Lib.hid (Keeps.drewN (Keeps.drewN K510.out n11) n12)
  generalize (w10.drewN n11).drewN n12 = w12 at *
  clear K10 K510
  obtain ⟨pv, cv, rfl, hpv⟩ := (HV'.out w (Qt.refl w)).val
  have HPV := Lib.hid hpv
  have hcv := (HV'.out w (Qt.refl w)).room _ _ _ rfl
  clear hpv
  go_wp2_with (at_make; refine wpList_make_own _ rfl _ _ 23 rfl 0 2 i0 (.int .i64 0) 1 Tryd.underlying23 hi hz0 hz1 .i64 .i64 _ (xs.length + 2) rfl rfl (by first | omega | simp) (by rw [hz2]; omega) (by unfold maxLen; omega) (Nat.zero_le _) ?_)
  intro w13 hown13 hgrow13
  have K513 := Lib.hid (K512.out.grown hgrow13 (fun k _ e => by cases e))
  have K13 := Lib.hid (K12.out.grown hgrow13 (fun k _ e => by cases e))
  have hs13 : w12.heap.size ≤ w13.heap.size := hgrow13.size
  have L13 := Lib.hid ((HV'.out _ K13.out).news HPV.out)
  clear hgrow13
  go_wp2_with (at_builtin; refine wpList_append_list _ rfl _ _ 23 rfl 2 i0 (.int .i64 0) 8 Tryd.underlying23 hi hz0 hz1 hz2 rfl _ 0 [] rfl hown13 pv xs.length cv (xs.map intV) rfl (by simp) L13.out (intV_one xs) (by simp; unfold maxLen; omega) (by simp; omega) ?_)
  intro v14 w14 hown14 hgrow14 hlat14
  have hs14 : w13.heap.size ≤ w14.heap.size := hgrow14.size
  have hb14 : ∀ k, v14.ownBlock = some k → w12.heap.size ≤ k := fun k hk => by
    rcases hlat14 with e | ⟨k', e, he⟩
    · rw [e] at hk; simp [Value.ownBlock] at hk; omega
    · rw [e] at hk; injection hk with hk; omega
  have K514 := Lib.hid (K513.out.grown hgrow14 (fun k hk e => by have h5 := K512.out.size; simp [Value.ownBlock] at e; omega))
  have K14 := Lib.hid (K13.out.grown hgrow14 (fun k hk e => by have h5 := K12.out.size; simp [Value.ownBlock] at e; omega))
  try simp only [Nat.zero_add, List.nil_append] at hown14
  have HB14 := Lib.hid hb14
  clear hown13 hgrow14 hlat14 hb14 L13
  go_wp2_with (at_builtin; refine wpList_append_cells0 _ rfl _ _ 23 rfl 2 i0 (.int .i64 0) 1 8 Tryd.underlying23 hi hz0 hz1 hz2 rfl (by decide) _ xs.length _ rfl (hown14.alloc _) ⟨w14.heap.size, 0, none⟩ 2 2 [intV 77, intV 78] rfl rfl ?c1 ?c2 (by unfold maxLen; omega) (by omega) ?_)
  case c1 => exact World.news_of_block (cs := #[intV 77, intV 78]) (heap_alloc_new w14 _)
  case c2 =>
    intro u hu
    simp at hu
    rcases hu with rfl | rfl <;> rfl
  intro v15 w15 hown15 hgrow15 hlat15 _
  have K515 := Lib.hid ((K514.out.alloc (.cells #[intV 77, intV 78] 2)).grown hgrow15 (fun k hk e => by have h5 := K512.out.size; have := HB14.out k e.symm; omega))
  have K15 := Lib.hid ((K14.out.alloc (.cells #[intV 77, intV 78] 2)).grown hgrow15 (fun k hk e => by have h5 := K12.out.size; have := HB14.out k e.symm; omega))
  have n15 : NewL 2 w12.heap.size w15 v15 (xs ++ [77, 78]) := ⟨by
    rw [List.length_append, List.map_append]; exact hown15, fun k hk => by
    rcases hlat15 with e | ⟨k', e, he⟩
    · rw [e] at hk; exact HB14.out k hk
    · rw [e] at hk; injection hk with hk; rw [World.size_alloc] at he; omega⟩
  obtain ⟨pg, cg, rfl, hcg, hpg⟩ := n15.shape
  obtain ⟨g15, rfl⟩ := hpg (by simp)
  have hl15 : (xs ++ [77, 78]).length = xs.length + 2 := by rw [List.length_append]; rfl
  rw [hl15] at n15 hcg
  rw [hl15]
  have N15 := Lib.hid n15
  have GI := Lib.hid (fun W (q : Qt w15 W) => (n15.qt q).take (by rw [hl15]; omega))
  have c77 := Lib.hid (n15.cell (i := xs.length) (x := 77) (by simp))
  have c78 := Lib.hid (n15.cell (i := xs.length + 1) (x := 78) (by simp))
  have SL := fun W => slice_low0 (some ⟨g15, 0, none⟩) (xs.length + 2) cg xs.length (by omega) W
  clear hown14 hown15 hgrow15 hlat15 n15 HB14 hl15
  go_wp2_with fail
  refine (SU.out _ K15.out _ _ _ (GI.out _ (Qt.refl _))).mono ?_
  rintro e w16 ⟨rfl, k16⟩
  have K16 := Lib.hid (Qt.trans K15.out k16)
  have K516 := Lib.hid (Qt.trans K515.out k16)
  have K1516 := Lib.hid k16
  clear k16
  go_wp2_with fail
  refine (SU.out _ K16.out _ _ _ (HV'.out _ K16.out)).mono ?_
  rintro e w17 ⟨rfl, k17⟩
  have K17 := Lib.hid (Qt.trans K16.out k17)
  have K517 := Lib.hid (Qt.trans K516.out k17)
  have K1517 := Lib.hid (Qt.trans K1516.out k17)
  clear k17 K16 K516 K1516
  generalize errV ad m = EM at *
  go_wp2_with fail
  refine (NM.out _ K17.out).mono ?_
  rintro e w18 ⟨rfl, k18⟩
  have K18 := Lib.hid (Qt.trans K17.out k18)
  have K518 := Lib.hid (Qt.trans K517.out k18)
  have K1518 := Lib.hid (Qt.trans K1517.out k18)
  clear k18 K17 K517 K1517
  go_wp2_with fail
  refine (NM.out _ K18.out).mono ?_
  rintro e w19 ⟨rfl, k19⟩
  have K19 := Lib.hid (Qt.trans K18.out k19)
  have K519 := Lib.hid (Qt.trans K518.out k19)
  have K1519 := Lib.hid (Qt.trans K1518.out k19)
  clear k19 K18 K518 K1518
  go_wp2_with fail
  refine (SA.out _ _ _ _ _ _ _ _ (GI.out _ K1519.out) (HV'.out _ K19.out)).mono ?_
  rintro e w20 ⟨rfl, n20, rfl⟩
  have K20 := Lib.hid (Keeps.drewN K19.out n20)
  have K520 := Lib.hid (Keeps.drewN K519.out n20)
  have K1520 := Lib.hid (Keeps.drewN K1519.out n20)
  generalize w19.drewN n20 = w20 at *
  have d77 := Keeps.cellv K1520.out c77.out (fun h => h)
  have d78 := Keeps.cellv K1520.out c78.out (fun h => h)
  clear K19 K519 K1519
  have O21 := Lib.hid (own_empty 2 w20)
  have L21 := Lib.hid (fun o => (TB5.out _ (K520.out.alloc o)).newsI)
  have hlA' : AS.length ≤ 17592186043904 := by have := hlA.out; omega
  go_wp2_with (at_builtin; refine wpList_append_list _ rfl _ _ 23 rfl 2 i0 (.int .i64 0) 8 Tryd.underlying23 hi hz0 hz1 hz2 rfl _ 0 [] rfl O21.out ab AS.length cb (AS.map intV) rfl (by simp) (L21.out _) (intV_one AS) (by simp; unfold maxLen; omega) (by simp; omega) ?_)
  intro v21 w21 hown21 hgrow21 hlat21
  have hn21 : ∀ k, v21.ownBlock = some k → w20.heap.size ≤ k := fun k hk => by
    rcases hlat21 with e | ⟨k', e, he⟩
    · rw [e] at hk; simp [Value.ownBlock] at hk; omega
    · rw [e] at hk; injection hk with hk; rw [World.size_alloc] at he; omega
  have NW21 := Lib.hid (show NewL 2 w20.heap.size w21 v21 AS from ⟨hown21, hn21⟩)
  have K21 := Lib.hid ((K20.out.alloc (.cells #[] 2)).grown hgrow21 (fun k hk e => by have h5 := K20.out.size; simp [Value.ownBlock] at e; omega))
  have K521 := Lib.hid ((K520.out.alloc (.cells #[] 2)).grown hgrow21 (fun k hk e => by have h5 := K520.out.size; simp [Value.ownBlock] at e; omega))
  have NA21 := Lib.hid (NA5.out.qt K521.out)
  have HS20 := Lib.hid (show w4.heap.size ≤ w20.heap.size from Nat.le_trans K45.out (K520.out.size))
  clear hown21 hgrow21 hlat21 hn21 O21 L21 d77 d78 c77 c78 GI N15 K20 K520
  go_wp2
  go_loopw [146] (fun i wr => MarkA 2 w2.heap.size w21 (.slice aa AS.length ca) AS.length i wr) (fun i _ => AS.length - (intOf i).toNat)
  case atStart => exact ⟨0, Nat.zero_le _, rfl, ⟨AS, rfl, NA21.out⟩, Keeps.refl _ _⟩
  case round =>
    have HR := Lib.hid hrel
    obtain ⟨k, hk, rfl, ⟨ys, hys, hn⟩, hK⟩ := hrel
    by_cases hlt : k < AS.length
    · obtain ⟨gA, rfl⟩ := HSA.out (fun e => by rw [e] at hlt; simp at hlt)
      obtain ⟨y, hy⟩ : ∃ y, ys[k]? = some y := ⟨ys[k]'(by omega), List.getElem?_eq_getElem (by omega)⟩
      have hc := hn.cell hy
      have hf := hn.frozen k
      have FIN := Lib.hid (MarkA.more HR.out hlt)
      clear hn hK hy hys
      go_wp2
      go_roundw
      case rel => exact FIN.out
      case measure => simp [intOf]; omega
    · obtain rfl : k = AS.length := by omega
      have HK := Lib.hid hK
      have HN := Lib.hid hn
      have HYS := Lib.hid hys
      clear hK hn hlt hys
      obtain ⟨wo, rfl⟩ : ∃ wo : World, wo = wr := ⟨_, rfl⟩
      go_wp2
      go_loopw [22, 23] (fun v i wr => GrowA 2 wo (.slice aa AS.length ca) AS.length v i wr) (fun _ i _ => 80 - (intOf i).toNat)
      case atStart =>
        exact ⟨0, Nat.zero_le _, rfl, ys, HYS.out, by have := HN.out.own; rw [HYS.out] at this; exact this, fun j hj => .inl hj, Keeps.refl _ _⟩
      case round =>
        have HR2 := Lib.hid hrel
        obtain ⟨k, hk, rfl, ys, hys, hn, hb, hK⟩ := hrel
        by_cases hlt : k < 80
        · clear hb hK
          go_wp2_with (at_builtin; refine wpList_append_cells0 _ rfl _ _ 23 rfl 2 i0 (.int .i64 0) 1 8 Tryd.underlying23 hi hz0 hz1 hz2 rfl (by decide) _ (AS.length + k) _ rfl (hn.alloc _) ⟨_, 0, none⟩ 1 1 [intV (-8)] rfl rfl ?c1 (intV_one [_]) (by unfold maxLen; omega) (by omega) ?_)
          case c1 => exact World.news_of_block (cs := #[intV (-8)]) (heap_alloc_new _ _)
          intro v22 w22 hown22 hgrow22 hlat22 _
          have FIN := Lib.hid (GrowA.more HR2.out hlt hys hown22 hgrow22 hlat22)
          clear hown22 hgrow22 hlat22 hn hys
          go_wp2
          go_roundw
          case rel => exact FIN.out
          case measure => simp [intOf]; omega
        · obtain rfl : k = 80 := by omega
          have HK2 := Lib.hid hK
          clear hK hn hb hlt hys
          obtain ⟨wr9, rfl⟩ : ∃ wo : World, wo = wr := ⟨_, rfl⟩
          have hbA : ∀ j, (Value.slice aa AS.length ca).ownBlock = some j → j < w3.heap.size ∧ w2.heap.size ≤ j := fun j hj => ⟨BA.out j hj, NA5.out.new j hj⟩
          have hbF := BF.out
          have s34 := S34.out
          have s23 := S23.out
          have s5 := K25.out.size
          have s521 := K521.out.size
          have s1 := HK.out.size
          have s2 := HK2.out.size
          have KB : ∀ (T : TypeId) (B : Nat) (x : Value) (ys : List Int), w3.heap.size ≤ B → NewL T B w21 x ys → NewL T B wr9 x ys := fun T B x ys hB h =>
            (h.kept HK.out (fun j hj e => by have h1 := hbA j e; have h2 := h.new j hj; omega)).kept HK2.out (fun j hj e => by
              have h2 := h.lt hj
              rcases e with e | e
              · have h1 := hbA j e; omega
              · omega)
          have NB9 := Lib.hid (KB _ _ _ _ (Nat.le_refl _) (NB5.out.qt K521.out))
          have NC9 := Lib.hid (KB _ _ _ _ s34 (NC5.out.qt K521.out))
          have NW9 := Lib.hid (KB _ _ _ _ (by have := HS20.out; omega) NW21.out)
          have NF9 := Lib.hid (((N2.out.qt (Qt.trans K25.out K521.out)).kept HK.out (fun j hj e => by
            have hj : gf = j := by injection hj
            have h1 := hbA j e
            omega)).kept HK2.out (fun j hj e => by
            have hj : gf = j := by injection hj
            rcases e with e | e
            · have h1 := hbA j e; omega
            · omega))
          have QW9 : Qt w wr9 := (Keeps.trans (Keeps.trans K21.out HK.out (fun j hj e => by have h1 := hbA j e; have := K2.out.size; omega)) HK2.out (fun j hj e => by
            have := K2.out.size
            have := K21.out.size
            rcases e with e | e
            · have h1 := hbA j e; omega
            · omega))
          have K9 := Lib.hid QW9
          have hgw := Lib.hid (show w.heap.size ≤ gf by have := K1.out.size; omega)
          clear KB hbA s34 s23 s5 s521 s1 s2 QW9 hbF
          go_wp2
          go_loopw [163] (fun i wr => FillF w1.heap.size wr9 gf ws.length cf (ws ++ marksI 80) i wr) (fun i _ => (ws.length + 80) - (intOf i).toNat)
          case atStart => exact ⟨0, Nat.zero_le _, rfl, by exact NF9.out, Keeps.refl _ _⟩
          case round =>
            have HR3 := Lib.hid hrel
            obtain ⟨k, hk, rfl, hn, hK⟩ := hrel
            by_cases hlt : k < ws.length + 80
            · obtain ⟨y, hy⟩ : ∃ y, (thirds k ++ (ws ++ marksI 80).drop k)[k]? = some y := ⟨_, List.getElem?_eq_getElem (by rw [List.length_append, List.length_drop, List.length_append, marksI_length, thirds_length]; omega)⟩
              have hc := hn.cell hy
              have hf := hn.frozen k
              have hki : (k : Int) < (ws.length : Int) + 80 := by omega
              have FIN := Lib.hid (FillF.more HR3.out hlt (by rw [List.length_append, marksI_length]))
              clear hn hK hy
              go_wp2
              go_roundw
              case rel => exact FIN.out
              case measure => simp [intOf]; omega
            · obtain rfl : k = ws.length + 80 := by omega
              have HK3 := Lib.hid hK
              have HN3 := Lib.hid hn
              clear hK hn hlt hk
              have hki : ¬ (((ws.length + 80 : Nat) : Int) < (ws.length : Int) + 80) := by omega
              obtain ⟨wt, rfl⟩ : ∃ wo : World, wo = wr := ⟨_, rfl⟩
              obtain ⟨tl, htl⟩ := thirds_split ws.length 80
              rw [List.drop_eq_nil_of_le (by rw [List.length_append, marksI_length]; exact Nat.le_refl _), List.append_nil, htl] at HN3
              have hlt3 := congrArg List.length htl
              rw [thirds_length] at hlt3
              have IT := Lib.hid (fun W (q : Qt wt W) => (HN3.out.qt q).take (by rw [← hlt3]; omega))
              rw [thirds_length] at IT
              have KQ := Lib.hid (show Qt w wt from Keeps.trans K9.out HK3.out (fun j hj e => by have := hgw.out; omega))
              have hgb := Lib.hid (show ∀ (T : TypeId) (x : Value) (ys : List Int), NewL T w3.heap.size wr9 x ys → NewL T w3.heap.size wt x ys from fun T x ys h => h.kept HK3.out (fun j hj e => by
                have h1 := h.new j hj
                have := BF.out
                have := S23.out
                omega))
              have NBt := Lib.hid (hgb.out _ _ _ NB9.out)
              have NCt := Lib.hid (hgb.out _ _ _ ⟨NC9.out.own, fun j hj => Nat.le_trans S34.out (NC9.out.new j hj)⟩)
              have NWt := Lib.hid (hgb.out _ _ _ ⟨NW9.out.own, fun j hj => Nat.le_trans (Nat.le_trans S34.out HS20.out) (NW9.out.new j hj)⟩)
              have AT := Lib.hid (HA.out (thirds ws.length))
              have NT := Lib.hid (fun W (q : Qt w W) => NU.out W q (thirds ws.length))
              have tlen := Lib.hid (thirds_length ws.length)
              clear htl hlt3 hgb
              go_wp2_with fail
              refine (SP.out _ KQ.out _ _ _ _ (IT.out _ (Qt.refl _))).mono ?_
              rintro e w31 ⟨vr, rfl, k31, n31⟩
              have KT31 := Lib.hid k31
              have K31 := Lib.hid (Qt.trans KQ.out k31)
              have NR := Lib.hid n31
              clear k31 n31
              have O32 := Lib.hid (own_empty 3 w31)
              have L32 := Lib.hid (fun o => (IT.out _ (KT31.out.alloc o)).newsI)
              rw [tlen.out] at AT
              generalize hTS : thirds ws.length = TS at *
              have HTS := Lib.hid (show TS.length = ws.length by rw [← hTS]; exact thirds_length _)
              clear hTS tlen
              go_wp2_with (at_builtin; refine wpList_append_list _ rfl _ _ 22 rfl 3 j0 (.int .i64 0) 8 Tryd.underlying22 hj hj0 hj1 hj2 rfl _ 0 [] rfl O32.out (some ⟨gf, 0, none⟩) ws.length cf (TS.map intV) rfl (by rw [List.length_map]; exact HTS.out.symm) (L32.out _) (intV_one TS) (by rw [List.length_map, HTS.out]; unfold maxLen; omega) (by rw [List.length_map, HTS.out]; omega) ?_)
              intro v33 w33 hown33 hgrow33 hlat33
              rw [HTS.out] at hown33
              try simp only [Nat.zero_add, List.nil_append] at hown33
              have K33 := Lib.hid ((K31.out.alloc (.cells #[] 3)).grown hgrow33 (fun k hk e => by have h5 := K31.out.size; simp [Value.ownBlock] at e; omega))
              have KT33 := Lib.hid ((KT31.out.alloc (.cells #[] 3)).grown hgrow33 (fun k hk e => by have h5 := KT31.out.size; simp [Value.ownBlock] at e; omega))
              have KR33 := Lib.hid (((Qt.refl w31).alloc (.cells #[] 3)).grown hgrow33 (fun k hk e => by simp [Value.ownBlock] at e; omega))
              have n33 : NewL 3 0 w33 v33 TS := ⟨by rw [HTS.out]; exact hown33, fun _ _ => Nat.zero_le _⟩
              obtain ⟨g33, I33⟩ := n33.at (by rw [HTS.out]; omega)
              have HI := Lib.hid I33
              clear hown33 hgrow33 hlat33 n33 I33 O32 L32
              go_wp2_with fail
              refine (SP.out _ K33.out _ _ _ _ HI.out).mono ?_
              rintro e w34 ⟨vx, rfl, k34, n34⟩
              have K34 := Lib.hid (Qt.trans K33.out k34)
              have KT34 := Lib.hid (Qt.trans KT33.out k34)
              have NR34 := Lib.hid (NR.out.qt (Qt.trans KR33.out k34))
              have NX34 := Lib.hid n34
              clear k34 n34
              have hlS : AS.length ≤ 17592186044416 := by omega
              obtain ⟨g1, I1⟩ := NBt.out.at hlS
              obtain ⟨g2, I2⟩ := NCt.out.at hlS
              obtain ⟨g3, I3⟩ := NWt.out.at hlS
              have hlT : (A TS).length ≤ 17592186044416 := by have := AT.out; omega
              obtain ⟨g4, I4⟩ := NR34.out.at hlT
              obtain ⟨g5, I5⟩ := NX34.out.at hlT
              have J1 := Lib.hid (fun W (q : Qt wt W) => I1.qt q)
              have J2 := Lib.hid (fun W (q : Qt wt W) => I2.qt q)
              have J3 := Lib.hid (fun W (q : Qt wt W) => I3.qt q)
              have J4 := Lib.hid (fun W (q : Qt w34 W) => I4.qt q)
              have J5 := Lib.hid (fun W (q : Qt w34 W) => I5.qt q)
              clear I1 I2 I3 I4 I5 hlT hlS
              have NTT := Lib.hid (fun W (q : Qt w W) => NU.out W q TS)
              generalize A TS = AA at *
              generalize hEE : errV ad (E TS) = EE2 at *
              generalize E TS = EN2 at *
              clear hEE
              go_wp2_with fail
              refine (SA.out _ _ _ _ _ _ _ _ (J1.out _ KT34.out) (J3.out _ KT34.out)).mono ?_
              rintro e w35 ⟨rfl, n35, rfl⟩
              go_wp2_with fail
              refine (SA.out _ _ _ _ _ _ _ _ (J2.out _ (KT34.out.drewN n35)) (J3.out _ (KT34.out.drewN n35))).mono ?_
              rintro e w36 ⟨rfl, n36, rfl⟩
              have K36 := Lib.hid (Keeps.drewN (Keeps.drewN K34.out n35) n36)
              have J36 := Lib.hid (Keeps.drewN (Keeps.drewN (Qt.refl w34) n35) n36)
              generalize (w34.drewN n35).drewN n36 = w36 at *
              go_wp2_with fail
              refine (NTT.out _ K36.out).mono ?_
              rintro e w37 ⟨rfl, k37⟩
              have K37 := Lib.hid (Qt.trans K36.out k37)
              have J37 := Lib.hid (Qt.trans J36.out k37)
              clear k37
              go_wp2_with fail
              refine (NTT.out _ K37.out).mono ?_
              rintro e w38 ⟨rfl, k38⟩
              have K38 := Lib.hid (Qt.trans K37.out k38)
              have J38 := Lib.hid (Qt.trans J37.out k38)
              clear k38
              go_wp2_with fail
              refine (SA.out _ _ _ _ _ _ _ _ (J4.out _ J38.out) (J5.out _ J38.out)).mono ?_
              rintro e w39 ⟨rfl, n39, rfl⟩
              have K39 := Lib.hid (Keeps.drewN K38.out n39)
              go_wp2
              go_ret
              exact ⟨rfl, K39.out⟩
end Go.Proofs.YtjjlpjfojgkpkaaDoor
