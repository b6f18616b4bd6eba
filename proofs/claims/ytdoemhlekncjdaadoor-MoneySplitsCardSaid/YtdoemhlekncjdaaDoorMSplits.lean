/-
  The contract of remitlaw04.MoneySplits: it answers true.
-/
import Derived.Test.YtdoemhlekncjdaaDoorMSplitsA
namespace Go.Proofs.YtdoemhlekncjdaaDoor
open Go.RowKit Go.WideShapes
set_option maxRecDepth 100000

set_option maxHeartbeats 12800000 in
theorem splits_good (ad : Nat → Addr) (a : Int) (v : Value) (g off : Nat) (ws : List Int) (w : World) (a0 : -9223372036854775808 ≤ a) (a1 : a < 9223372036854775808) (hE : Errs ad w) (htab : Tab10 w) (hv : IntsAt .i64 w v g off ws) (ha : ¬ a < 0) (hbad : ¬ (ws.any M.badW = true ∨ M.total ws ws.length = 0)) :
    Calls Tryd.prog 5 #[.int .i64 a, v] w fun e w' => e = .returned (.bool true) ∧ Qt w w' := by
  have FX := Lib.hid (fixed_any ad w hE htab)
  have HE := Lib.hid (fun W (q : Qt w W) => hE.qt q)
  have HV := Lib.hid (fun W (q : Qt w W) => hv.qt q)
  have SP := Lib.hid (fun W (q : Qt w W) => split4_any ad a v g off ws W a0 a1 (hE.qt q) (hv.qt q))
  have hle := hv.le
  obtain ⟨pv, cap, rfl, hpv⟩ := hv.val
  have HPV := Lib.hid hpv
  clear hE htab hv hpv
  · have hst : decide (0 ≤ a) = true := decide_eq_true (by omega)
    have HST := Lib.hid hst
    · have e0 : M.splitE a ws = 0 := by unfold M.splitE; rw [if_neg ha, if_neg hbad]
      obtain ⟨A, rfl⟩ := Int.eq_ofNat_of_zero_le (show 0 ≤ a by omega)
      obtain ⟨_, hgood, htot⟩ := M.splitE_zero e0
      have hg1 : M.goodK (A : Int) ws ws.length = true := by
        rw [M.goodK_any (by omega)]
        simpa using fun h => hbad (.inl h)
      have hsu := M.sumU_total hgood hle ws.length (Nat.le_refl _)
      obtain ⟨W, hW⟩ : ∃ W, M.total ws ws.length = W := ⟨_, rfl⟩
      have hWb : W ≤ 17592186044416000000 := by have := M.total_bound ws hgood ws.length (Nat.le_refl _); omega
      have hAb : A < 9223372036854775808 := by omega
      have HSP := Lib.hid (show M.Split A ws.length W (M.wAt ws) from ⟨hW, by omega⟩)
      rw [hW] at hsu htot
      have HSU := Lib.hid hsu
      have HG1 := Lib.hid hg1
      have HGD := Lib.hid hgood
      have HB := Lib.hid (And.intro hAb hWb)
      clear a0 a1 hst ha hbad hg1 hsu hgood hAb hWb htot
      go_enter Tryd.func5, Tryd.ntmps5
      go_wp2_with fail
      refine (FX.out).mono ?_
      rintro e w1 ⟨rfl, k1⟩
      have K1 := Lib.hid k1; clear k1
      go_wp2_with fail
      refine (SP.out _ K1.out).mono ?_
      rintro e w2 ⟨lv, rfl, k2, hsv⟩
      have K2 := Lib.hid (Qt.trans K1.out k2)
      rw [e0] at hsv ⊢
      rcases hsv with ⟨h, _⟩ | ⟨_, gs, rfl, _, hrow⟩
      · exact absurd rfl h
      · rw [errV_zero]
        have HR := Lib.hid hrow
        rw [hW] at HR
        have hT : (A : Int).toNat = A := rfl
        rw [hT] at HR
        clear e0 k2 hrow hW hT
        go_wp2
        go_loop [7, 8, 32] (fun s b i => ∃ k : Nat, k ≤ ws.length ∧ i = .int .i64 k ∧ s = .int .u64 (M.sumU ws k : Nat) ∧ b = .bool (M.goodK (A : Int) ws k)) (fun _ _ i => ws.length - (intOf i).toNat)
        case atStart => exact ⟨0, Nat.zero_le _, rfl, rfl, by rw [M.goodK, HST.out]⟩
        case round =>
          obtain ⟨k, hk, rfl, rfl, rfl⟩ := hrel
          by_cases hlt : k < ws.length
          · have hcx := (HV.out w2 K2.out).cells k _ (List.getElem?_eq_getElem hlt)
            obtain rfl := HPV.out (fun e => by rw [e] at hlt; simp at hlt)
            have HS := Lib.hid (show M.sumU ws (k + 1) = (M.sumU ws k + (ws[k] % 18446744073709551616).toNat) % 18446744073709551616 by rw [M.sumU, M.getD_at hlt])
            have HG := Lib.hid (show M.goodK (A : Int) ws (k + 1) = (M.goodK (A : Int) ws k && decide (0 ≤ ws[k]) && decide (ws[k] ≤ 1000000)) by rw [M.goodK, M.getD_at hlt])
            have W1 := wrapU_mod ws[k]
            have W2 := wrapU_add (M.sumU ws k) (ws[k] % 18446744073709551616).toNat
            generalize M.goodK (A : Int) ws k = gb at *
            generalize M.sumU ws k = s0 at *
            generalize ws[k] = x at *
            generalize (x % 18446744073709551616).toNat = xm at *
            cases gb
            · go_wp2
              go_round
              case rel => exact ⟨k + 1, hlt, by go_num, by rw [HS.out] <;> first | rfl | (push_cast; rfl), by rw [HG.out]; rfl⟩
              case measure => simp [intOf]; omega
            · by_cases h0 : 0 ≤ x
              · have d0 : decide (0 ≤ x) = true := decide_eq_true h0
                clear h0
                by_cases h1 : x ≤ 1000000
                · have d1 : decide (x ≤ 1000000) = true := decide_eq_true h1
                  clear h1
                  go_wp2
                  go_round
                  case rel => exact ⟨k + 1, hlt, by go_num, by rw [HS.out] <;> first | rfl | (push_cast; rfl), by rw [HG.out]; simp [d0, d1]⟩
                  case measure => simp [intOf]; omega
                · have d1 : decide (x ≤ 1000000) = false := decide_eq_false h1
                  clear h1
                  go_wp2
                  go_round
                  case rel => exact ⟨k + 1, hlt, by go_num, by rw [HS.out] <;> first | rfl | (push_cast; rfl), by rw [HG.out]; simp [d0, d1]⟩
                  case measure => simp [intOf]; omega
              · have d0 : decide (0 ≤ x) = false := decide_eq_false h0
                clear h0
                go_wp2
                go_round
                case rel => exact ⟨k + 1, hlt, by go_num, by rw [HS.out] <;> first | rfl | (push_cast; rfl), by rw [HG.out]; simp [d0]⟩
                case measure => simp [intOf]; omega
          · obtain rfl : k = ws.length := by omega
            have hsl := M.sumU_lt ws ws.length
            rw [HG1.out, HSU.out]
            clear hlt hk hsl
            have hW0 : ((W : Int) == 0) = false := by rw [beq_eq_false_iff_ne]; have := HSP.out.pos; omega
            have H0 := Lib.hid (show A - M.sumTo (M.share A ws.length W (M.wAt ws)) 0 = A from rfl)
            go_wp2
            go_loopw [11, 86] (fun l i w3 => ∃ k : Nat, k ≤ ws.length ∧ i = .int .i64 k ∧ l = .int .i64 ((A - M.sumTo (M.share A ws.length W (M.wAt ws)) k : Nat) : Int) ∧ Qt w2 w3) (fun _ i _ => ws.length - (intOf i).toNat)
            case atStart => exact ⟨0, Nat.zero_le _, rfl, by rw [H0.out], Qt.refl _⟩
            case round =>
              obtain ⟨k, hk, rfl, rfl, hq3⟩ := hrel
              rename_i w3
              have Q3 := Lib.hid hq3
              by_cases hlt : k < ws.length
              · have hcx := (HV.out _ (Qt.trans K2.out hq3)).cells k _ (List.getElem?_eq_getElem hlt)
                obtain rfl := HPV.out (fun e => by rw [e] at hlt; simp at hlt)
                have hgx := HGD.out _ (List.getElem_mem hlt)
                have hw : (M.wAt ws k : Int) = ws[k] := by rw [M.wAt_get hlt]; omega
                have hcs := (HR.out.qt hq3).cell (M.shares_at hlt)
                rw [← hw] at hcx hgx
                have hwW : M.wAt ws k ≤ W := by rw [← HSP.out.sum]; exact M.sumTo_le _ _ k hlt
                have hAb := HB.out.1
                have hWb := HB.out.2
                have MU := Lib.hid (fun Wd => mul64_any A (M.wAt ws k) Wd (by omega) (by omega))
                obtain ⟨p1, p2⟩ := product_parts (x := A) (y := M.wAt ws k) (d := W) (by omega) hwW HSP.out.pos
                have DI := Lib.hid (fun Wd => div64_any (A * M.wAt ws k / 18446744073709551616) (A * M.wAt ws k % 18446744073709551616) W Wd (Nat.mod_lt _ (by decide)) (Nat.lt_of_le_of_lt hWb (by decide)) p1)
                rw [p2] at DI
                have hsl1 : M.sumTo (M.share A ws.length W (M.wAt ws)) (k + 1) ≤ A := by
                  have h1 := M.sumTo_mono (M.share A ws.length W (M.wAt ws)) (show k + 1 ≤ ws.length from hlt)
                  rwa [M.share_sum HSP.out] at h1
                have HSUC := Lib.hid (show M.sumTo (M.share A ws.length W (M.wAt ws)) (k + 1) = M.sumTo (M.share A ws.length W (M.wAt ws)) k + M.share A ws.length W (M.wAt ws) k from rfl)
                rw [HSUC.out] at hsl1
                have hcase : (M.share A ws.length W (M.wAt ws) k = A * M.wAt ws k / W) ∨ (M.share A ws.length W (M.wAt ws) k = A * M.wAt ws k / W + 1 ∧ A * M.wAt ws k % W ≠ 0) := by
                  have h1 : A * M.wAt ws k / W ≤ M.share A ws.length W (M.wAt ws) k ∧ M.share A ws.length W (M.wAt ws) k ≤ A * M.wAt ws k / W + 1 := M.share_near (a := A) (n := ws.length) (W := W) (w := M.wAt ws) k
                  by_cases h0 : A * M.wAt ws k % W = 0
                  · left; exact M.share_none HSP.out h0
                  · rcases near2 h1 with h | h
                    · exact .inl h
                    · exact .inr ⟨h, h0⟩
                have MON := Lib.hid (fun j (hj : j < k) => And.intro (fun (h : M.wAt ws j < M.wAt ws k) => M.share_mono HSP.out hlt (.inl h)) (And.intro (fun (h : M.wAt ws k < M.wAt ws j) => M.share_mono HSP.out (i := k) (j := j) (by omega) (.inl h)) (fun (h : M.wAt ws k = M.wAt ws j) => M.share_mono HSP.out (i := k) (j := j) (by omega) (.inr ⟨h, hj⟩))))
                have ROW := Lib.hid (fun W4 (q : Qt w2 W4) j (hj : j < ws.length) => (HR.out.qt q).cell (M.shares_at hj))
                have WTS := Lib.hid (fun W4 (q : Qt w2 W4) j (hj : j < ws.length) => (show W4.cell? ⟨g, off + j, none⟩ = some (.int .i64 (M.wAt ws j : Nat)) by
                  have h1 := (HV.out _ (Qt.trans K2.out q)).cells j _ (List.getElem?_eq_getElem hj)
                  have h2 := HGD.out _ (List.getElem_mem hj)
                  have h3 : (M.wAt ws j : Int) = ws[j] := by rw [M.wAt_get hj]; omega
                  rw [h3]; exact h1))
                obtain ⟨ph, hph⟩ : ∃ z, A * M.wAt ws k / 18446744073709551616 = z := ⟨_, rfl⟩
                obtain ⟨pl, hpl⟩ : ∃ z, A * M.wAt ws k % 18446744073709551616 = z := ⟨_, rfl⟩
                obtain ⟨q0, hq0⟩ : ∃ z, A * M.wAt ws k / W = z := ⟨_, rfl⟩
                obtain ⟨r0, hr0⟩ : ∃ z, A * M.wAt ws k % W = z := ⟨_, rfl⟩
                rw [hph, hpl] at MU DI
                rw [hq0, hr0] at DI hcase
                obtain ⟨lf, hlf⟩ : ∃ z, A - M.sumTo (M.share A ws.length W (M.wAt ws)) k = z := ⟨_, rfl⟩
                obtain ⟨hshl, hlfA, hls⟩ := sub_facts HSUC.out (by rw [HSUC.out]; exact hsl1)
                rw [hlf] at hshl hlfA hls
                have HLS := Lib.hid hls
                clear hls
                obtain ⟨sh, hsh⟩ : ∃ z, M.share A ws.length W (M.wAt ws) k = z := ⟨_, rfl⟩
                have HSH := Lib.hid hsh
                have hw3 := hgx.2
                rw [hsh] at hcs hcase hshl HLS MON
                rw [hlf]
                obtain ⟨xk, hxk⟩ : ∃ z, M.wAt ws k = z := ⟨_, rfl⟩
                rw [hxk] at hcx MU MON hw3
                have W1 := wrapU_nat hAb
                obtain ⟨hq0A, hlA, d1, D, EM, gD0, gD1, hcase2⟩ := near_facts hAb hcase hshl hlfA
                have W2 := wrap64_nat hq0A
                have W3 := wrap64_nat hlA
                have W3' := sub_nat hshl
                have HSL := Lib.hid hshl
                have HXK := Lib.hid hxk
                clear hcase hlA
                clear hgx hw hwW p1 p2 hsl1 hph hpl hq0 hr0 hlf hlfA hsh hxk hq0A hshl hAb hWb hk hq3
                go_wp2_with fail
                refine (MU.out _).mono ?_
                rintro e w4 ⟨rfl, rfl⟩
                go_wp2_with fail
                refine (DI.out _).mono ?_
                rintro e w5 ⟨rfl, k5⟩
                have Q5 := Lib.hid (Qt.trans Q3.out k5)
                have hcs5 := Qt.cellv k5 hcs
                clear k5 hcs
                go_upto_region 25 with (fail)
                go_cut [18, 111, 112, 141] from 113 to 141 (fun a b c t wx => w5 = wx ∧ t = .bool false ∧ (∃ z : Value, a = z) ∧ (∃ z : Value, b = z) ∧ ∃ z : Value, c = z)
                case first =>
                  rcases hcase2 with gd | ⟨gd, gr⟩
                  · go_wp2
                    go_meet
                    exact ⟨rfl, congrArg Value.bool (or_false_le HSL.out), ⟨_, rfl⟩, ⟨_, rfl⟩, _, rfl⟩
                  · go_wp2
                    go_meet
                    exact ⟨rfl, congrArg Value.bool (or_false_le HSL.out), ⟨_, rfl⟩, ⟨_, rfl⟩, _, rfl⟩
                case rest =>
                  obtain ⟨rfl, rfl, -⟩ := hcut
                  clear hcase2
                  go_upto_block 4 with (fail)
                  clear W1 W2 EM d1 hcs5 gD0 gD1
                  refine wp_last fun K9 hK9 => ?_
                  go_cut [4, 19] from 148 to 211 (fun u4 jv wx => Qt w2 wx ∧ ∃ z : Value, jv = z)
                  case first =>
                    go_wp2_with fail
                    go_loopg [19] k (fun gm jv w6 => ∃ j : Nat, j ≤ k ∧ gm = k - j ∧ jv = .int .i64 j ∧ Qt w2 w6)
                    case atStart => exact ⟨0, Nat.zero_le _, rfl, rfl, Q5.out⟩
                    case round =>
                      obtain ⟨j, hj, rfl, rfl, hq6⟩ := hrel
                      rename_i w6
                      have Q6 := Lib.hid hq6
                      clear hq6
                      by_cases hjk : j < k
                      · by_cases hj60 : j < 60
                        · have g1 : decide ((j : Int) < (k : Int)) = true := decide_eq_true (by omega)
                          have g2 : decide ((j : Int) < 60) = true := decide_eq_true (by omega)
                          have hjl : j < ws.length := by omega
                          have cwj := WTS.out _ Q6.out j hjl
                          have cwk := WTS.out _ Q6.out k hlt
                          have csj := ROW.out _ Q6.out j hjl
                          have csk := ROW.out _ Q6.out k hlt
                          rw [HSH.out] at csk
                          rw [HXK.out] at cwk
                          have hm := MON.out j hjk
                          have n1 : (j : Int) < (ws.length : Int) := by omega
                          have n2 : (k : Int) < (ws.length : Int) := by omega
                          obtain ⟨xj, hxj⟩ : ∃ z, M.wAt ws j = z := ⟨_, rfl⟩
                          obtain ⟨sj, hsj⟩ : ∃ z, M.share A ws.length W (M.wAt ws) j = z := ⟨_, rfl⟩
                          rw [hxj] at cwj hm
                          rw [hsj] at csj hm
                          clear hxj hsj hjl hj
                          rcases Nat.lt_trichotomy xj xk with hx | hx | hx
                          · have f1 : decide ((xj : Int) < (xk : Int)) = true := decide_eq_true (by omega)
                            have f1n : decide (xj < xk) = true := decide_eq_true (by omega)
                            have f2 : decide ((sh : Int) < (sj : Int)) = false := decide_eq_false (by have := hm.1 hx; omega)
                            have f2n : decide (sh < sj) = false := decide_eq_false (by have := hm.1 hx; omega)
                            have f3 : decide ((xk : Int) < (xj : Int)) = false := decide_eq_false (by omega)
                            have f3n : decide (xk < xj) = false := decide_eq_false (by omega)
                            have f4 : ((xj : Int) == (xk : Int)) = false := by rw [beq_eq_false_iff_ne]; omega
                            have f4n : (xj == xk) = false := by rw [beq_eq_false_iff_ne]; omega
                            clear hm hx
                            go_wp2
                            go_quiet (fail)
                            go_wp2
                            go_roundg (k - (j + 1))
                            case rel => exact ⟨j + 1, by omega, rfl, by go_num, Keeps.drewN Q6.out _⟩
                            case measure => omega
                          · have hm3 := hm.2.2 hx.symm
                            subst hx
                            have f2 : decide ((sj : Int) < (sh : Int)) = false := decide_eq_false (by omega)
                            have f2n : decide (sj < sh) = false := decide_eq_false (by omega)
                            clear hm hm3
                            go_wp2
                            go_quiet (fail)
                            go_wp2
                            go_roundg (k - (j + 1))
                            case rel => exact ⟨j + 1, by omega, rfl, by go_num, Keeps.drewN Q6.out _⟩
                            case measure => omega
                          · have f1 : decide ((xj : Int) < (xk : Int)) = false := decide_eq_false (by omega)
                            have f1n : decide (xj < xk) = false := decide_eq_false (by omega)
                            have f2 : decide ((sj : Int) < (sh : Int)) = false := decide_eq_false (by have := hm.2.1 hx; omega)
                            have f2n : decide (sj < sh) = false := decide_eq_false (by have := hm.2.1 hx; omega)
                            have f3 : decide ((xk : Int) < (xj : Int)) = true := decide_eq_true (by omega)
                            have f3n : decide (xk < xj) = true := decide_eq_true (by omega)
                            have f4 : ((xj : Int) == (xk : Int)) = false := by rw [beq_eq_false_iff_ne]; omega
                            have f4n : (xj == xk) = false := by rw [beq_eq_false_iff_ne]; omega
                            clear hm hx
                            go_wp2
                            go_quiet (fail)
                            go_wp2
                            go_roundg (k - (j + 1))
                            case rel => exact ⟨j + 1, by omega, rfl, by go_num, Keeps.drewN Q6.out _⟩
                            case measure => omega
                        · go_wp2
                          go_meet
                          exact ⟨Q6.out, _, rfl⟩
                      · go_wp2
                        go_meet
                        exact ⟨Q6.out, _, rfl⟩
                  case rest =>
                    obtain ⟨q6, z, rfl⟩ := hcut
                    have Q6 := Lib.hid q6
                    clear q6
                    refine hK9 _ _ ?_
                    go_wp2
                    go_roundw
                    case rel => exact ⟨k + 1, hlt, by go_num, by rw [HLS.out]; exact congrArg (Value.int .i64) W3, Q6.out⟩
                    case measure => simp [intOf]; omega
              · obtain rfl : k = ws.length := by omega
                have hz : A - M.sumTo (M.share A ws.length W (M.wAt ws)) ws.length = 0 := by rw [M.share_sum HSP.out]; omega
                rw [hz]
                clear hlt hk hz hq3
                go_wp2
                go_ret
                exact ⟨rfl, Qt.trans K2.out Q3.out⟩

theorem splits_any (ad : Nat → Addr) (a : Int) (v : Value) (g off : Nat) (ws : List Int) (w : World) (a0 : -9223372036854775808 ≤ a) (a1 : a < 9223372036854775808) (hE : Errs ad w) (htab : Tab10 w) (hv : IntsAt .i64 w v g off ws) :
    Calls Tryd.prog 5 #[.int .i64 a, v] w fun e w' => e = .returned (.bool true) ∧ Qt w w' := by
  by_cases ha : a < 0
  · exact splits_neg ad a v g off ws w a0 a1 hE htab hv ha
  · by_cases hbad : ws.any M.badW = true ∨ M.total ws ws.length = 0
    · exact splits_bad ad a v g off ws w a0 a1 hE htab hv ha hbad
    · exact splits_good ad a v g off ws w a0 a1 hE htab hv ha hbad
end Go.Proofs.YtdoemhlekncjdaaDoor
