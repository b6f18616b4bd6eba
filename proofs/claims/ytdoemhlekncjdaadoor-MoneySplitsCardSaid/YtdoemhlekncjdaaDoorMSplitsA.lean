/-
  The contract of remitlaw04.MoneySplits: the refusals.
-/
import Derived.Test.YtdoemhlekncjdaaDoorMFixed
import Derived.Test.YtdoemhlekncjdaaDoorMSplitsS
import Derived.Deep.CutBlock
import Derived.Deep.DeepCutAuto
namespace Go.Proofs.YtdoemhlekncjdaaDoor
open Go.RowKit Go.WideShapes
set_option maxRecDepth 100000

theorem sub_facts {A S S1 s : Nat} (h : S1 = S + s) (h1 : S1 ≤ A) : s ≤ A - S ∧ A - S ≤ A ∧ A - S1 = A - S - s := by omega
theorem near_facts {A sh lf q0 r0 : Nat} (hAb : A < 9223372036854775808) (hcase : sh = q0 ∨ (sh = q0 + 1 ∧ r0 ≠ 0)) (h1 : sh ≤ lf) (h2 : lf ≤ A) :
    q0 < 9223372036854775808 ∧ lf - sh < 9223372036854775808 ∧ decide ((lf : Int) < (sh : Int)) = false ∧ ∃ D : Int, wrap64 ((sh : Int) - (q0 : Int)) = D ∧ decide (D < 0) = false ∧ decide (1 < D) = false ∧
      ((D == 1) = false ∨ ((D == 1) = true ∧ ((r0 : Int) == 0) = false)) := by
  refine ⟨by omega, by omega, decide_eq_false (by omega), (sh : Int) - (q0 : Int), by unfold wrap64; omega, decide_eq_false (by omega), decide_eq_false (by omega), ?_⟩
  rcases hcase with h | ⟨h, hr⟩
  · left; rw [beq_eq_false_iff_ne]; omega
  · right
    refine ⟨by rw [beq_iff_eq]; omega, ?_⟩
    rw [beq_eq_false_iff_ne]; omega
theorem wp_last {P : Program} {c : Code} {Q : Exit → Act → World → Prop} {a : Act} {w : World} (h : ∀ K : Act → World → Prop, (∀ a w, Q .normal a w → K a w) → c.wp P (Exit.then K Q) a w) : c.wp P Q a w := by
  have h1 := h (Q .normal) (fun _ _ h => h)
  have e : Exit.then (Q .normal) Q = Q := by funext x a w; cases x <;> rfl
  rwa [e] at h1
theorem near2 {s q : Nat} (h : q ≤ s ∧ s ≤ q + 1) : s = q ∨ s = q + 1 := by omega
theorem or_false_le {sh lf : Nat} (h : sh ≤ lf) : (decide ((sh : Int) < 0) || decide (lf < sh)) = false := by
  rw [Bool.or_eq_false_iff, decide_eq_false_iff_not, decide_eq_false_iff_not]; omega
theorem wrapU_mod (x : Int) : IntKind.u64.wrap x = ((x % 18446744073709551616).toNat : Int) := by rw [IntKind.wrap_u64]; omega
theorem wrapU_add (a b : Nat) : IntKind.u64.wrap ((a : Int) + (b : Int)) = (((a + b) % 18446744073709551616 : Nat) : Int) := by rw [IntKind.wrap_u64]; omega
set_option maxHeartbeats 12800000 in
theorem splits_neg (ad : Nat → Addr) (a : Int) (v : Value) (g off : Nat) (ws : List Int) (w : World) (a0 : -9223372036854775808 ≤ a) (a1 : a < 9223372036854775808) (hE : Errs ad w) (htab : Tab10 w) (hv : IntsAt .i64 w v g off ws) (ha : a < 0) :
    Calls Tryd.prog 5 #[.int .i64 a, v] w fun e w' => e = .returned (.bool true) ∧ Qt w w' := by
  have FX := Lib.hid (fixed_any ad w hE htab)
  have HE := Lib.hid (fun W (q : Qt w W) => hE.qt q)
  have HV := Lib.hid (fun W (q : Qt w W) => hv.qt q)
  have SP := Lib.hid (fun W (q : Qt w W) => split4_any ad a v g off ws W a0 a1 (hE.qt q) (hv.qt q))
  have hle := hv.le
  obtain ⟨pv, cap, rfl, hpv⟩ := hv.val
  have HPV := Lib.hid hpv
  clear hE htab hv hpv
  · have e9 : M.splitE a ws = 9 := if_pos ha
    have NU := Lib.hid (fun W (q : Qt w W) => num_any ad 9 W (HE.out W q) (by decide))
    rw [show errV ad 9 = .iface 121 (.pointer (some (ad 9))) from rfl] at NU
    have hst : decide (0 ≤ a) = false := decide_eq_false (by omega)
    have HST := Lib.hid hst
    clear a0 a1
    go_enter Tryd.func5, Tryd.ntmps5
    go_wp2_with fail
    refine (FX.out).mono ?_
    rintro e w1 ⟨rfl, k1⟩
    have K1 := Lib.hid k1; clear k1
    go_wp2_with fail
    refine (SP.out _ K1.out).mono ?_
    rintro e w2 ⟨lv, rfl, k2, hsv⟩
    have K2 := Lib.hid (Qt.trans K1.out k2)
    rw [e9] at hsv ⊢
    rcases hsv with ⟨_, rfl⟩ | ⟨h, _⟩
    · rw [show errV ad 9 = .iface 121 (.pointer (some (ad 9))) from rfl]
      clear e9 k2 hst
      go_wp2
      go_loop [7, 8, 32] (fun s b i => ∃ k : Nat, k ≤ ws.length ∧ i = .int .i64 k ∧ s = .int .u64 (M.sumU ws k : Nat) ∧ b = .bool (M.goodK a ws k)) (fun _ _ i => ws.length - (intOf i).toNat)
      case atStart => exact ⟨0, Nat.zero_le _, rfl, rfl, by rw [M.goodK, HST.out]⟩
      case round =>
        obtain ⟨k, hk, rfl, rfl, rfl⟩ := hrel
        by_cases hlt : k < ws.length
        · have hcx := (HV.out w2 K2.out).cells k _ (List.getElem?_eq_getElem hlt)
          obtain rfl := HPV.out (fun e => by rw [e] at hlt; simp at hlt)
          have HS := Lib.hid (show M.sumU ws (k + 1) = (M.sumU ws k + (ws[k] % 18446744073709551616).toNat) % 18446744073709551616 by rw [M.sumU, M.getD_at hlt])
          have HG := Lib.hid (show M.goodK a ws (k + 1) = (M.goodK a ws k && decide (0 ≤ ws[k]) && decide (ws[k] ≤ 1000000)) by rw [M.goodK, M.getD_at hlt])
          have W1 := wrapU_mod ws[k]
          have W2 := wrapU_add (M.sumU ws k) (ws[k] % 18446744073709551616).toNat
          generalize M.goodK a ws k = gb at *
          generalize M.sumU ws k = s0 at *
          generalize ws[k] = x at *
          generalize (x % 18446744073709551616).toNat = xm at *
          cases gb
          · go_wp2
            go_round
            case rel => exact ⟨k + 1, hlt, by go_num, by rw [HS.out] <;> first | rfl | (push_cast; rfl), by rw [HG.out]; rfl⟩
            case measure => simp [intOf]; omega
          · by_cases h0 : 0 ≤ x
            · have d0 : decide (0 ≤ x) = true := decide_eq_true h0
              clear h0
              by_cases h1 : x ≤ 1000000
              · have d1 : decide (x ≤ 1000000) = true := decide_eq_true h1
                clear h1
                go_wp2
                go_round
                case rel => exact ⟨k + 1, hlt, by go_num, by rw [HS.out] <;> first | rfl | (push_cast; rfl), by rw [HG.out]; simp [d0, d1]⟩
                case measure => simp [intOf]; omega
              · have d1 : decide (x ≤ 1000000) = false := decide_eq_false h1
                clear h1
                go_wp2
                go_round
                case rel => exact ⟨k + 1, hlt, by go_num, by rw [HS.out] <;> first | rfl | (push_cast; rfl), by rw [HG.out]; simp [d0, d1]⟩
                case measure => simp [intOf]; omega
            · have d0 : decide (0 ≤ x) = false := decide_eq_false h0
              clear h0
              go_wp2
              go_round
              case rel => exact ⟨k + 1, hlt, by go_num, by rw [HS.out] <;> first | rfl | (push_cast; rfl), by rw [HG.out]; simp [d0]⟩
              case measure => simp [intOf]; omega
        · obtain rfl : k = ws.length := by omega
          have hsl := M.sumU_lt ws ws.length
          clear hlt hk hsl
          generalize M.sumU ws ws.length = s1 at *
          generalize M.goodK a ws ws.length = g1 at *
          go_wp2_with fail
          refine (NU.out _ K2.out).mono ?_
          rintro e w3 ⟨rfl, k3⟩
          have K3 := Lib.hid (Qt.trans K2.out k3); clear k3
          go_wp2
          go_ret
          exact ⟨rfl, K3.out⟩
    · cases h

set_option maxHeartbeats 12800000 in
theorem splits_bad (ad : Nat → Addr) (a : Int) (v : Value) (g off : Nat) (ws : List Int) (w : World) (a0 : -9223372036854775808 ≤ a) (a1 : a < 9223372036854775808) (hE : Errs ad w) (htab : Tab10 w) (hv : IntsAt .i64 w v g off ws) (ha : ¬ a < 0) (hbad : ws.any M.badW = true ∨ M.total ws ws.length = 0) :
    Calls Tryd.prog 5 #[.int .i64 a, v] w fun e w' => e = .returned (.bool true) ∧ Qt w w' := by
  have FX := Lib.hid (fixed_any ad w hE htab)
  have HE := Lib.hid (fun W (q : Qt w W) => hE.qt q)
  have HV := Lib.hid (fun W (q : Qt w W) => hv.qt q)
  have SP := Lib.hid (fun W (q : Qt w W) => split4_any ad a v g off ws W a0 a1 (hE.qt q) (hv.qt q))
  have hle := hv.le
  obtain ⟨pv, cap, rfl, hpv⟩ := hv.val
  have HPV := Lib.hid hpv
  clear hE htab hv hpv
  · have hst : decide (0 ≤ a) = true := decide_eq_true (by omega)
    have HST := Lib.hid hst
    · have e6 : M.splitE a ws = 6 := by unfold M.splitE; rw [if_neg ha, if_pos hbad]
      have NU := Lib.hid (fun W (q : Qt w W) => num_any ad 6 W (HE.out W q) (by decide))
      rw [show errV ad 6 = .iface 121 (.pointer (some (ad 6))) from rfl] at NU
      have hga := M.goodK_any (a := a) (ws := ws) (by omega)
      have hor : M.goodK a ws ws.length = false ∨ (M.goodK a ws ws.length = true ∧ M.sumU ws ws.length = 0) := by
        by_cases hb : ws.any M.badW = true
        · left; rw [hga, hb]; rfl
        · right
          refine ⟨by rw [hga]; simpa using hb, ?_⟩
          rw [M.sumU_total (M.not_bad hb) hle _ (Nat.le_refl _)]
          exact hbad.resolve_left hb
      have HOR := Lib.hid hor
      have ha2 : 0 ≤ a := by omega
      clear hga hor a0 a1
      go_enter Tryd.func5, Tryd.ntmps5
      go_wp2_with fail
      refine (FX.out).mono ?_
      rintro e w1 ⟨rfl, k1⟩
      have K1 := Lib.hid k1; clear k1
      go_wp2_with fail
      refine (SP.out _ K1.out).mono ?_
      rintro e w2 ⟨lv, rfl, k2, hsv⟩
      have K2 := Lib.hid (Qt.trans K1.out k2)
      rw [e6] at hsv ⊢
      rcases hsv with ⟨_, rfl⟩ | ⟨h, _⟩
      · rw [show errV ad 6 = .iface 121 (.pointer (some (ad 6))) from rfl]
        clear e6 k2 hst hbad
        go_wp2
        go_loop [7, 8, 32] (fun s b i => ∃ k : Nat, k ≤ ws.length ∧ i = .int .i64 k ∧ s = .int .u64 (M.sumU ws k : Nat) ∧ b = .bool (M.goodK a ws k)) (fun _ _ i => ws.length - (intOf i).toNat)
        case atStart => exact ⟨0, Nat.zero_le _, rfl, rfl, by rw [M.goodK, HST.out]⟩
        case round =>
          obtain ⟨k, hk, rfl, rfl, rfl⟩ := hrel
          by_cases hlt : k < ws.length
          · have hcx := (HV.out w2 K2.out).cells k _ (List.getElem?_eq_getElem hlt)
            obtain rfl := HPV.out (fun e => by rw [e] at hlt; simp at hlt)
            have HS := Lib.hid (show M.sumU ws (k + 1) = (M.sumU ws k + (ws[k] % 18446744073709551616).toNat) % 18446744073709551616 by rw [M.sumU, M.getD_at hlt])
            have HG := Lib.hid (show M.goodK a ws (k + 1) = (M.goodK a ws k && decide (0 ≤ ws[k]) && decide (ws[k] ≤ 1000000)) by rw [M.goodK, M.getD_at hlt])
            have W1 := wrapU_mod ws[k]
            have W2 := wrapU_add (M.sumU ws k) (ws[k] % 18446744073709551616).toNat
            generalize M.goodK a ws k = gb at *
            generalize M.sumU ws k = s0 at *
            generalize ws[k] = x at *
            generalize (x % 18446744073709551616).toNat = xm at *
            cases gb
            · go_wp2
              go_round
              case rel => exact ⟨k + 1, hlt, by go_num, by rw [HS.out] <;> first | rfl | (push_cast; rfl), by rw [HG.out]; rfl⟩
              case measure => simp [intOf]; omega
            · by_cases h0 : 0 ≤ x
              · have d0 : decide (0 ≤ x) = true := decide_eq_true h0
                clear h0
                by_cases h1 : x ≤ 1000000
                · have d1 : decide (x ≤ 1000000) = true := decide_eq_true h1
                  clear h1
                  go_wp2
                  go_round
                  case rel => exact ⟨k + 1, hlt, by go_num, by rw [HS.out] <;> first | rfl | (push_cast; rfl), by rw [HG.out]; simp [d0, d1]⟩
                  case measure => simp [intOf]; omega
                · have d1 : decide (x ≤ 1000000) = false := decide_eq_false h1
                  clear h1
                  go_wp2
                  go_round
                  case rel => exact ⟨k + 1, hlt, by go_num, by rw [HS.out] <;> first | rfl | (push_cast; rfl), by rw [HG.out]; simp [d0, d1]⟩
                  case measure => simp [intOf]; omega
              · have d0 : decide (0 ≤ x) = false := decide_eq_false h0
                clear h0
                go_wp2
                go_round
                case rel => exact ⟨k + 1, hlt, by go_num, by rw [HS.out] <;> first | rfl | (push_cast; rfl), by rw [HG.out]; simp [d0]⟩
                case measure => simp [intOf]; omega
          · obtain rfl : k = ws.length := by omega
            have hsl := M.sumU_lt ws ws.length
            have hor := HOR.out
            generalize M.sumU ws ws.length = s1 at *
            generalize M.goodK a ws ws.length = g1 at *
            clear hlt hk hsl
            rcases hor with rfl | ⟨rfl, rfl⟩
            · go_wp2_with fail
              refine (NU.out _ K2.out).mono ?_
              rintro e w3 ⟨rfl, k3⟩
              have K3 := Lib.hid (Qt.trans K2.out k3); clear k3
              go_wp2
              go_ret
              exact ⟨rfl, K3.out⟩
            · go_wp2_with fail
              refine (NU.out _ K2.out).mono ?_
              rintro e w3 ⟨rfl, k3⟩
              have K3 := Lib.hid (Qt.trans K2.out k3); clear k3
              go_wp2
              go_ret
              exact ⟨rfl, K3.out⟩
      · cases h

end Go.Proofs.YtdoemhlekncjdaaDoor
