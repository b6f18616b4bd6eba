/-
  The contracts of the reference's Make, Id, System.
-/
import Derived.Test.YtalopcbjcgbdfaaDoorIRefA
import Derived.Test.YtalopcbjcgbdfaaDoorISysM
namespace Go.Proofs.YtalopcbjcgbdfaaDoor
open Go.RowKit Go.WideShapes
set_option maxRecDepth 100000

/-! ### Make -/
def makeN (c b : List UInt8) : Value :=
  match I.make c b with
  | none => .tuple #[.string ⟨#[]⟩, .int .i64 7]
  | some l => .tuple #[.string ⟨l.toArray⟩, .int .i64 0]
theorem makeN_none {c b : List UInt8} (h : (I.country c && I.body b) = false) : makeN c b = .tuple #[.string ⟨#[]⟩, .int .i64 7] := by unfold makeN; rw [I.make_none h]
theorem makeN_some {c b : List UInt8} {l : List UInt8} (h : I.make c b = some l) : makeN c b = .tuple #[.string ⟨l.toArray⟩, .int .i64 0] := by unfold makeN; rw [h]
theorem country_bad {c b : ByteArray} (h : countryS c = false) : (I.country c.data.toList && I.body b.data.toList) = false := by rw [show I.country c.data.toList = false from h, Bool.false_and]
theorem body_bad {c b : ByteArray} (h : bodyS b = false) : (I.country c.data.toList && I.body b.data.toList) = false := by rw [show I.body b.data.toList = false from h, Bool.and_false]
set_option maxHeartbeats 3200000 in
theorem refMake_any (c b : ByteArray) (w : World) (hc : c.size ≤ 140737488351232) (hb : b.size ≤ 140737488351232) :
    Calls Tryd.prog 20 #[.string c, .string b] w fun e w' => e = .returned (makeN c.data.toList b.data.toList) ∧ Qt w w' := by
  have HQ := Lib.hid (Qt.refl w)
  have A1 := Lib.hid (refAll_any c true false w (by unfold maxLen; omega))
  have A2 := Lib.hid (refAll_any b true true w (by unfold maxLen; omega))
  rw [allR_cap] at A1
  rw [allR_dl] at A2
  by_cases h2 : c.size = 2
  · have b2 : ((c.size : Int) != 2) = false := by rw [bne_eq_false_iff_eq]; omega
    have HC := country_yes h2
    cases h1 : allS I.cap c with
    | false =>
      rw [h1] at A1 HC
      have HE := Lib.hid (makeN_none (country_bad (b := b) HC))
      clear h1 h2 HC hc hb
      go_enter Tryd.func20, Tryd.ntmps20
      go_wp2_with fail
      refine A1.out.mono ?_
      rintro e w' ⟨rfl, rfl⟩
      go_wp2
      go_ret2
      exact ⟨by rw [HE.out]; rfl, HQ.out⟩
    | true =>
      rw [h1] at A1 HC
      by_cases h3 : b.size < 1
      · have HE := Lib.hid (makeN_none (body_bad (c := c) (body_empty (s := b) (by omega))))
        clear h1 h2 HC hc hb
        go_enter Tryd.func20, Tryd.ntmps20
        go_wp2_with fail
        refine A1.out.mono ?_
        rintro e w' ⟨rfl, rfl⟩
        go_wp2
        go_ret2
        exact ⟨by rw [HE.out]; rfl, HQ.out⟩
      · by_cases h4 : 30 < b.size
        · have HE := Lib.hid (makeN_none (body_bad (c := c) (body_long (s := b) (by omega))))
          clear h1 h2 HC hc hb
          go_enter Tryd.func20, Tryd.ntmps20
          go_wp2_with fail
          refine A1.out.mono ?_
          rintro e w' ⟨rfl, rfl⟩
          go_wp2
          go_ret2
          exact ⟨by rw [HE.out]; rfl, HQ.out⟩
        · have HB := body_yes (s := b) (by omega) (by omega)
          cases h5 : allS I.dl b with
          | false =>
            rw [h5] at A2 HB
            have HE := Lib.hid (makeN_none (body_bad (c := c) HB))
            clear h1 h2 h5 HC HB hc hb
            go_enter Tryd.func20, Tryd.ntmps20
            go_wp2_with fail
            refine A1.out.mono ?_
            rintro e w' ⟨rfl, rfl⟩
            go_wp2_with fail
            refine A2.out.mono ?_
            rintro e w' ⟨rfl, rfl⟩
            go_wp2
            go_ret2
            exact ⟨by rw [HE.out]; rfl, HQ.out⟩
          | true =>
            rw [h5] at A2 HB
            obtain ⟨d, hm, hd, _, _, _⟩ := I.make_some HC HB
            have HE := Lib.hid (makeN_some hm)
            have HD := Lib.hid (refDigits_any (b ++ c) w (by rw [ByteArray.size_append]; unfold maxLen; omega))
            rw [dapp, digN_yes hd] at HD
            have HS := Lib.hid (show c ++ ⟨d.toArray⟩ ++ b = (⟨(c.data.toList ++ d ++ b.data.toList).toArray⟩ : ByteArray) from str_list (by rw [dapp, dapp]))
            have hl : b.size ≤ 30 := by omega
            clear h1 h5 HC HB hm hd hc hb
            go_enter Tryd.func20, Tryd.ntmps20
            go_wp2_with fail
            refine A1.out.mono ?_
            rintro e w' ⟨rfl, rfl⟩
            go_wp2_with fail
            refine A2.out.mono ?_
            rintro e w' ⟨rfl, rfl⟩
            go_wp2_with fail
            refine HD.out.mono ?_
            rintro e w' ⟨rfl, k⟩
            have K := Lib.hid k
            clear k
            go_wp2
            go_ret2
            exact ⟨by rw [HE.out, ← HS.out]; rfl, K.out⟩
  · have b2 : ((c.size : Int) != 2) = true := by rw [bne_iff_ne]; omega
    have HE := Lib.hid (makeN_none (country_bad (b := b) (country_no h2)))
    clear h2 hc hb
    go_enter Tryd.func20, Tryd.ntmps20
    go_wp2
    go_ret2
    exact ⟨by rw [HE.out]; rfl, HQ.out⟩

/-! ### Id -/
def idN (s : List UInt8) : Int := if I.idB s = true then 0 else 26
theorem idN_yes {s : List UInt8} (h : I.idB s = true) : idN s = 0 := if_pos h
theorem idN_no {s : List UInt8} (h : I.idB s = false) : idN s = 26 := if_neg (by rw [h]; decide)
set_option maxHeartbeats 3200000 in
theorem refId_any (s : ByteArray) (w : World) :
    Calls Tryd.prog 18 #[.string s] w fun e w' => e = .returned (.int .i64 (idN s.data.toList)) ∧ w = w' := by
  by_cases h1 : s.size < 1
  · have HE := Lib.hid (idN_no (idB_empty (s := s) (by omega)))
    go_enter Tryd.func18, Tryd.ntmps18
    go_wp2
    go_ret
    exact ⟨ret_ii HE.out.symm, rfl⟩
  · by_cases h32 : 32 < s.size
    · have HE := Lib.hid (idN_no (idB_long (s := s) (by omega)))
      go_enter Tryd.func18, Tryd.ntmps18
      go_wp2
      go_ret
      exact ⟨ret_ii HE.out.symm, rfl⟩
    · have hE := idB_all (s := s) (by omega) (by omega)
      have HY := Lib.hid (fun h => idN_yes (hE.trans h))
      have HN := Lib.hid (fun h => idN_no (hE.trans h))
      have H0 := Lib.hid (show s.data.toList.all I.idc = (s.data.toList.drop 0).all I.idc from rfl)
      have hov := Lib.hid (all_over I.idc s)
      have hst := Lib.hid (fun k h => all_step I.idc s k h)
      generalize idN s.data.toList = R at *
      clear hE
      generalize s.data.toList.all I.idc = F at *
      go_enter Tryd.func18, Tryd.ntmps18
      go_wp2
      go_loop [3] (fun i => ∃ k : Nat, k ≤ s.size ∧ i = .int .i64 k ∧ F = (s.data.toList.drop k).all I.idc) (fun i => s.size - (intOf i).toNat)
      case atStart => exact ⟨0, Nat.zero_le _, rfl, H0.out⟩
      case round =>
        obtain ⟨k, hk, rfl, hr⟩ := hrel
        have HR := Lib.hid hr
        clear hr
        by_cases hlt : k < s.size
        · have hc := s[k].toNat_lt
          have HC := Lib.hid (fun v (hv : I.idc s[k] = v) => show F = (v && (s.data.toList.drop (k + 1)).all I.idc) by rw [HR.out, hst.out k hlt, hv])
          have HD := Lib.hid (show I.idc s[k] = (I.dig s[k] || I.cap s[k] || I.small s[k] || decide (s[k].toNat = 46) || decide (s[k].toNat = 95) || decide (s[k].toNat = 45)) from rfl)
          cases h1 : I.cap s[k] with
          | true =>
            have HP := Lib.hid (HC.out true (by rw [HD.out, h1]; simp))
            have H1 := Lib.hid h1
            clear h1
            go_wp2_with fail
            refine (rCapital_any s[k] _).mono ?_
            rintro e w' ⟨rfl, rfl⟩
            rw [H1.out]
            go_wp2
            go_round
            case rel => exact ⟨k + 1, by omega, by go_num, by rw [HP.out]; rfl⟩
            case measure => simp [intOf]; omega
          | false =>
            cases h2 : I.dig s[k] with
            | true =>
              have HP := Lib.hid (HC.out true (by rw [HD.out, h1, h2]; simp))
              have H1 := Lib.hid h1
              have H2 := Lib.hid h2
              clear h1 h2
              go_wp2_with fail
              refine (rCapital_any s[k] _).mono ?_
              rintro e w' ⟨rfl, rfl⟩
              rw [H1.out]
              go_wp2_with fail
              refine (rDigit_any s[k] _).mono ?_
              rintro e w' ⟨rfl, rfl⟩
              rw [H2.out]
              go_wp2
              go_round
              case rel => exact ⟨k + 1, by omega, by go_num, by rw [HP.out]; rfl⟩
              case measure => simp [intOf]; omega
            | false =>
              have H1 := Lib.hid h1
              have H2 := Lib.hid h2
              by_cases g1 : 97 ≤ s[k].toNat
              · by_cases g2 : s[k].toNat ≤ 122
                · have HP := Lib.hid (HC.out true (by rw [HD.out, h1, h2, show I.small s[k] = true from decide_eq_true ⟨g1, g2⟩]; simp))
                  clear h1 h2
                  go_wp2_with fail
                  refine (rCapital_any s[k] _).mono ?_
                  rintro e w' ⟨rfl, rfl⟩
                  rw [H1.out]
                  go_wp2_with fail
                  refine (rDigit_any s[k] _).mono ?_
                  rintro e w' ⟨rfl, rfl⟩
                  rw [H2.out]
                  go_wp2
                  go_round
                  case rel => exact ⟨k + 1, by omega, by go_num, by rw [HP.out]; rfl⟩
                  case measure => simp [intOf]; omega
                · have HP := Lib.hid (HC.out false (by rw [HD.out, h1, h2, show I.small s[k] = false from decide_eq_false (by omega), decide_eq_false (by omega), decide_eq_false (by omega), decide_eq_false (by omega)]; rfl))
                  have HP := Lib.hid (show F = false from HP.out.trans (Bool.false_and _))
                  have b46 : ((s[k].toNat : Int) == 46) = false := by rw [beq_eq_false_iff_ne]; omega
                  have b95 : ((s[k].toNat : Int) == 95) = false := by rw [beq_eq_false_iff_ne]; omega
                  have b45 : ((s[k].toNat : Int) == 45) = false := by rw [beq_eq_false_iff_ne]; omega
                  have g3 : decide ((s[k].toNat : Int) ≤ 122) = false := by rw [decide_eq_false_iff_not]; omega
                  have g4 : decide (s[k].toNat ≤ 122) = false := decide_eq_false g2
                  clear h1 h2
                  go_wp2_with fail
                  refine (rCapital_any s[k] _).mono ?_
                  rintro e w' ⟨rfl, rfl⟩
                  rw [H1.out]
                  go_wp2_with fail
                  refine (rDigit_any s[k] _).mono ?_
                  rintro e w' ⟨rfl, rfl⟩
                  rw [H2.out]
                  go_wp2
                  go_ret
                  exact ⟨ret_ii (HN.out HP.out).symm, rfl⟩
              · have S1 : I.small s[k] = false := decide_eq_false (by omega)
                by_cases n46 : s[k].toNat = 46
                · have HP := Lib.hid (HC.out true (by rw [HD.out, h1, h2, S1, decide_eq_true n46]; simp))
                  have b46 : ((s[k].toNat : Int) == 46) = true := by rw [beq_iff_eq]; omega
                  clear h1 h2 S1 n46
                  go_wp2_with fail
                  refine (rCapital_any s[k] _).mono ?_
                  rintro e w' ⟨rfl, rfl⟩
                  rw [H1.out]
                  go_wp2_with fail
                  refine (rDigit_any s[k] _).mono ?_
                  rintro e w' ⟨rfl, rfl⟩
                  rw [H2.out]
                  go_wp2
                  go_round
                  case rel => exact ⟨k + 1, by omega, by go_num, by rw [HP.out]; rfl⟩
                  case measure => simp [intOf]; omega
                · have b46 : ((s[k].toNat : Int) == 46) = false := by rw [beq_eq_false_iff_ne]; omega
                  by_cases n95 : s[k].toNat = 95
                  · have HP := Lib.hid (HC.out true (by rw [HD.out, h1, h2, S1, decide_eq_false n46, decide_eq_true n95]; simp))
                    have b95 : ((s[k].toNat : Int) == 95) = true := by rw [beq_iff_eq]; omega
                    clear h1 h2 S1 n46 n95
                    go_wp2_with fail
                    refine (rCapital_any s[k] _).mono ?_
                    rintro e w' ⟨rfl, rfl⟩
                    rw [H1.out]
                    go_wp2_with fail
                    refine (rDigit_any s[k] _).mono ?_
                    rintro e w' ⟨rfl, rfl⟩
                    rw [H2.out]
                    go_wp2
                    go_round
                    case rel => exact ⟨k + 1, by omega, by go_num, by rw [HP.out]; rfl⟩
                    case measure => simp [intOf]; omega
                  · have b95 : ((s[k].toNat : Int) == 95) = false := by rw [beq_eq_false_iff_ne]; omega
                    by_cases n45 : s[k].toNat = 45
                    · have HP := Lib.hid (HC.out true (by rw [HD.out, h1, h2, S1, decide_eq_false n46, decide_eq_false n95, decide_eq_true n45]; simp))
                      have b45 : ((s[k].toNat : Int) == 45) = true := by rw [beq_iff_eq]; omega
                      clear h1 h2 S1 n46 n95 n45
                      go_wp2_with fail
                      refine (rCapital_any s[k] _).mono ?_
                      rintro e w' ⟨rfl, rfl⟩
                      rw [H1.out]
                      go_wp2_with fail
                      refine (rDigit_any s[k] _).mono ?_
                      rintro e w' ⟨rfl, rfl⟩
                      rw [H2.out]
                      go_wp2
                      go_round
                      case rel => exact ⟨k + 1, by omega, by go_num, by rw [HP.out]; rfl⟩
                      case measure => simp [intOf]; omega
                    · have b45 : ((s[k].toNat : Int) == 45) = false := by rw [beq_eq_false_iff_ne]; omega
                      have HP := Lib.hid (HC.out false (by rw [HD.out, h1, h2, S1, decide_eq_false n46, decide_eq_false n95, decide_eq_false n45]; rfl))
                      have HP := Lib.hid (show F = false from HP.out.trans (Bool.false_and _))
                      clear h1 h2 S1 n46 n95 n45
                      go_wp2_with fail
                      refine (rCapital_any s[k] _).mono ?_
                      rintro e w' ⟨rfl, rfl⟩
                      rw [H1.out]
                      go_wp2_with fail
                      refine (rDigit_any s[k] _).mono ?_
                      rintro e w' ⟨rfl, rfl⟩
                      rw [H2.out]
                      go_wp2
                      go_ret
                      exact ⟨ret_ii (HN.out HP.out).symm, rfl⟩
        · obtain rfl : k = s.size := by omega
          have HP := Lib.hid (HY.out (HR.out.trans hov.out))
          clear hlt
          go_wp2
          go_ret
          exact ⟨ret_ii HP.out.symm, rfl⟩

/-! ### System -/
set_option maxHeartbeats 1600000 in
theorem refSystem_any (k : Int) (c : ByteArray) (w : World) (hc : c.size ≤ 1125899906842624) :
    Calls Tryd.prog 22 #[.int .i64 k, .string c] w fun e w' => e = .returned (.string (sysB k c.data.toList)) ∧ w = w' := by
  have H2 := Lib.hid (refCode_any c w hc)
  cases hd : codeB c.data.toList with
  | false =>
    have HE := Lib.hid (sysB_bad (k := k) hd)
    rw [hd] at H2
    clear hc hd
    go_enter Tryd.func22, Tryd.ntmps22
    go_wp2_with fail
    refine H2.out.mono ?_
    rintro e w' ⟨rfl, rfl⟩
    go_wp2
    go_ret
    exact ⟨ret_s HE.out.symm, rfl⟩
  | true =>
    have hsz := code_size hd
    rw [hd] at H2
    rcases I.sysHead_cases k with ⟨q, n2, n3, n4, n5⟩ | ⟨rfl, q⟩ | ⟨rfl, q⟩ | ⟨rfl, q⟩ | ⟨rfl, q⟩
    · have HE := Lib.hid (sysB_none (c := c.data.toList) q)
      have e2 := eqs_no n2
      have e3 := eqs_no n3
      have e4 := eqs_no n4
      have e5 := eqs_no n5
      clear q hc hd n2 n3 n4 n5
      go_enter Tryd.func22, Tryd.ntmps22
      go_wp2_with fail
      refine H2.out.mono ?_
      rintro e w' ⟨rfl, rfl⟩
      go_wp2
      go_ret
      exact ⟨ret_s HE.out.symm, rfl⟩
    all_goals
      have HE := Lib.hid (sysB_some q (by decide) hd)
      clear q hc hd
      go_enter Tryd.func22, Tryd.ntmps22
      go_wp2_with fail
      refine H2.out.mono ?_
      rintro e w' ⟨rfl, rfl⟩
      go_wp2
      go_ret
      exact ⟨ret_s HE.out.symm, rfl⟩
end Go.Proofs.YtalopcbjcgbdfaaDoor
