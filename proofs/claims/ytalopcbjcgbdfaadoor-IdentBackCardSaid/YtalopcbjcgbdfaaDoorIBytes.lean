/-
  The contracts of package ident's tests of bytes and of the reference's.
-/
import Derived.Test.YtalopcbjcgbdfaaDoorISpec
import Derived.Test.YtalopcbjcgbdfaaDoorCBase
import Derived.RegionTactic
import Derived.Lib.Strings
import Derived.ChangeAlike
namespace Go.Proofs.YtalopcbjcgbdfaaDoor
open Go.RowKit Go.WideShapes
set_option maxRecDepth 100000

/-- Is each byte of a text such a one? -/
def allS (p : UInt8 → Bool) (s : ByteArray) : Bool := s.data.toList.all p
def countryS (s : ByteArray) : Bool := I.country s.data.toList
def bodyS (s : ByteArray) : Bool := I.body s.data.toList
def formS (s : ByteArray) : Bool := I.form s.data.toList
def chkS (s : ByteArray) : Nat := I.chk s.data.toList
def idS (s : ByteArray) : Bool := I.idB s.data.toList
theorem ret_bo {a b : Bool} (h : a = b) : Ending.returned (.bool a) = .returned (.bool b) := by rw [h]
theorem ret_by {a b : Nat} (h : a = b) : Ending.returned (.int .u8 (a : Int)) = .returned (.int .u8 (b : Int)) := by rw [h]

theorem iDigit_any (c : UInt8) (w : World) : Calls Tryd.prog 50 #[.int .u8 c.toNat] w fun e w' => e = .returned (.bool (I.dig c)) ∧ w = w' := by
  have hE := Lib.hid (show I.dig c = decide (48 ≤ c.toNat ∧ c.toNat ≤ 57) from rfl)
  have hc := c.toNat_lt
  by_cases h1 : 48 ≤ c.toNat
  · by_cases h2 : c.toNat ≤ 57
    · go_enter Tryd.func50, Tryd.ntmps50
      go_wp2
      go_ret
      exact ⟨by rw [hE.out]; simp [h1, h2] <;> omega, rfl⟩
    · go_enter Tryd.func50, Tryd.ntmps50
      go_wp2
      go_ret
      exact ⟨by rw [hE.out]; simp [h2] <;> omega, rfl⟩
  · go_enter Tryd.func50, Tryd.ntmps50
    go_wp2
    go_ret
    exact ⟨by rw [hE.out]; simp [h1] <;> omega, rfl⟩

theorem iCapital_any (c : UInt8) (w : World) : Calls Tryd.prog 59 #[.int .u8 c.toNat] w fun e w' => e = .returned (.bool (I.cap c)) ∧ w = w' := by
  have hE := Lib.hid (show I.cap c = decide (65 ≤ c.toNat ∧ c.toNat ≤ 90) from rfl)
  have hc := c.toNat_lt
  by_cases h1 : 65 ≤ c.toNat
  · by_cases h2 : c.toNat ≤ 90
    · go_enter Tryd.func59, Tryd.ntmps59
      go_wp2
      go_ret
      exact ⟨by rw [hE.out]; simp [h1, h2] <;> omega, rfl⟩
    · go_enter Tryd.func59, Tryd.ntmps59
      go_wp2
      go_ret
      exact ⟨by rw [hE.out]; simp [h2] <;> omega, rfl⟩
  · go_enter Tryd.func59, Tryd.ntmps59
    go_wp2
    go_ret
    exact ⟨by rw [hE.out]; simp [h1] <;> omega, rfl⟩

theorem iSmall_any (c : UInt8) (w : World) : Calls Tryd.prog 49 #[.int .u8 c.toNat] w fun e w' => e = .returned (.bool (I.small c)) ∧ w = w' := by
  have hE := Lib.hid (show I.small c = decide (97 ≤ c.toNat ∧ c.toNat ≤ 122) from rfl)
  have hc := c.toNat_lt
  by_cases h1 : 97 ≤ c.toNat
  · by_cases h2 : c.toNat ≤ 122
    · go_enter Tryd.func49, Tryd.ntmps49
      go_wp2
      go_ret
      exact ⟨by rw [hE.out]; simp [h1, h2] <;> omega, rfl⟩
    · go_enter Tryd.func49, Tryd.ntmps49
      go_wp2
      go_ret
      exact ⟨by rw [hE.out]; simp [h2] <;> omega, rfl⟩
  · go_enter Tryd.func49, Tryd.ntmps49
    go_wp2
    go_ret
    exact ⟨by rw [hE.out]; simp [h1] <;> omega, rfl⟩

theorem rCapital_any (c : UInt8) (w : World) : Calls Tryd.prog 37 #[.int .u8 c.toNat] w fun e w' => e = .returned (.bool (I.cap c)) ∧ w = w' := by
  have hE := Lib.hid (show I.cap c = decide (65 ≤ c.toNat ∧ c.toNat ≤ 90) from rfl)
  have hc := c.toNat_lt
  by_cases h1 : 65 ≤ c.toNat
  · by_cases h2 : c.toNat ≤ 90
    · go_enter Tryd.func37, Tryd.ntmps37
      go_wp2
      go_ret
      exact ⟨by rw [hE.out]; simp [h1, h2] <;> omega, rfl⟩
    · go_enter Tryd.func37, Tryd.ntmps37
      go_wp2
      go_ret
      exact ⟨by rw [hE.out]; simp [h2] <;> omega, rfl⟩
  · go_enter Tryd.func37, Tryd.ntmps37
    go_wp2
    go_ret
    exact ⟨by rw [hE.out]; simp [h1] <;> omega, rfl⟩

theorem rDigit_any (c : UInt8) (w : World) : Calls Tryd.prog 38 #[.int .u8 c.toNat] w fun e w' => e = .returned (.bool (I.dig c)) ∧ w = w' := by
  have hE := Lib.hid (show I.dig c = decide (48 ≤ c.toNat ∧ c.toNat ≤ 57) from rfl)
  have hc := c.toNat_lt
  by_cases h1 : 48 ≤ c.toNat
  · by_cases h2 : c.toNat ≤ 57
    · go_enter Tryd.func38, Tryd.ntmps38
      go_wp2
      go_ret
      exact ⟨by rw [hE.out]; simp [h1, h2] <;> omega, rfl⟩
    · go_enter Tryd.func38, Tryd.ntmps38
      go_wp2
      go_ret
      exact ⟨by rw [hE.out]; simp [h2] <;> omega, rfl⟩
  · go_enter Tryd.func38, Tryd.ntmps38
    go_wp2
    go_ret
    exact ⟨by rw [hE.out]; simp [h1] <;> omega, rfl⟩

theorem iDl_any (c : UInt8) (w : World) : Calls Tryd.prog 58 #[.int .u8 c.toNat] w fun e w' => e = .returned (.bool (I.dl c)) ∧ w = w' := by
  have hE := Lib.hid (show I.dl c = (I.dig c || I.cap c) from rfl)
  cases h1 : I.dig c with
  | true =>
    have H1 := Lib.hid h1
    clear h1
    go_enter Tryd.func58, Tryd.ntmps58
    go_wp2_with fail
    refine (iDigit_any c _).mono ?_
    rintro e w' ⟨rfl, rfl⟩
    rw [H1.out]
    go_wp2
    go_ret
    exact ⟨ret_bo (by rw [hE.out, H1.out]; rfl), rfl⟩
  | false =>
    have H1 := Lib.hid h1
    clear h1
    go_enter Tryd.func58, Tryd.ntmps58
    go_wp2_with fail
    refine (iDigit_any c _).mono ?_
    rintro e w' ⟨rfl, rfl⟩
    rw [H1.out]
    go_wp2_with fail
    refine (iCapital_any c _).mono ?_
    rintro e w' ⟨rfl, rfl⟩
    go_wp2
    go_ret
    exact ⟨ret_bo (by rw [hE.out, H1.out]; rfl), rfl⟩

theorem iUp_any (c : UInt8) (w : World) : Calls Tryd.prog 28 #[.int .u8 c.toNat] w fun e w' => e = .returned (.int .u8 (I.up c).toNat) ∧ w = w' := by
  have hE := Lib.hid (I.up_toNat c)
  have hc := c.toNat_lt
  cases h1 : I.small c with
  | true =>
    have hb : 97 ≤ c.toNat ∧ c.toNat ≤ 122 := of_decide_eq_true h1
    have H1 := Lib.hid h1
    clear h1
    obtain ⟨hb1, hb2⟩ := hb
    go_enter Tryd.func28, Tryd.ntmps28
    go_wp2_with fail
    refine (iSmall_any c _).mono ?_
    rintro e w' ⟨rfl, rfl⟩
    rw [H1.out]
    go_wp2
    go_ret
    exact ⟨ret_i (by rw [hE.out, H1.out, if_pos rfl]; omega), rfl⟩
  | false =>
    have H1 := Lib.hid h1
    clear h1
    go_enter Tryd.func28, Tryd.ntmps28
    go_wp2_with fail
    refine (iSmall_any c _).mono ?_
    rintro e w' ⟨rfl, rfl⟩
    rw [H1.out]
    go_wp2
    go_ret
    exact ⟨ret_i (by rw [hE.out, H1.out, if_neg (by decide)]), rfl⟩

set_option maxHeartbeats 800000 in
theorem iId_any (c : UInt8) (w : World) : Calls Tryd.prog 36 #[.int .u8 c.toNat] w fun e w' => e = .returned (.bool (I.idc c)) ∧ w = w' := by
  have hE := Lib.hid (show I.idc c = (I.dl c || I.small c || decide (c.toNat = 46) || decide (c.toNat = 95) || decide (c.toNat = 45)) from rfl)
  have hc := c.toNat_lt
  cases h1 : I.dl c with
  | true =>
    have H1 := Lib.hid h1
    clear h1
    go_enter Tryd.func36, Tryd.ntmps36
    go_wp2_with fail
    refine (iDl_any c _).mono ?_
    rintro e w' ⟨rfl, rfl⟩
    rw [H1.out]
    go_wp2
    go_ret
    exact ⟨ret_bo (by rw [hE.out, H1.out]; rfl), rfl⟩
  | false =>
    have H1 := Lib.hid h1
    clear h1
    cases h2 : I.small c with
    | true =>
      have H2 := Lib.hid h2
      clear h2
      go_enter Tryd.func36, Tryd.ntmps36
      go_wp2_with fail
      refine (iDl_any c _).mono ?_
      rintro e w' ⟨rfl, rfl⟩
      rw [H1.out]
      go_wp2_with fail
      refine (iSmall_any c _).mono ?_
      rintro e w' ⟨rfl, rfl⟩
      rw [H2.out]
      go_wp2
      go_ret
      exact ⟨ret_bo (by rw [hE.out, H1.out, H2.out]; rfl), rfl⟩
    | false =>
      have H2 := Lib.hid h2
      clear h2
      by_cases h46 : c.toNat = 46
      · have E1 := Lib.hid (decide_eq_true h46)
        have hh : (c.toNat : Int) = 46 := by omega
        clear h46
        have A1 := iDl_any c
        have A2 := iSmall_any c
        try simp only [hh] at A1 A2
        replace A1 := Lib.hid A1
        replace A2 := Lib.hid A2
        go_enter Tryd.func36, Tryd.ntmps36
        go_wp2_with fail
        refine (A1.out _).mono ?_
        rintro e w' ⟨rfl, rfl⟩
        rw [H1.out]
        go_wp2_with fail
        refine (A2.out _).mono ?_
        rintro e w' ⟨rfl, rfl⟩
        rw [H2.out]
        go_wp2
        go_ret
        exact ⟨ret_bo (by rw [hE.out, H1.out, H2.out, E1.out]; rfl), rfl⟩
      · have E1 := Lib.hid (decide_eq_false h46)
        have b46 : ((c.toNat : Int) == 46) = false := by rw [beq_eq_false_iff_ne]; omega
        clear h46
        by_cases h95 : c.toNat = 95
        · have E2 := Lib.hid (decide_eq_true h95)
          have hh : (c.toNat : Int) = 95 := by omega
          clear h95 b46
          have A1 := iDl_any c
          have A2 := iSmall_any c
          try simp only [hh] at A1 A2
          replace A1 := Lib.hid A1
          replace A2 := Lib.hid A2
          go_enter Tryd.func36, Tryd.ntmps36
          go_wp2_with fail
          refine (A1.out _).mono ?_
          rintro e w' ⟨rfl, rfl⟩
          rw [H1.out]
          go_wp2_with fail
          refine (A2.out _).mono ?_
          rintro e w' ⟨rfl, rfl⟩
          rw [H2.out]
          go_wp2
          go_ret
          exact ⟨ret_bo (by rw [hE.out, H1.out, H2.out, E1.out, E2.out]; rfl), rfl⟩
        · have E2 := Lib.hid (decide_eq_false h95)
          have b95 : ((c.toNat : Int) == 95) = false := by rw [beq_eq_false_iff_ne]; omega
          clear h95
          by_cases h45 : c.toNat = 45
          · have E3 := Lib.hid (decide_eq_true h45)
            have hh : (c.toNat : Int) = 45 := by omega
            clear h45 b46 b95
            have A1 := iDl_any c
            have A2 := iSmall_any c
            try simp only [hh] at A1 A2
            replace A1 := Lib.hid A1
            replace A2 := Lib.hid A2
            go_enter Tryd.func36, Tryd.ntmps36
            go_wp2_with fail
            refine (A1.out _).mono ?_
            rintro e w' ⟨rfl, rfl⟩
            rw [H1.out]
            go_wp2_with fail
            refine (A2.out _).mono ?_
            rintro e w' ⟨rfl, rfl⟩
            rw [H2.out]
            go_wp2
            go_ret
            exact ⟨ret_bo (by rw [hE.out, H1.out, H2.out, E1.out, E2.out, E3.out]; rfl), rfl⟩
          · have E3 := Lib.hid (decide_eq_false h45)
            have b45 : ((c.toNat : Int) == 45) = false := by rw [beq_eq_false_iff_ne]; omega
            clear h45
            have A1 := iDl_any c
            have A2 := iSmall_any c
            try simp only [hh] at A1 A2
            replace A1 := Lib.hid A1
            replace A2 := Lib.hid A2
            go_enter Tryd.func36, Tryd.ntmps36
            go_wp2_with fail
            refine (A1.out _).mono ?_
            rintro e w' ⟨rfl, rfl⟩
            rw [H1.out]
            go_wp2_with fail
            refine (A2.out _).mono ?_
            rintro e w' ⟨rfl, rfl⟩
            rw [H2.out]
            go_wp2
            go_ret
            exact ⟨ret_bo (by rw [hE.out, H1.out, H2.out, E1.out, E2.out, E3.out]; rfl), rfl⟩

/-! ### Each byte -/
theorem all_step (p : UInt8 → Bool) (s : ByteArray) (k : Nat) (h : k < s.size) : (s.data.toList.drop k).all p = (p s[k] && (s.data.toList.drop (k + 1)).all p) := by
  rw [List.drop_eq_getElem_cons (by simpa using h), List.all_cons]; rfl
theorem all_over (p : UInt8 → Bool) (s : ByteArray) : (s.data.toList.drop s.size).all p = true := by
  rw [List.drop_eq_nil_of_le (by simp)]; rfl
theorem all_yes {p : UInt8 → Bool} {s : ByteArray} {k : Nat} {h : k < s.size} (hp : p s[k] = true) : (s.data.toList.drop k).all p = (s.data.toList.drop (k + 1)).all p := by
  rw [all_step p s k h, hp, Bool.true_and]
theorem all_no {p : UInt8 → Bool} {s : ByteArray} {k : Nat} {h : k < s.size} (hp : p s[k] = false) : (s.data.toList.drop k).all p = false := by
  rw [all_step p s k h, hp, Bool.false_and]

set_option maxHeartbeats 800000 in
theorem consistsCap_any (s : ByteArray) (w : World) (hs : s.size ≤ maxLen) :
    Calls Tryd.prog 35 #[.string s, .func (.func 59) #[] #[]] w fun e w' => e = .returned (.bool (allS I.cap s)) ∧ w = w' := by
  unfold maxLen at hs
  have HS := Lib.hid (show allS I.cap s = (s.data.toList.drop 0).all I.cap from rfl)
  have hov := Lib.hid (all_over I.cap s)
  generalize allS I.cap s = F at *
  go_enter Tryd.func35, Tryd.ntmps35
  go_wp2
  go_loop [8] (fun i => ∃ k : Nat, k ≤ s.size ∧ i = .int .i64 k ∧ F = (s.data.toList.drop k).all I.cap) (fun i => s.size - (intOf i).toNat)
  case atStart => exact ⟨0, Nat.zero_le _, rfl, HS.out⟩
  case round =>
    obtain ⟨k, hk, rfl, hr⟩ := hrel
    have HR := Lib.hid hr
    clear hr
    by_cases hlt : k < s.size
    · have hc := s[k].toNat_lt
      cases hd : I.cap s[k] with
      | true =>
        have HV := Lib.hid (HR.out.trans (all_yes (h := hlt) hd))
        have H1 := Lib.hid hd
        clear hd
        go_wp2_with fail
        refine (iCapital_any s[k] _).mono ?_
        rintro e w' ⟨rfl, rfl⟩
        rw [H1.out]
        go_wp2
        go_round
        case rel => exact ⟨k + 1, by omega, by go_num, HV.out⟩
        case measure => simp [intOf]; omega
      | false =>
        have HV := Lib.hid (HR.out.trans (all_no (h := hlt) hd))
        have H1 := Lib.hid hd
        clear hd
        go_wp2_with fail
        refine (iCapital_any s[k] _).mono ?_
        rintro e w' ⟨rfl, rfl⟩
        rw [H1.out]
        go_wp2
        go_ret
        exact ⟨ret_bo HV.out.symm, rfl⟩
    · obtain rfl : k = s.size := by omega
      have HV := Lib.hid (HR.out.trans hov.out)
      clear hlt
      go_wp2
      go_ret
      exact ⟨ret_bo HV.out.symm, rfl⟩

set_option maxHeartbeats 800000 in
theorem consistsDig_any (s : ByteArray) (w : World) (hs : s.size ≤ maxLen) :
    Calls Tryd.prog 35 #[.string s, .func (.func 50) #[] #[]] w fun e w' => e = .returned (.bool (allS I.dig s)) ∧ w = w' := by
  unfold maxLen at hs
  have HS := Lib.hid (show allS I.dig s = (s.data.toList.drop 0).all I.dig from rfl)
  have hov := Lib.hid (all_over I.dig s)
  generalize allS I.dig s = F at *
  go_enter Tryd.func35, Tryd.ntmps35
  go_wp2
  go_loop [8] (fun i => ∃ k : Nat, k ≤ s.size ∧ i = .int .i64 k ∧ F = (s.data.toList.drop k).all I.dig) (fun i => s.size - (intOf i).toNat)
  case atStart => exact ⟨0, Nat.zero_le _, rfl, HS.out⟩
  case round =>
    obtain ⟨k, hk, rfl, hr⟩ := hrel
    have HR := Lib.hid hr
    clear hr
    by_cases hlt : k < s.size
    · have hc := s[k].toNat_lt
      cases hd : I.dig s[k] with
      | true =>
        have HV := Lib.hid (HR.out.trans (all_yes (h := hlt) hd))
        have H1 := Lib.hid hd
        clear hd
        go_wp2_with fail
        refine (iDigit_any s[k] _).mono ?_
        rintro e w' ⟨rfl, rfl⟩
        rw [H1.out]
        go_wp2
        go_round
        case rel => exact ⟨k + 1, by omega, by go_num, HV.out⟩
        case measure => simp [intOf]; omega
      | false =>
        have HV := Lib.hid (HR.out.trans (all_no (h := hlt) hd))
        have H1 := Lib.hid hd
        clear hd
        go_wp2_with fail
        refine (iDigit_any s[k] _).mono ?_
        rintro e w' ⟨rfl, rfl⟩
        rw [H1.out]
        go_wp2
        go_ret
        exact ⟨ret_bo HV.out.symm, rfl⟩
    · obtain rfl : k = s.size := by omega
      have HV := Lib.hid (HR.out.trans hov.out)
      clear hlt
      go_wp2
      go_ret
      exact ⟨ret_bo HV.out.symm, rfl⟩

set_option maxHeartbeats 800000 in
theorem consistsDl_any (s : ByteArray) (w : World) (hs : s.size ≤ maxLen) :
    Calls Tryd.prog 35 #[.string s, .func (.func 58) #[] #[]] w fun e w' => e = .returned (.bool (allS I.dl s)) ∧ w = w' := by
  unfold maxLen at hs
  have HS := Lib.hid (show allS I.dl s = (s.data.toList.drop 0).all I.dl from rfl)
  have hov := Lib.hid (all_over I.dl s)
  generalize allS I.dl s = F at *
  go_enter Tryd.func35, Tryd.ntmps35
  go_wp2
  go_loop [8] (fun i => ∃ k : Nat, k ≤ s.size ∧ i = .int .i64 k ∧ F = (s.data.toList.drop k).all I.dl) (fun i => s.size - (intOf i).toNat)
  case atStart => exact ⟨0, Nat.zero_le _, rfl, HS.out⟩
  case round =>
    obtain ⟨k, hk, rfl, hr⟩ := hrel
    have HR := Lib.hid hr
    clear hr
    by_cases hlt : k < s.size
    · have hc := s[k].toNat_lt
      cases hd : I.dl s[k] with
      | true =>
        have HV := Lib.hid (HR.out.trans (all_yes (h := hlt) hd))
        have H1 := Lib.hid hd
        clear hd
        go_wp2_with fail
        refine (iDl_any s[k] _).mono ?_
        rintro e w' ⟨rfl, rfl⟩
        rw [H1.out]
        go_wp2
        go_round
        case rel => exact ⟨k + 1, by omega, by go_num, HV.out⟩
        case measure => simp [intOf]; omega
      | false =>
        have HV := Lib.hid (HR.out.trans (all_no (h := hlt) hd))
        have H1 := Lib.hid hd
        clear hd
        go_wp2_with fail
        refine (iDl_any s[k] _).mono ?_
        rintro e w' ⟨rfl, rfl⟩
        rw [H1.out]
        go_wp2
        go_ret
        exact ⟨ret_bo HV.out.symm, rfl⟩
    · obtain rfl : k = s.size := by omega
      have HV := Lib.hid (HR.out.trans hov.out)
      clear hlt
      go_wp2
      go_ret
      exact ⟨ret_bo HV.out.symm, rfl⟩

set_option maxHeartbeats 800000 in
theorem consistsId_any (s : ByteArray) (w : World) (hs : s.size ≤ maxLen) :
    Calls Tryd.prog 35 #[.string s, .func (.func 36) #[] #[]] w fun e w' => e = .returned (.bool (allS I.idc s)) ∧ w = w' := by
  unfold maxLen at hs
  have HS := Lib.hid (show allS I.idc s = (s.data.toList.drop 0).all I.idc from rfl)
  have hov := Lib.hid (all_over I.idc s)
  generalize allS I.idc s = F at *
  go_enter Tryd.func35, Tryd.ntmps35
  go_wp2
  go_loop [8] (fun i => ∃ k : Nat, k ≤ s.size ∧ i = .int .i64 k ∧ F = (s.data.toList.drop k).all I.idc) (fun i => s.size - (intOf i).toNat)
  case atStart => exact ⟨0, Nat.zero_le _, rfl, HS.out⟩
  case round =>
    obtain ⟨k, hk, rfl, hr⟩ := hrel
    have HR := Lib.hid hr
    clear hr
    by_cases hlt : k < s.size
    · have hc := s[k].toNat_lt
      cases hd : I.idc s[k] with
      | true =>
        have HV := Lib.hid (HR.out.trans (all_yes (h := hlt) hd))
        have H1 := Lib.hid hd
        clear hd
        go_wp2_with fail
        refine (iId_any s[k] _).mono ?_
        rintro e w' ⟨rfl, rfl⟩
        rw [H1.out]
        go_wp2
        go_round
        case rel => exact ⟨k + 1, by omega, by go_num, HV.out⟩
        case measure => simp [intOf]; omega
      | false =>
        have HV := Lib.hid (HR.out.trans (all_no (h := hlt) hd))
        have H1 := Lib.hid hd
        clear hd
        go_wp2_with fail
        refine (iId_any s[k] _).mono ?_
        rintro e w' ⟨rfl, rfl⟩
        rw [H1.out]
        go_wp2
        go_ret
        exact ⟨ret_bo HV.out.symm, rfl⟩
    · obtain rfl : k = s.size := by omega
      have HV := Lib.hid (HR.out.trans hov.out)
      clear hlt
      go_wp2
      go_ret
      exact ⟨ret_bo HV.out.symm, rfl⟩

/-! ### The reference's -/
def allR (l d : Bool) (c : UInt8) : Bool := l && I.cap c || d && I.dig c
set_option maxHeartbeats 1600000 in
theorem refAll_any (s : ByteArray) (l d : Bool) (w : World) (hs : s.size ≤ maxLen) :
    Calls Tryd.prog 32 #[.string s, .bool l, .bool d] w fun e w' => e = .returned (.bool (allS (allR l d) s)) ∧ w = w' := by
  unfold maxLen at hs
  have HS := Lib.hid (show allS (allR l d) s = (s.data.toList.drop 0).all (allR l d) from rfl)
  have hov := Lib.hid (all_over (allR l d) s)
  have hst := Lib.hid (fun k h => all_step (allR l d) s k h)
  have hdf := Lib.hid (show ∀ c, allR l d c = (l && I.cap c || d && I.dig c) from fun _ => rfl)
  generalize allS (allR l d) s = F at *
  generalize allR l d = p at *
  go_enter Tryd.func32, Tryd.ntmps32
  go_wp2
  go_loop [7] (fun i => ∃ k : Nat, k ≤ s.size ∧ i = .int .i64 k ∧ F = (s.data.toList.drop k).all p) (fun i => s.size - (intOf i).toNat)
  case atStart => exact ⟨0, Nat.zero_le _, rfl, HS.out⟩
  case round =>
    obtain ⟨k, hk, rfl, hr⟩ := hrel
    have HR := Lib.hid hr
    clear hr
    by_cases hlt : k < s.size
    · have hc := s[k].toNat_lt
      have HC : ∀ v, p s[k] = v → F = (v && (s.data.toList.drop (k + 1)).all p) := fun v hv => by rw [HR.out, hst.out k hlt, hv]
      have HD := Lib.hid (hdf.out s[k])
      have HC := Lib.hid HC
      cases l <;> cases d <;> cases h1 : I.cap s[k] <;> cases h2 : I.dig s[k]
      all_goals
        have HP := Lib.hid (HC.out _ (by rw [HD.out, h1, h2]))
        have H1 := Lib.hid h1
        have H2 := Lib.hid h2
        clear h1 h2
        go_wp2_with (first | (go_at_call 37; refine (rCapital_any s[k] _).mono ?_; rintro e w' ⟨rfl, rfl⟩; rw [H1.out]) | (go_at_call 38; refine (rDigit_any s[k] _).mono ?_; rintro e w' ⟨rfl, rfl⟩; rw [H2.out]))
        first
          | (go_round
             case rel => exact ⟨k + 1, by omega, by go_num, by rw [HP.out]; rfl⟩
             case measure => simp [intOf]; omega)
          | (go_ret
             exact ⟨ret_bo (by first | (rw [HP.out]; rfl) | (rw [HD.out, H1.out, H2.out]; rfl)), rfl⟩)
    · obtain rfl : k = s.size := by omega
      have HV := Lib.hid (HR.out.trans hov.out)
      clear hlt
      go_wp2
      go_ret
      exact ⟨ret_bo HV.out.symm, rfl⟩
theorem allR_cap : allR true false = I.cap := by funext c; unfold allR; simp
theorem allR_dig : allR false true = I.dig := by funext c; unfold allR; simp
theorem allR_dl : allR true true = I.dl := by funext c; unfold allR I.dl; simp [Bool.or_comm]
end Go.Proofs.YtalopcbjcgbdfaaDoor
