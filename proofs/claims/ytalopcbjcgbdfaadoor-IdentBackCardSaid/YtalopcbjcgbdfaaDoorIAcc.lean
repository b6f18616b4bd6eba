/-
  The contracts of package ident's isCountry, isBody, isAccount.
-/
import Derived.Test.YtalopcbjcgbdfaaDoorIBytes
import Derived.Test.YtalopcbjcgbdfaaDoorCFits
import Derived.Deep.RegionHeld
namespace Go.Proofs.YtalopcbjcgbdfaaDoor
open Go.RowKit Go.WideShapes
set_option maxRecDepth 100000

def DigAt (ed : Addr) (w : World) : Prop := w.cell? ⟨3, 0, none⟩ = some (.iface 107 (.pointer (some ed)))
theorem DigAt.qt {ed : Addr} {w w' : World} (h : DigAt ed w) (k : Qt w w') : DigAt ed w' := k.cellv h
abbrev digE (ed : Addr) : Value := .iface 107 (.pointer (some ed))

theorem dlen (s : ByteArray) : s.data.toList.length = s.size := rfl
theorem dslice (s : ByteArray) (a b : Nat) : (s.extract a b).data.toList = (s.data.toList.drop a).take (b - a) := Lib.extract_data s a b
theorem dhead (s : ByteArray) (b : Nat) : (s.extract 0 b).data.toList = s.data.toList.take b := by rw [dslice, List.drop_zero, Nat.sub_zero]
theorem dtail (s : ByteArray) (a : Nat) : (s.extract a s.size).data.toList = s.data.toList.drop a := by
  rw [dslice, List.take_of_length_le (by rw [List.length_drop, dlen]; omega)]

theorem country_yes {s : ByteArray} (h : s.size = 2) : countryS s = allS I.cap s := by
  unfold countryS I.country allS; rw [dlen, decide_eq_true h, Bool.true_and]
theorem country_no {s : ByteArray} (h : ¬ s.size = 2) : countryS s = false := by
  unfold countryS I.country; rw [dlen, decide_eq_false h, Bool.false_and]
set_option maxHeartbeats 800000 in
theorem isCountry_any (s : ByteArray) (w : World) (hs : s.size ≤ maxLen) :
    Calls Tryd.prog 39 #[.string s] w fun e w' => e = .returned (.bool (countryS s)) ∧ w = w' := by
  by_cases h2 : s.size = 2
  · have HE := Lib.hid (country_yes h2)
    have HC := Lib.hid (consistsCap_any s w hs)
    have hb : ((s.size : Int) == 2) = true := by rw [beq_iff_eq]; omega
    clear h2 hs
    go_enter Tryd.func39, Tryd.ntmps39
    go_wp2_with fail
    refine HC.out.mono ?_
    rintro e w' ⟨rfl, rfl⟩
    go_wp2
    go_ret
    exact ⟨ret_bo HE.out.symm, rfl⟩
  · have HE := Lib.hid (country_no h2)
    have hb : ((s.size : Int) == 2) = false := by rw [beq_eq_false_iff_ne]; omega
    clear h2 hs
    go_enter Tryd.func39, Tryd.ntmps39
    go_wp2
    go_ret
    exact ⟨ret_bo HE.out.symm, rfl⟩

theorem body_yes {s : ByteArray} (h : ¬ s.size = 0) (h2 : s.size ≤ 30) : bodyS s = allS I.dl s := by
  unfold bodyS I.body allS; rw [dlen, decide_eq_true h, decide_eq_true h2, Bool.true_and, Bool.true_and]
theorem body_empty {s : ByteArray} (h : s.size = 0) : bodyS s = false := by
  unfold bodyS I.body; rw [dlen, decide_eq_false (fun e => e h), Bool.false_and]
theorem body_long {s : ByteArray} (h2 : ¬ s.size ≤ 30) : bodyS s = false := by
  unfold bodyS I.body; rw [dlen, decide_eq_false h2, Bool.false_and, Bool.and_false]
theorem empty_of {s : ByteArray} (h : s.size = 0) : s.toList.isEmpty = true := by
  rw [Lib.toList_data, List.eq_nil_of_length_eq_zero (show s.data.toList.length = 0 from h)]; rfl
theorem full_of {s : ByteArray} (h : ¬ s.size = 0) : s.toList.isEmpty = false := by
  rw [Lib.toList_data]
  cases hl : s.data.toList with
  | nil => exact absurd (by have := congrArg List.length hl; simpa using this) h
  | cons _ _ => rfl
set_option maxHeartbeats 800000 in
theorem isBody_any (s : ByteArray) (w : World) (hs : s.size ≤ maxLen) :
    Calls Tryd.prog 40 #[.string s] w fun e w' => e = .returned (.bool (bodyS s)) ∧ w = w' := by
  by_cases h0 : s.size = 0
  · have HE := Lib.hid (body_empty h0)
    have hb := empty_of h0
    have hb2 : (!s.toList.isEmpty) = false := by rw [hb]; rfl
    clear h0 hs
    go_enter Tryd.func40, Tryd.ntmps40
    go_wp2
    go_ret
    exact ⟨ret_bo HE.out.symm, rfl⟩
  · have hb := full_of h0
    have hb2 : (!s.toList.isEmpty) = true := by rw [hb]; rfl
    by_cases h30 : s.size ≤ 30
    · have HE := Lib.hid (body_yes h0 h30)
      have HC := Lib.hid (consistsDl_any s w hs)
      clear h0 hs
      go_enter Tryd.func40, Tryd.ntmps40
      go_wp2_with fail
      refine HC.out.mono ?_
      rintro e w' ⟨rfl, rfl⟩
      go_wp2
      go_ret
      exact ⟨ret_bo HE.out.symm, rfl⟩
    · have HE := Lib.hid (body_long h30)
      have hf : decide ((s.size : Int) ≤ 30) = false := by simp; omega
      clear h0 hs
      go_enter Tryd.func40, Tryd.ntmps40
      go_wp2
      go_ret
      exact ⟨ret_bo HE.out.symm, rfl⟩

theorem form_short {s : ByteArray} (h : s.size ≤ 4) : formS s = false := by
  unfold formS I.form; rw [dlen, decide_eq_false (by omega), Bool.false_and]
theorem form_long {s : ByteArray} (h : ¬ s.size ≤ 4) : formS s = (countryS (s.extract 0 2) && (allS I.dig (s.extract 2 4) && bodyS (s.extract 4 s.size))) := by
  unfold formS countryS allS bodyS I.form; rw [dlen, decide_eq_true (by omega), Bool.true_and, dhead, dtail, dslice]
set_option maxHeartbeats 1600000 in
theorem isAccount_any (s : ByteArray) (w : World) (hs : s.size ≤ maxLen) :
    Calls Tryd.prog 30 #[.string s] w fun e w' => e = .returned (.bool (formS s)) ∧ w = w' := by
  by_cases h4 : s.size ≤ 4
  · have HE := Lib.hid (form_short h4)
    have hf : decide ((s.size : Int) ≤ 4) = true := by simp; omega
    clear hs
    go_enter Tryd.func30, Tryd.ntmps30
    go_wp2
    go_ret
    exact ⟨ret_bo HE.out.symm, rfl⟩
  · have HE := Lib.hid (form_long h4)
    have hz : ∀ a b, (s.extract a b).size ≤ maxLen := fun a b => by rw [ByteArray.size_extract]; omega
    have H1 := Lib.hid (isCountry_any (s.extract 0 2) w (hz _ _))
    have H2 := Lib.hid (consistsDig_any (s.extract 2 4) w (hz _ _))
    have H3 := Lib.hid (isBody_any (s.extract 4 s.size) w (hz _ _))
    have hf : decide ((s.size : Int) ≤ 4) = false := by simp; omega
    have h2 : 2 ≤ s.size := by omega
    have h5 : 4 ≤ s.size := by omega
    unfold maxLen at hs
    clear hz h4
    cases hc : countryS (s.extract 0 2) with
    | false =>
      have HF := Lib.hid (HE.out.trans (by rw [hc, Bool.false_and]))
      rw [hc] at H1
      clear hc HE
      go_enter Tryd.func30, Tryd.ntmps30
      go_wp2_with fail
      refine H1.out.mono ?_
      rintro e w' ⟨rfl, rfl⟩
      go_wp2
      go_ret
      exact ⟨ret_bo HF.out.symm, rfl⟩
    | true =>
      rw [hc] at H1
      cases hd : allS I.dig (s.extract 2 4) with
      | false =>
        have HF := Lib.hid (HE.out.trans (by rw [hc, hd, Bool.false_and, Bool.and_false]))
        rw [hd] at H2
        clear hc HE hd
        go_enter Tryd.func30, Tryd.ntmps30
        go_wp2_with fail
        refine H1.out.mono ?_
        rintro e w' ⟨rfl, rfl⟩
        go_wp2_with fail
        refine H2.out.mono ?_
        rintro e w' ⟨rfl, rfl⟩
        go_wp2
        go_ret
        exact ⟨ret_bo HF.out.symm, rfl⟩
      | true =>
        have HF := Lib.hid (HE.out.trans (by rw [hc, hd, Bool.true_and, Bool.true_and]))
        rw [hd] at H2
        clear hc HE hd
        go_enter Tryd.func30, Tryd.ntmps30
        go_wp2_with fail
        refine H1.out.mono ?_
        rintro e w' ⟨rfl, rfl⟩
        go_wp2_with fail
        refine H2.out.mono ?_
        rintro e w' ⟨rfl, rfl⟩
        go_wp2_with fail
        refine H3.out.mono ?_
        rintro e w' ⟨rfl, rfl⟩
        go_wp2
        go_ret
        exact ⟨ret_bo HF.out.symm, rfl⟩
end Go.Proofs.YtalopcbjcgbdfaaDoor
