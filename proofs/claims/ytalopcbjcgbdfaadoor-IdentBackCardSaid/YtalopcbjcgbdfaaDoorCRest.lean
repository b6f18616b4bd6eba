/-
  The contracts of checks.isDigit, isLetter, Rest, and of the reference's value, Rest.
-/
import Derived.Test.YtalopcbjcgbdfaaDoorCBase
import Derived.RegionTactic
import Derived.Lib.Strings
import Derived.ChangeAlike
namespace Go.Proofs.YtalopcbjcgbdfaaDoor
open Go.RowKit Go.WideShapes
set_option maxRecDepth 100000

/-- ErrForm's variable. -/
def FormAt (ef : Addr) (w : World) : Prop := w.cell? ⟨1, 0, none⟩ = some (.iface 107 (.pointer (some ef)))
theorem FormAt.qt {ef : Addr} {w w' : World} (h : FormAt ef w) (k : Qt w w') : FormAt ef w' := k.cellv h
abbrev formV (ef : Addr) : Value := .iface 107 (.pointer (some ef))

def digB (c : UInt8) : Bool := decide (48 ≤ c.toNat ∧ c.toNat ≤ 57)
def letB (c : UInt8) : Bool := decide (65 ≤ c.toNat ∧ c.toNat ≤ 90)

theorem isDigit_any (c : UInt8) (w : World) : Calls Tryd.prog 71 #[.int .u8 c.toNat] w fun e w' => e = .returned (.bool (digB c)) ∧ w = w' := by
  have hE := Lib.hid (show digB c = decide (48 ≤ c.toNat ∧ c.toNat ≤ 57) from rfl)
  have hc := c.toNat_lt
  by_cases h1 : 48 ≤ c.toNat
  · by_cases h2 : c.toNat ≤ 57
    · go_enter Tryd.func71, Tryd.ntmps71
      go_wp2
      go_ret
      exact ⟨by rw [hE.out]; simp [h1, h2] <;> omega, rfl⟩
    · go_enter Tryd.func71, Tryd.ntmps71
      go_wp2
      go_ret
      exact ⟨by rw [hE.out]; simp [h2] <;> omega, rfl⟩
  · go_enter Tryd.func71, Tryd.ntmps71
    go_wp2
    go_ret
    exact ⟨by rw [hE.out]; simp [h1] <;> omega, rfl⟩

theorem isLetter_any (c : UInt8) (w : World) : Calls Tryd.prog 72 #[.int .u8 c.toNat] w fun e w' => e = .returned (.bool (letB c)) ∧ w = w' := by
  have hE := Lib.hid (show letB c = decide (65 ≤ c.toNat ∧ c.toNat ≤ 90) from rfl)
  have hc := c.toNat_lt
  by_cases h1 : 65 ≤ c.toNat
  · by_cases h2 : c.toNat ≤ 90
    · go_enter Tryd.func72, Tryd.ntmps72
      go_wp2
      go_ret
      exact ⟨by rw [hE.out]; simp [h1, h2] <;> omega, rfl⟩
    · go_enter Tryd.func72, Tryd.ntmps72
      go_wp2
      go_ret
      exact ⟨by rw [hE.out]; simp [h2] <;> omega, rfl⟩
  · go_enter Tryd.func72, Tryd.ntmps72
    go_wp2
    go_ret
    exact ⟨by rw [hE.out]; simp [h1] <;> omega, rfl⟩

/-- What a text of digits and letters leaves, or the error. -/
def restV (ef : Addr) (s : List UInt8) : Value :=
  match C.rest s with
  | none => .tuple #[.int .i64 0, formV ef]
  | some r => .tuple #[.int .i64 r, .nilIface]
theorem restV_none {ef : Addr} {s : List UInt8} (h : C.rest s = none) : restV ef s = .tuple #[.int .i64 0, formV ef] := by unfold restV; rw [h]
theorem restV_some {ef : Addr} {s : List UInt8} {r : Nat} (h : C.rest s = some r) : restV ef s = .tuple #[.int .i64 r, .nilIface] := by unfold restV; rw [h]

theorem val_dig {c : UInt8} (h : digB c = true) : C.val c = some (c.toNat - 48) := by
  unfold digB at h; unfold C.val; rw [if_pos (of_decide_eq_true h)]
theorem val_let {c : UInt8} (hd : digB c = false) (h : letB c = true) : C.val c = some (c.toNat - 55) := by
  unfold digB at hd; unfold letB at h; unfold C.val; rw [if_neg (of_decide_eq_false hd), if_pos (of_decide_eq_true h)]
theorem val_bad {c : UInt8} (hd : digB c = false) (h : letB c = false) : C.val c = none := by
  unfold digB at hd; unfold letB at h; unfold C.val; rw [if_neg (of_decide_eq_false hd), if_neg (of_decide_eq_false h)]
theorem restG_step (r : Nat) (s : ByteArray) (k : Nat) (h : k < s.size) : C.restG r (s.data.toList.drop k) = match C.val s[k] with | none => none | some v => C.restG (C.put r v) (s.data.toList.drop (k + 1)) := by
  rw [List.drop_eq_getElem_cons (by simpa using h), C.restG]; rfl
theorem restG_yes {r : Nat} {s : ByteArray} {k v : Nat} {h : k < s.size} (e : C.restG r (s.data.toList.drop k) = match C.val s[k] with | none => none | some v => C.restG (C.put r v) (s.data.toList.drop (k + 1))) (hv : C.val s[k] = some v) : C.restG r (s.data.toList.drop k) = C.restG (C.put r v) (s.data.toList.drop (k + 1)) := by rw [e, hv]
theorem restG_no {r : Nat} {s : ByteArray} {k : Nat} {h : k < s.size} (e : C.restG r (s.data.toList.drop k) = match C.val s[k] with | none => none | some v => C.restG (C.put r v) (s.data.toList.drop (k + 1))) (hv : C.val s[k] = none) : C.restG r (s.data.toList.drop k) = none := by rw [e, hv]
theorem restG_over (r : Nat) (s : ByteArray) : C.restG r (s.data.toList.drop s.size) = some r := by
  rw [List.drop_eq_nil_of_le (by simp)]; rfl
theorem rest_start {s : ByteArray} (h : s.data.toList ≠ []) : C.rest s.data.toList = C.restG 0 (s.data.toList.drop 0) := by rw [C.rest_ne h]; rfl

set_option maxHeartbeats 1600000 in
theorem rest_any (ef : Addr) (s : ByteArray) (w : World) (hs : s.size ≤ maxLen) (hf : FormAt ef w) :
    Calls Tryd.prog 60 #[.string s] w fun e w' => e = .returned (restV ef s.data.toList) ∧ Qt w w' := by
  unfold maxLen at hs
  by_cases hz : s.data.toList = []
  · have h1 : s.toList = [] := by rw [Lib.toList_data]; exact hz
    have h2 : (!s.toList.isEmpty) = false := by rw [h1]; rfl
    have h3 : s.toList.isEmpty = true := by rw [h1]; rfl
    have HN := Lib.hid (restV_none (ef := ef) (show C.rest s.data.toList = none by rw [hz]; rfl))
    have hf' : w.cell? ⟨1, 0, none⟩ = some (formV ef) := hf
    clear hz h1
    go_enter Tryd.func60, Tryd.ntmps60
    go_wp2
    go_quiet (fail)
    go_wp2
    go_ret2
    exact ⟨by rw [HN.out]; rfl, (Qt.refl w).drewN _⟩
  · have h1 : s.toList ≠ [] := by rw [Lib.toList_data]; exact hz
    have h2 : s.toList.isEmpty = false := by simpa using h1
    have HS := Lib.hid (rest_start hz)
    have hf' : w.cell? ⟨1, 0, none⟩ = some (formV ef) := hf
    clear hz h1
    go_enter Tryd.func60, Tryd.ntmps60
    go_wp2
    go_loop [4, 5, 6, 12] (fun r _ _ i => ∃ k q : Nat, k ≤ s.size ∧ q < 97 ∧ i = .int .i64 k ∧ r = .int .i64 q ∧ C.rest s.data.toList = C.restG q (s.data.toList.drop k)) (fun _ _ _ i => s.size - (intOf i).toNat)
    case atStart => exact ⟨0, 0, Nat.zero_le _, by decide, rfl, rfl, HS.out⟩
    case round =>
      obtain ⟨k, q, hk, hq, rfl, rfl, hr⟩ := hrel
      have HR := Lib.hid hr
      clear hr
      by_cases hlt : k < s.size
      · have HT := Lib.hid (restG_step q s k hlt)
        have hc := s[k].toNat_lt
        cases hd : digB s[k] with
        | true =>
          have hb : 48 ≤ s[k].toNat ∧ s[k].toNat ≤ 57 := of_decide_eq_true hd
          have HV := Lib.hid (restG_yes HT.out (val_dig hd))
          have HP := Lib.hid (show C.put q (s[k].toNat - 48) = (q * 10 + (s[k].toNat - 48)) % 97 by unfold C.put; rw [if_neg (by omega)])
          have hd1 := Lib.hid hd
          clear hd
          obtain ⟨hb1, hb2⟩ := hb
          go_wp2_with fail
          refine (isDigit_any s[k] _).mono ?_
          rintro e w' ⟨rfl, rfl⟩
          rw [hd1.out]
          go_wp2
          go_round
          case rel => exact ⟨k + 1, (q * 10 + (s[k].toNat - 48)) % 97, by omega, by omega, by go_num, by go_num, by rw [HR.out, HV.out, HP.out]⟩
          case measure => simp [intOf]; omega
        | false =>
          have hd1 := Lib.hid hd
          cases hl : letB s[k] with
          | true =>
            have hb : 65 ≤ s[k].toNat ∧ s[k].toNat ≤ 90 := of_decide_eq_true hl
            have HV := Lib.hid (restG_yes HT.out (val_let hd hl))
            have HP := Lib.hid (show C.put q (s[k].toNat - 55) = (q * 100 + (s[k].toNat - 55)) % 97 by unfold C.put; rw [if_pos (by omega)])
            have hl1 := Lib.hid hl
            clear hd hl
            obtain ⟨hb1, hb2⟩ := hb
            go_wp2_with fail
            refine (isDigit_any s[k] _).mono ?_
            rintro e w' ⟨rfl, rfl⟩
            rw [hd1.out]
            go_wp2_with fail
            refine (isLetter_any s[k] _).mono ?_
            rintro e w' ⟨rfl, rfl⟩
            rw [hl1.out]
            go_wp2
            go_round
            case rel => exact ⟨k + 1, (q * 100 + (s[k].toNat - 55)) % 97, by omega, by omega, by go_num, by go_num, by rw [HR.out, HV.out, HP.out]⟩
            case measure => simp [intOf]; omega
          | false =>
            have HN := Lib.hid (restV_none (ef := ef) (HR.out.trans (restG_no HT.out (val_bad hd hl))))
            have hl1 := Lib.hid hl
            clear hd hl
            go_wp2_with fail
            refine (isDigit_any s[k] _).mono ?_
            rintro e w' ⟨rfl, rfl⟩
            rw [hd1.out]
            go_wp2_with fail
            refine (isLetter_any s[k] _).mono ?_
            rintro e w' ⟨rfl, rfl⟩
            rw [hl1.out]
            go_wp2
            go_quiet (fail)
            go_wp2
            go_ret2
            exact ⟨by rw [HN.out]; rfl, (Qt.refl w).drewN _⟩
      · obtain rfl : k = s.size := by omega
        have HN := Lib.hid (restV_some (ef := ef) (HR.out.trans (restG_over q s)))
        clear hlt
        go_wp2
        go_ret2
        exact ⟨by rw [HN.out]; rfl, Qt.refl w⟩
end Go.Proofs.YtalopcbjcgbdfaaDoor
