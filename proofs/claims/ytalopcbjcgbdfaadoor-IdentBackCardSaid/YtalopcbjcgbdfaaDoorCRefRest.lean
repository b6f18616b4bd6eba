/-
  The contracts of the reference's value, Rest.
-/
import Derived.Test.YtalopcbjcgbdfaaDoorCRest
namespace Go.Proofs.YtalopcbjcgbdfaaDoor
open Go.RowKit Go.WideShapes
set_option maxRecDepth 100000

/-- What a character stands for, as the reference says it. -/
def valI (c : UInt8) : Int := match C.val c with | none => -1 | some v => (v : Int)
theorem valI_none {c : UInt8} (h : C.val c = none) : valI c = -1 := by unfold valI; rw [h]
theorem valI_some {c : UInt8} {v : Nat} (h : C.val c = some v) : valI c = v := by unfold valI; rw [h]

theorem value_any (c : UInt8) (w : World) : Calls Tryd.prog 65 #[.int .u8 c.toNat] w fun e w' => e = .returned (.int .i64 (valI c)) ∧ w = w' := by
  have hc := c.toNat_lt
  cases hd : digB c with
  | true =>
    have hb : 48 ≤ c.toNat ∧ c.toNat ≤ 57 := of_decide_eq_true hd
    have HV := Lib.hid (valI_some (val_dig hd))
    obtain ⟨h1, h2⟩ := hb
    clear hd
    go_enter Tryd.func65, Tryd.ntmps65
    go_wp2
    go_ret
    exact ⟨ret_i (by rw [HV.out]; omega), rfl⟩
  | false =>
    cases hl : letB c with
    | true =>
      have hb : 65 ≤ c.toNat ∧ c.toNat ≤ 90 := of_decide_eq_true hl
      have HV := Lib.hid (valI_some (val_let hd hl))
      obtain ⟨h1, h2⟩ := hb
      clear hd hl
      go_enter Tryd.func65, Tryd.ntmps65
      go_wp2
      go_ret
      exact ⟨ret_i (by rw [HV.out]; omega), rfl⟩
    | false =>
      have HV := Lib.hid (valI_none (val_bad hd hl))
      have hb1 : ¬ (48 ≤ c.toNat ∧ c.toNat ≤ 57) := of_decide_eq_false hd
      have hb2 : ¬ (65 ≤ c.toNat ∧ c.toNat ≤ 90) := of_decide_eq_false hl
      clear hd hl
      by_cases h1 : c.toNat < 48
      · clear hb1 hb2
        go_enter Tryd.func65, Tryd.ntmps65
        go_wp2
        go_ret
        exact ⟨ret_i (by rw [HV.out]), rfl⟩
      · have h2 : 57 < c.toNat := by omega
        by_cases h3 : c.toNat < 65
        · clear hb1 hb2
          go_enter Tryd.func65, Tryd.ntmps65
          go_wp2
          go_ret
          exact ⟨ret_i (by rw [HV.out]), rfl⟩
        · have h4 : 90 < c.toNat := by omega
          clear hb1 hb2
          go_enter Tryd.func65, Tryd.ntmps65
          go_wp2
          go_ret
          exact ⟨ret_i (by rw [HV.out]), rfl⟩

/-- What the reference answers. -/
def restN (s : List UInt8) : Value :=
  match C.rest s with
  | none => .tuple #[.int .i64 0, .int .i64 7]
  | some r => .tuple #[.int .i64 r, .int .i64 0]
theorem restN_none {s : List UInt8} (h : C.rest s = none) : restN s = .tuple #[.int .i64 0, .int .i64 7] := by unfold restN; rw [h]
theorem restN_some {s : List UInt8} {r : Nat} (h : C.rest s = some r) : restN s = .tuple #[.int .i64 r, .int .i64 0] := by unfold restN; rw [h]

set_option maxHeartbeats 1600000 in
theorem refRest_any (s : ByteArray) (w : World) (hs : s.size ≤ maxLen) :
    Calls Tryd.prog 51 #[.string s] w fun e w' => e = .returned (restN s.data.toList) ∧ w = w' := by
  unfold maxLen at hs
  by_cases hz : s.size = 0
  · have HN := Lib.hid (restN_none (show C.rest s.data.toList = none by rw [show s.data.toList = [] from List.eq_nil_of_length_eq_zero hz]; rfl))
    go_enter Tryd.func51, Tryd.ntmps51
    go_wp2
    go_ret2
    exact ⟨by rw [HN.out]; rfl, rfl⟩
  · have hz2 : 0 < s.size := by omega
    have HS := Lib.hid (rest_start (s := s) (fun e => hz (by have := congrArg List.length e; simpa using this)))
    have hz3 : ((s.size : Int) == 0) = false := by simpa using hz
    clear hz
    go_enter Tryd.func51, Tryd.ntmps51
    go_wp2
    go_loop [4, 5, 6] (fun r i _ => ∃ k q : Nat, k ≤ s.size ∧ q < 97 ∧ i = .int .i64 k ∧ r = .int .i64 q ∧ C.rest s.data.toList = C.restG q (s.data.toList.drop k)) (fun _ i _ => s.size - (intOf i).toNat)
    case atStart => exact ⟨0, 0, Nat.zero_le _, by decide, rfl, rfl, HS.out⟩
    case round =>
      obtain ⟨k, q, hk, hq, rfl, rfl, hr⟩ := hrel
      have HR := Lib.hid hr
      clear hr
      by_cases hlt : k < s.size
      · have HT := Lib.hid (restG_step q s k hlt)
        cases hv : C.val s[k] with
        | some v =>
          have hvl := C.val_lt hv
          have HV := Lib.hid (restG_yes HT.out hv)
          have HI := Lib.hid (valI_some hv)
          have HP := Lib.hid (C.put_two q v (by omega))
          clear hv
          by_cases h9 : 9 < v
          · have HP2 := Lib.hid (HP.out.trans (if_pos h9))
            go_wp2_with fail
            refine (value_any s[k] _).mono ?_
            rintro e w' ⟨rfl, rfl⟩
            rw [HI.out]
            go_wp2
            go_round
            case rel => exact ⟨k + 1, ((q * 10 + v / 10) % 97 * 10 + v % 10) % 97, by omega, by omega, by go_num, by go_num, by rw [HR.out, HV.out, HP2.out]⟩
            case measure => simp [intOf]; omega
          · have HP2 := Lib.hid (HP.out.trans (if_neg h9))
            go_wp2_with fail
            refine (value_any s[k] _).mono ?_
            rintro e w' ⟨rfl, rfl⟩
            rw [HI.out]
            go_wp2
            go_round
            case rel => exact ⟨k + 1, (q * 10 + v % 10) % 97, by omega, by omega, by go_num, by go_num, by rw [HR.out, HV.out, HP2.out]⟩
            case measure => simp [intOf]; omega
        | none =>
          have HN := Lib.hid (restN_none (HR.out.trans (restG_no HT.out hv)))
          have HI := Lib.hid (valI_none hv)
          clear hv
          go_wp2_with fail
          refine (value_any s[k] _).mono ?_
          rintro e w' ⟨rfl, rfl⟩
          rw [HI.out]
          go_wp2
          go_ret2
          exact ⟨by rw [HN.out]; rfl, rfl⟩
      · obtain rfl : k = s.size := by omega
        have HN := Lib.hid (restN_some (HR.out.trans (restG_over q s)))
        clear hlt
        go_wp2
        go_ret2
        exact ⟨by rw [HN.out]; rfl, rfl⟩
end Go.Proofs.YtalopcbjcgbdfaaDoor
