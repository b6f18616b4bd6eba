/-
  The contracts of checks.worth, checks.Luhn, and of the reference's.
-/
import Derived.Test.YtkmemjljoeokhaaDoorCRefRest
namespace Go.Proofs.YtkmemjljoeokhaaDoor
open Go.RowKit Go.WideShapes
set_option maxRecDepth 100000

theorem isDig_digB (c : UInt8) : C.isDig c = digB c := rfl

theorem ret_t {k : IntKind} {a b : Int} {v : Value} (h : a = b) : Ending.returned (.tuple #[.int k a, v]) = .returned (.tuple #[.int k b, v]) := by rw [h]
theorem worth_any (d : Nat) (b : Bool) (w : World) (hd : d < 10) : Calls Tryd.prog 28 #[.int .i64 d, .bool b] w fun e w' => e = .returned (.int .i64 ((if b then C.dbl d else d : Nat) : Int)) ∧ w = w' := by
  cases b with
  | false =>
    go_enter Tryd.func28, Tryd.ntmps28
    go_wp2
    go_ret
    exact ⟨rfl, rfl⟩
  | true =>
    by_cases h : 4 < d
    · have HD := Lib.hid (show C.dbl d = 2 * d - 9 from if_pos h)
      go_enter Tryd.func28, Tryd.ntmps28
      go_wp2
      go_ret
      exact ⟨ret_i (by rw [HD.out]; omega), rfl⟩
    · have HD := Lib.hid (show C.dbl d = 2 * d from if_neg h)
      go_enter Tryd.func28, Tryd.ntmps28
      go_wp2
      go_ret
      exact ⟨ret_i (by rw [HD.out]; omega), rfl⟩

def luhnV (ef : Addr) (s : List UInt8) : Value :=
  match C.luhnB s with
  | none => .tuple #[.int .i64 0, formV ef]
  | some r => .tuple #[.int .i64 r, .nilIface]
theorem luhnV_none {ef : Addr} {s : List UInt8} (h : C.luhnB s = none) : luhnV ef s = .tuple #[.int .i64 0, formV ef] := by unfold luhnV; rw [h]
theorem luhnV_some {ef : Addr} {s : List UInt8} {r : Nat} (h : C.luhnB s = some r) : luhnV ef s = .tuple #[.int .i64 r, .nilIface] := by unfold luhnV; rw [h]
def luhnN (s : List UInt8) : Value :=
  match C.luhnB s with
  | none => .tuple #[.int .i64 0, .int .i64 7]
  | some r => .tuple #[.int .i64 r, .int .i64 0]
theorem luhnN_none {s : List UInt8} (h : C.luhnB s = none) : luhnN s = .tuple #[.int .i64 0, .int .i64 7] := by unfold luhnN; rw [h]
theorem luhnN_some {s : List UInt8} {r : Nat} (h : C.luhnB s = some r) : luhnN s = .tuple #[.int .i64 r, .int .i64 0] := by unfold luhnN; rw [h]

/-- Behind the bytes from a on: all are digits; the sum, the turn. -/
def LuhnAt (s : ByteArray) (a q : Nat) (b : Bool) : Prop := a ≤ s.size ∧ q < 10 ∧ C.allDig (s.data.toList.drop a) = true ∧ q = C.luhnG ((s.data.toList.map C.dv).drop a) % 10 ∧ b = decide ((s.size - a) % 2 = 0)
theorem LuhnAt.start (s : ByteArray) : LuhnAt s s.size 0 true := by
  refine ⟨Nat.le_refl _, by decide, ?_, ?_, by simp⟩
  · rw [List.drop_eq_nil_of_le (by simp)]; rfl
  · rw [List.drop_eq_nil_of_le (by simp)]; rfl
theorem LuhnAt.step {s : ByteArray} {k q : Nat} {b : Bool} (hks : k < s.size) (h : LuhnAt s (k + 1) q b) (hd : digB s[k] = true) :
    LuhnAt s k ((q + (if b then C.dbl (s[k].toNat - 48) else s[k].toNat - 48)) % 10) (!b) := by
  obtain ⟨h1, h2, h3, h4, h5⟩ := h
  have hk : k < s.data.toList.length := by simp; omega
  have hlen : s.data.toList.length = s.size := by simp
  refine ⟨by omega, Nat.mod_lt _ (by decide), ?_, ?_, ?_⟩
  · rw [C.allDig_back _ _ hk, h3]
    show (digB s[k] && true) = true
    rw [hd]; rfl
  · rw [C.luhnG_back _ _ hk]
    have e : ((s.data.toList.length - (k + 1)) % 2 = 0) = (b = true) := by
      rw [hlen, h5, decide_eq_true_eq]
    show _ = ((if (s.data.toList.length - (k + 1)) % 2 = 0 then C.dbl (s[k].toNat - 48) else s[k].toNat - 48) + _) % 10
    simp only [e]
    rw [h4]
    omega
  · rw [h5]
    by_cases hp : (s.size - (k + 1)) % 2 = 0
    · rw [decide_eq_true hp, decide_eq_false (by omega)]; rfl
    · rw [decide_eq_false hp, decide_eq_true (by omega)]; rfl
theorem LuhnAt.bad {s : ByteArray} {k q : Nat} {b : Bool} (hks : k < s.size) (h : LuhnAt s (k + 1) q b) (hd : digB s[k] = false) : C.luhnB s.data.toList = none := by
  have hk : k < s.data.toList.length := by have := h.1; simp; omega
  apply C.luhnB_bad
  apply C.allDig_drop k
  rw [C.allDig_back _ _ hk]
  show (digB s[k] && _) = false
  rw [hd]; rfl
theorem LuhnAt.done {s : ByteArray} {q : Nat} {b : Bool} (h : LuhnAt s 0 q b) (hne : s.data.toList ≠ []) : C.luhnB s.data.toList = some ((10 - q) % 10) := by
  obtain ⟨h1, h2, h3, h4, h5⟩ := h
  rw [List.drop_zero] at h3 h4
  rw [C.luhnB_some hne h3, h4]; rfl

set_option maxHeartbeats 1600000 in
theorem luhn_any (ef : Addr) (s : ByteArray) (w : World) (hs : s.size ≤ maxLen) (hf : FormAt ef w) :
    Calls Tryd.prog 19 #[.string s] w fun e w' => e = .returned (luhnV ef s.data.toList) ∧ Qt w w' := by
  unfold maxLen at hs
  have hf' : w.cell? ⟨1, 0, none⟩ = some (formV ef) := hf
  by_cases hz : s.data.toList = []
  · have h1 : s.toList = [] := by rw [Lib.toList_data]; exact hz
    have h2 : (!s.toList.isEmpty) = false := by rw [h1]; rfl
    have h3 : s.toList.isEmpty = true := by rw [h1]; rfl
    have HN := Lib.hid (luhnV_none (ef := ef) (show C.luhnB s.data.toList = none by rw [hz]; exact C.luhnB_nil))
    clear hz h1
    go_enter Tryd.func19, Tryd.ntmps19
    go_wp2
    go_quiet (fail)
    go_wp2
    go_ret2
    exact ⟨by rw [HN.out]; rfl, (Qt.refl w).drewN _⟩
  · have h1 : s.toList ≠ [] := by rw [Lib.toList_data]; exact hz
    have h2 : s.toList.isEmpty = false := by simpa using h1
    have HZ := Lib.hid hz
    have hpos : 0 < s.size := by
      rcases Nat.eq_zero_or_pos s.size with h0 | h0
      · exact absurd (List.eq_nil_of_length_eq_zero (by simpa using h0)) hz
      · exact h0
    clear hz h1
    go_enter Tryd.func19, Tryd.ntmps19
    go_wp2
    go_loop [4, 5, 6] (fun r t i => ∃ (a q : Nat) (b : Bool), i = .int .i64 ((a : Int) - 1) ∧ r = .int .i64 q ∧ t = .bool b ∧ LuhnAt s a q b) (fun _ _ i => (intOf i + 1).toNat)
    case atStart => exact ⟨s.size, 0, true, rfl, rfl, rfl, LuhnAt.start s⟩
    case round =>
      obtain ⟨a, q, b, rfl, rfl, rfl, hA⟩ := hrel
      have hq := hA.2.1
      have ha := hA.1
      cases a with
      | succ k =>
        have hk : k < s.size := by omega
        rw [show (((k + 1 : Nat) : Int) - 1) = (k : Int) by omega]
        have hc := s[k].toNat_lt
        cases hd : digB s[k] with
        | true =>
          have hb : 48 ≤ s[k].toNat ∧ s[k].toNat ≤ 57 := of_decide_eq_true hd
          have HA := Lib.hid (LuhnAt.step hk hA hd)
          have hd1 := Lib.hid hd
          obtain ⟨hb1, hb2⟩ := hb
          have hw : (if b then C.dbl (s[k].toNat - 48) else s[k].toNat - 48) < 10 := by
            unfold C.dbl
            split
            · split <;> omega
            · omega
          clear hd hA
          go_wp2_with fail
          refine (isDigit_any s[k] _).mono ?_
          rintro e w' ⟨rfl, rfl⟩
          rw [hd1.out]
          go_wp2_with fail
          rw [show ((s[k].toNat : Int) - 48) = ((s[k].toNat - 48 : Nat) : Int) by omega]
          refine (worth_any (s[k].toNat - 48) b _ (by omega)).mono ?_
          rintro e w' ⟨rfl, rfl⟩
          generalize (if b then C.dbl (s[k].toNat - 48) else s[k].toNat - 48) = d at *
          go_wp2
          go_round
          case rel => exact ⟨k, (q + d) % 10, !b, rfl, by go_num, rfl, HA.out⟩
          case measure => simp [intOf]
        | false =>
          have HN := Lib.hid (luhnV_none (ef := ef) (LuhnAt.bad hk hA hd))
          have hd1 := Lib.hid hd
          clear hd hA
          go_wp2_with fail
          refine (isDigit_any s[k] _).mono ?_
          rintro e w' ⟨rfl, rfl⟩
          rw [hd1.out]
          go_wp2
          go_quiet (fail)
          go_wp2
          go_ret2
          exact ⟨by rw [HN.out]; rfl, (Qt.refl w).drewN _⟩
      | zero =>
        have HN := Lib.hid (luhnV_some (ef := ef) (hA.done HZ.out))
        clear hA
        rw [show (((0 : Nat) : Int) - 1) = -1 from rfl]
        go_wp2
        go_ret2
        exact ⟨by rw [HN.out]; exact ret_t (by omega), Qt.refl w⟩

/-! ### The reference -/
/-- Ahead of byte k: all are digits, and what is weighed. -/
def LuhnTo (s : ByteArray) (k m : Nat) : Prop := k ≤ s.size ∧ C.allDig (s.data.toList.take k) = true ∧ m ≤ 9 * k ∧ C.luhnG (s.data.toList.map C.dv) = m + C.luhnG ((s.data.toList.map C.dv).drop k)
theorem LuhnTo.start (s : ByteArray) : LuhnTo s 0 0 := ⟨Nat.zero_le _, rfl, by omega, by rw [List.drop_zero, Nat.zero_add]⟩
theorem LuhnTo.step {s : ByteArray} {k m : Nat} (hk : k < s.size) (h : LuhnTo s k m) (hd : digB s[k] = true) : LuhnTo s (k + 1) (m + if (s.size - (k + 1)) % 2 = 0 then C.dbl (s[k].toNat - 48) else s[k].toNat - 48) := by
  obtain ⟨h1, h2, h3, h4⟩ := h
  have hl : k < s.data.toList.length := by simp; omega
  have hlen : s.data.toList.length = s.size := by simp
  have hb : 48 ≤ s[k].toNat ∧ s[k].toNat ≤ 57 := of_decide_eq_true hd
  refine ⟨by omega, ?_, ?_, ?_⟩
  · rw [C.allDig_take_snoc _ _ hl, h2]
    show (true && digB s[k]) = true
    rw [hd]; rfl
  · unfold C.dbl
    split
    · split <;> omega
    · omega
  · rw [h4, C.luhnG_back _ _ hl]
    simp only [hlen]
    show m + ((if (s.size - (k + 1)) % 2 = 0 then C.dbl (s[k].toNat - 48) else s[k].toNat - 48) + _) = _
    omega
theorem LuhnTo.bad {s : ByteArray} {k : Nat} (hk : k < s.size) (hd : digB s[k] = false) : C.luhnB s.data.toList = none := by
  have hl : k < s.data.toList.length := by simp; omega
  apply C.luhnB_bad
  apply C.allDig_take (k + 1)
  rw [C.allDig_take_snoc _ _ hl]
  show (_ && digB s[k]) = false
  rw [hd, Bool.and_false]
theorem LuhnTo.done {s : ByteArray} {m : Nat} (h : LuhnTo s s.size m) (hz : 0 < s.size) : C.luhnB s.data.toList = some ((10 - m % 10) % 10) := by
  obtain ⟨h1, h2, h3, h4⟩ := h
  have ht : s.data.toList.take s.size = s.data.toList := List.take_of_length_le (by simp)
  rw [ht] at h2
  rw [List.drop_eq_nil_of_le (by simp)] at h4
  have hne : s.data.toList ≠ [] := by
    intro e
    have h5 : s.data.toList.length = 0 := by rw [e]; rfl
    have h6 : s.data.toList.length = s.size := rfl
    omega
  rw [C.luhnB_some hne h2]
  unfold C.luhn
  rw [h4]; rfl
theorem digB_val {c : UInt8} {v : Nat} (h : C.val c = some v) (h9 : v ≤ 9) : digB c = true := by
  cases hd : digB c with
  | true => rfl
  | false =>
    unfold C.val at h
    rw [if_neg (of_decide_eq_false hd)] at h
    split at h
    · injection h with h; omega
    · cases h
theorem digB_out {c : UInt8} (h : digB c = false) : valI c < 0 ∨ 9 < valI c := by
  cases hv : C.val c with
  | none => left; rw [valI_none hv]; decide
  | some v =>
    right
    rw [valI_some hv]
    have : ¬ v ≤ 9 := fun h9 => by rw [digB_val hv h9] at h; cases h
    omega

set_option maxHeartbeats 1600000 in
theorem refLuhn_any (s : ByteArray) (w : World) (hs : s.size ≤ 576460752303423488) :
    Calls Tryd.prog 20 #[.string s] w fun e w' => e = .returned (luhnN s.data.toList) ∧ w = w' := by
  by_cases hz : s.size = 0
  · have HN := Lib.hid (luhnN_none (show C.luhnB s.data.toList = none by rw [show s.data.toList = [] from List.eq_nil_of_length_eq_zero hz]; exact C.luhnB_nil))
    go_enter Tryd.func20, Tryd.ntmps20
    go_wp2
    go_ret2
    exact ⟨by rw [HN.out]; rfl, rfl⟩
  · have hz2 : 0 < s.size := by omega
    have hz3 : ((s.size : Int) == 0) = false := by simpa using hz
    clear hz
    go_enter Tryd.func20, Tryd.ntmps20
    go_wp2
    go_loop [4, 5, 6] (fun r i _ => ∃ k m : Nat, i = .int .i64 k ∧ r = .int .i64 m ∧ LuhnTo s k m) (fun _ i _ => s.size - (intOf i).toNat)
    case atStart => exact ⟨0, 0, rfl, rfl, LuhnTo.start s⟩
    case round =>
      obtain ⟨k, m, rfl, rfl, hA⟩ := hrel
      have hk := hA.1
      have hm := hA.2.2.1
      by_cases hlt : k < s.size
      · cases hd : digB s[k] with
        | true =>
          have hb : 48 ≤ s[k].toNat ∧ s[k].toNat ≤ 57 := of_decide_eq_true hd
          have HA := Lib.hid (hA.step hlt hd)
          have HI := Lib.hid (valI_some (val_dig hd))
          obtain ⟨hb1, hb2⟩ := hb
          obtain ⟨v, hv⟩ : ∃ v, s[k].toNat - 48 = v := ⟨_, rfl⟩
          have hv9 : v ≤ 9 := by omega
          rw [hv] at HA HI
          clear hd hA hb1 hb2 hv
          by_cases hp : (s.size - (k + 1)) % 2 = 0
          · have hpi : (((s.size : Int) - k) % 2 == 1) = true := by simp; omega
            by_cases h4 : 4 < v
            · have HD := Lib.hid (show (m + if (s.size - (k + 1)) % 2 = 0 then C.dbl v else v) = m + (2 * v - 9) by unfold C.dbl; rw [if_pos hp, if_pos h4])
              clear hp
              go_wp2_with fail
              refine (value_any s[k] _).mono ?_
              rintro e w' ⟨rfl, rfl⟩
              rw [HI.out]
              go_wp2
              go_round
              case rel => exact ⟨k + 1, m + (2 * v - 9), by go_num, by go_num, by rw [← HD.out]; exact HA.out⟩
              case measure => simp [intOf]; omega
            · have HD := Lib.hid (show (m + if (s.size - (k + 1)) % 2 = 0 then C.dbl v else v) = m + 2 * v by unfold C.dbl; rw [if_pos hp, if_neg h4])
              clear hp
              go_wp2_with fail
              refine (value_any s[k] _).mono ?_
              rintro e w' ⟨rfl, rfl⟩
              rw [HI.out]
              go_wp2
              go_round
              case rel => exact ⟨k + 1, m + 2 * v, by go_num, by go_num, by rw [← HD.out]; exact HA.out⟩
              case measure => simp [intOf]; omega
          · have hpi : (((s.size : Int) - k) % 2 == 1) = false := by simp; omega
            have HD := Lib.hid (show (m + if (s.size - (k + 1)) % 2 = 0 then C.dbl v else v) = m + v by rw [if_neg hp])
            clear hp
            go_wp2_with fail
            refine (value_any s[k] _).mono ?_
            rintro e w' ⟨rfl, rfl⟩
            rw [HI.out]
            go_wp2
            go_round
            case rel => exact ⟨k + 1, m + v, by go_num, by go_num, by rw [← HD.out]; exact HA.out⟩
            case measure => simp [intOf]; omega
        | false =>
          have HN := Lib.hid (luhnN_none (LuhnTo.bad hlt hd))
          have ho := digB_out hd
          clear hd hA
          rcases ho with ho | ho
          all_goals
            go_wp2_with fail
            refine (value_any s[k] _).mono ?_
            rintro e w' ⟨rfl, rfl⟩
            generalize valI s[k] = x at *
            go_wp2
            go_ret2
            exact ⟨by rw [HN.out]; rfl, rfl⟩
      · obtain rfl : k = s.size := by omega
        have HN := Lib.hid (luhnN_some (hA.done hz2))
        clear hlt hA
        go_wp2
        go_ret2
        exact ⟨by rw [HN.out]; exact ret_t (by omega), rfl⟩
end Go.Proofs.YtkmemjljoeokhaaDoor
