/-
  The contracts of remitref01's reading functions: GetUint.
-/
import Derived.Test.YtilhkbohemghlaaDoorSpecD
namespace Go.Proofs.YtilhkbohemghlaaDoor
open Go.RowKit
set_option maxRecDepth 100000

/-- What GetUint answers. -/
def gRes (p : Nat) : Nat ⊕ (Nat × Nat) → Value
  | .inl e => .tuple #[.int .u64 0, .int .i64 p, .int .i64 e]
  | .inr (x, n) => .tuple #[.int .u64 x, .int .i64 ((p + n : Nat) : Int), .int .i64 0]

def GetAt (s : ByteArray) (p : Nat) (v i : Value) : Prop :=
  ∃ (k acc : Nat), i = .int .i64 k ∧ v = .int .u64 acc ∧ k ≤ 9 ∧ p + k ≤ s.size ∧ acc < 128 ^ k ∧ varintD (rest s p) = vd k acc (rest s (p + k))

theorem vd_rest {s : ByteArray} {p k acc : Nat} (h : p + k < s.size) : vd k acc (rest s (p + k)) = if k = 9 ∧ 1 < s[p + k].toNat then .inl 2 else
    if 128 ≤ s[p + k].toNat then vd (k + 1) (acc + s[p + k].toNat % 128 * 128 ^ k) (rest s (p + (k + 1))) else
    if s[p + k].toNat = 0 ∧ 0 < k then .inl 2 else .inr (acc + s[p + k].toNat % 128 * 128 ^ k, k + 1) := by
  have h' : p + k < s.data.toList.length := by simpa using h
  unfold rest
  rw [List.drop_eq_getElem_cons h', vd]
  rfl

theorem vd_done {s : ByteArray} {p k acc : Nat} (h : s.size ≤ p + k) : vd k acc (rest s (p + k)) = .inl 1 := by
  have : rest s (p + k) = [] := List.drop_eq_nil_of_le (by simpa using h)
  rw [this, vd]

theorem or_stepG {k acc c : Nat} (hk : k ≤ 9) (hc : c < 256) (h9 : k = 9 → c ≤ 1) (ha : acc < 128 ^ k) :
    bits .or .u64 (acc : Int) (IntKind.u64.wrap ((c : Int) % 128 * 2 ^ (7 * k))) = ((acc + c % 128 * 128 ^ k : Nat) : Int) := by
  have h := or_step hk hc h9 ha
  rw [u8_and127 _ (by omega) (by omega), show IntKind.u64.wrap ((c : Int) % 128) = (c : Int) % 128 by rw [IntKind.wrap_u64]; omega] at h
  exact h

theorem GetAt.more {s : ByteArray} {p k acc : Nat} {i : Value} (hk : k < 9) (h : p + k < s.size) (ha : acc < 128 ^ k) (hd : varintD (rest s p) = vd k acc (rest s (p + k))) (hb : 128 ≤ s[p + k].toNat) (hi : i = .int .i64 ((k : Int) + 1)) :
    GetAt s p (.int .u64 (bits .or .u64 (acc : Int) (IntKind.u64.wrap ((s[p + k].toNat : Int) % 128 * 2 ^ (7 * k))))) i := by
  have hc := s[p + k].toNat_lt
  refine ⟨k + 1, _, by rw [hi]; simp, by rw [or_stepG (by omega) hc (fun e => by omega) ha], by omega, h, ?_, ?_⟩
  · rw [Nat.pow_succ]
    have h1 : s[p + k].toNat % 128 * 128 ^ k ≤ 127 * 128 ^ k := Nat.mul_le_mul_right _ (by omega)
    omega
  · rw [hd, vd_rest h, if_neg (by omega), if_pos hb]

set_option maxHeartbeats 800000 in
theorem refGetUint_any (s : ByteArray) (p : Nat) (w : World) (hp : p ≤ s.size) (hs : s.size ≤ 140737488355328) :
    Calls Tryd.prog 47 #[.string s, .int .i64 p] w fun e w' => e = .returned (gRes p (varintD (rest s p))) ∧ w = w' := by
  go_enter Tryd.func47, Tryd.ntmps47
  go_wp2
  go_loop [7, 8] (fun v i => GetAt s p v i) (fun _ i => 10 - (intOf i).toNat)
  case atStart => exact ⟨0, 0, rfl, rfl, by omega, by omega, by decide, rfl⟩
  case round =>
    obtain ⟨k, acc, rfl, rfl, hk, hks, hacc, hd⟩ := hrel
    have Hacc := Lib.hid hacc; clear hacc
    have Hd := Lib.hid hd; clear hd
    by_cases hlt : p + k < s.size
    · have hc := s[p + k].toNat_lt
      have hlt' : (p : Int) + (k : Int) < (s.size : Int) := by omega
      have hx : ((p : Int) + (k : Int)).toNat = p + k := by omega
      by_cases h9 : k = 9 ∧ 1 < s[p + k].toNat
      · have fin : varintD (rest s p) = .inl 2 := by rw [Hd.out, vd_rest hlt, if_pos h9]
        have Fin := Lib.hid fin; clear fin
        obtain ⟨h9, h1⟩ := h9
        have t9 : ((k : Int) == 9) = true := by simp; omega
        have t1 : (1 : Int) < (s[p + k].toNat : Int) := by omega
        clear h9
        go_wp2
        go_ret3
        exact ⟨by rw [Fin.out]; rfl, rfl⟩
      · by_cases hb : 128 ≤ s[p + k].toNat
        · have hk9 : k < 9 := by omega
          have t9 : ((k : Int) == 9) = false := by simp; omega
          have fin := Lib.hid (fun i => GetAt.more (i := i) hk9 hlt Hacc.out Hd.out hb)
          clear h9
          go_wp2
          go_round
          case rel => exact fin.out _ rfl
          case measure => simp [intOf]; omega
        · by_cases h0 : s[p + k].toNat = 0 ∧ 0 < k
          · have fin : varintD (rest s p) = .inl 2 := by rw [Hd.out, vd_rest hlt, if_neg h9, if_neg hb, if_pos h0]
            have Fin := Lib.hid fin; clear fin
            have t9 : ((k : Int) == 9) = false ∨ ((k : Int) == 9) = true := by by_cases e : (k : Int) = 9 <;> simp [e]
            have t0 : ((s[p + k].toNat : Int) == 0) = true := by simp; omega
            have tk : (0 : Int) < (k : Int) := by omega
            have t1 : (s[p + k].toNat : Int) < 128 := by omega
            have t2 : (s[p + k].toNat : Int) ≤ 1 := by omega
            clear h9 h0
            rcases t9 with t9 | t9
            all_goals
              go_wp2
              go_ret3
              exact ⟨by rw [Fin.out]; rfl, rfl⟩
          · have fin : varintD (rest s p) = .inr (acc + s[p + k].toNat % 128 * 128 ^ k, k + 1) := by rw [Hd.out, vd_rest hlt, if_neg h9, if_neg hb, if_neg h0]
            have Fin := Lib.hid fin; clear fin
            have t9 : (((k : Int) == 9) = false ∨ ((k : Int) == 9) = true ∧ (s[p + k].toNat : Int) ≤ 1) := by
              by_cases e : k = 9
              · exact .inr ⟨by simp; omega, by omega⟩
              · exact .inl (by simp; omega)
            have t0 : ((s[p + k].toNat : Int) == 0) = false ∨ ((s[p + k].toNat : Int) == 0) = true ∧ (k : Int) ≤ 0 := by
              by_cases e : s[p + k].toNat = 0
              · exact .inr ⟨by rw [e]; rfl, by omega⟩
              · exact .inl (by simp; omega)
            have t1 : (s[p + k].toNat : Int) < 128 := by omega
            have HO := Lib.hid (or_stepG (c := s[p + k].toNat) hk hc (by omega) Hacc.out)
            clear h9 h0
            rcases t9 with t9 | ⟨t9, t8⟩ <;> rcases t0 with t0 | ⟨t0, t7⟩
            all_goals
              go_wp2
              go_ret3
              refine ⟨?_, rfl⟩
              rw [Fin.out]
              rw [HO.out]
              rfl
    · have fin : varintD (rest s p) = .inl 1 := by rw [Hd.out, vd_done (by omega)]
      have Fin := Lib.hid fin; clear fin
      have hge : (s.size : Int) ≤ (p : Int) + (k : Int) := by omega
      go_wp2
      go_ret3
      exact ⟨by rw [Fin.out]; rfl, rfl⟩
end Go.Proofs.YtilhkbohemghlaaDoor
