/-
  The contract of remitnum.Num.
  Decode, both, as one answer: a list and a number.
-/
import Derived.Test.YtffjleceogablaaDoorP09
import Derived.Test.YtffjleceogablaaDoorP24
import Derived.LaidEql
import Derived.LoopTactic
import Derived.Test.YtffjleceogablaaDoorP23
import Derived.Test.YtffjleceogablaaDoorP15
import Derived.Test.YtffjleceogablaaDoorP10
namespace Go.Proofs.YtffjleceogablaaDoor
open Go.RowKit
set_option maxRecDepth 100000

theorem errArr_get (ad : Nat → Addr) {k : Nat} (hk : k < 37) : (errArr ad)[k]? = some (.iface 155 (.pointer (some (ad (k + 1))))) := by
  simp [errArr, hk]

theorem run_index_errs (ad : Nat → Addr) {k : Nat} (hk : k < 37) (w : World) : (Instr.index 74 (.agg (errArr ad)) (.int .i64 k)).run Tryd.prog w = .ok (.iface 155 (.pointer (some (ad (k + 1))))) w := by
  have h1 : Tryd.prog.underlying 74 = some (.array 37 32) := Tryd.underlying74
  have hg := errArr_get ad hk
  simp [Instr.index, run_underlying h1, asIntOf, hk, part, hg]

theorem num_nil (w : World) : Calls Tryd.prog 18 #[.nilIface] w fun e w' => e = .returned (.int .i64 0) ∧ w = w' := by
  go_enter Tryd.func18, Tryd.ntmps18
  go_wp2
  go_ret
  exact ⟨rfl, rfl⟩

set_option maxHeartbeats 400000 in
theorem num_pos (ad : Nat → Addr) (n : Nat) (w : World) (hE : Errs ad w) (h1 : n < 37) :
    Calls Tryd.prog 18 #[.iface 155 (.pointer (some (ad (n + 1))))] w fun e w' => e = .returned (.int .i64 ((n + 1 : Nat) : Int)) ∧ Keeps (fun _ => False) w w' := by
  obtain ⟨i, hi, hcmp⟩ := Option.map_eq_some_iff.1 compErr
  obtain ⟨j, hj, hjs⟩ := Option.map_eq_some_iff.1 sizeErr
  go_enter Tryd.func18, Tryd.ntmps18
  go_wp2_with fail
  refine (list_any ad w hE).mono ?_
  rintro e w1 ⟨rfl, hk⟩
  have hE1 := Lib.hid (hE.kept hk (OffErrs.none ad))
  have hk' := Lib.hid hk; clear hk hE
  have hidx := Lib.hid (fun (k : Nat) (hk : k < 37) => run_index_errs ad hk w1)
  generalize errArr ad = L at *
  go_wp2
  go_loop [3, 4, 8] (fun _ _ x => ∃ k : Nat, k ≤ n ∧ x = .int .i64 k) (fun _ _ x => 37 - (intOf x).toNat)
  case atStart => exact ⟨0, Nat.zero_le _, rfl⟩
  case round =>
    obtain ⟨k, hk, rfl⟩ := hrel
    have hk37 : k < 37 := by omega
    have hix := hidx.out k hk37
    obtain ⟨ca, ta, hca⟩ := hE1.out.blk n h1
    obtain ⟨cb, tb, hcb⟩ := hE1.out.blk k hk37
    by_cases he : k = n
    · subst he
      have heq := run_eql_iface_ptr_same (P := Tryd.prog) w1 (ad (k + 1)) Tryd.underlying32 Tryd.underlying155 hi hcmp hj
      go_wp2
      go_ret
      exact ⟨by simp, hk'.out⟩
    · have hne : ad (n + 1) ≠ ad (k + 1) := fun e => he (hE1.out.apart n k h1 hk37 e).symm
      have heq := run_eql_iface_ptr_other (P := Tryd.prog) w1 Tryd.underlying32 Tryd.underlying155 hi hcmp hj (by rw [hjs]; decide) hne hca hcb
      have hkn : k < n := by omega
      clear hne he hca hcb
      go_wp2
      go_round
      case rel => exact ⟨k + 1, by omega, by go_num⟩
      case measure => simp [intOf]; omega

theorem num_any (ad : Nat → Addr) (n : Nat) (w : World) (hE : Errs ad w) (h : n ≤ 37) :
    Calls Tryd.prog 18 #[errV ad n] w fun e w' => e = .returned (.int .i64 n) ∧ Keeps (fun _ => False) w w' := by
  cases n with
  | zero => exact (num_nil w).mono fun _ _ ⟨he, hw⟩ => ⟨he, hw ▸ Keeps.refl _ _⟩
  | succ n =>
    rw [errV_pos ad (by omega)]
    exact num_pos ad n w hE (by omega)
end Go.Proofs.YtffjleceogablaaDoor
namespace Go.Proofs.YtffjleceogablaaDoor
open Go.RowKit Go.WideShapes
set_option maxRecDepth 100000

namespace Bt
def decL : Nat ⊕ List O → List O
  | .inl _ => []
  | .inr l => l
def decN : Nat ⊕ List O → Nat
  | .inl e => e
  | .inr _ => 0
theorem opsB_len (ops : List O) : ops.length ≤ (opsB ops).length := by
  induction ops with
  | nil => exact Nat.zero_le _
  | cons o os ih =>
    have e : opsB (o :: os) = opB o ++ opsB os := by simp [opsB]
    have h : 1 ≤ (opB o).length := by unfold opB; split <;> simp
    rw [e, List.length_append, List.length_cons]
    omega
theorem encB_len (ops : List O) : ops.length ≤ (encB ops).length := by
  unfold encB
  have := opsB_len ops
  rw [List.length_append]
  omega
theorem decN_le (l : Tb.Txt) : decN (decD l) ≤ 37 := by
  cases h : decD l with
  | inl e => have := decD_err h; unfold ErrN at this; show e ≤ 37; omega
  | inr ops => exact Nat.zero_le _
theorem decL_len (l : Tb.Txt) : (decL (decD l)).length ≤ l.length := by
  cases h : decD l with
  | inl e => exact Nat.zero_le _
  | inr ops =>
    have h2 := (decD_inv h).2
    show ops.length ≤ l.length
    rw [← h2]
    exact encB_len ops
end Bt
theorem newO_nil {w wr : World} (q : Qt w wr) : NewO w wr (.slice none 0 0) [] := ⟨⟨rfl, .inl ⟨rfl, rfl⟩⟩, fun g e => (by cases e), q⟩
theorem decode12_one (ad : Nat → Addr) (s : ByteArray) (w : World) (hs : s.size ≤ 1099511627776) (hE : Errs ad w) :
    Calls Tryd.prog 19 #[.string s] w fun e w' => ∃ v, e = .returned (.tuple #[v, errV ad (Bt.decN (Bt.decD s.data.toList))]) ∧ NewO w w' v (Bt.decL (Bt.decD s.data.toList)) := by
  refine (decode12_any ad s w hs hE).mono fun e w' h => ?_
  cases hD : Bt.decD s.data.toList with
  | inl er => rw [hD] at h; obtain ⟨h1, h2⟩ := h; exact ⟨_, h1, newO_nil h2⟩
  | inr ops => rw [hD] at h; obtain ⟨v, h1, h2⟩ := h; exact ⟨v, h1, h2⟩
theorem rdecode12_one (s : ByteArray) (w : World) (hs : s.size ≤ 1099511627776) :
    Calls Tryd.prog 20 #[.string s] w fun e w' => ∃ v, e = .returned (.tuple #[v, .int .i64 (Bt.decN (Bt.decD s.data.toList) : Int)]) ∧ NewO w w' v (Bt.decL (Bt.decD s.data.toList)) := by
  refine (rdecode12_any s w hs).mono fun e w' h => ?_
  cases hD : Bt.decD s.data.toList with
  | inl er => rw [hD] at h; obtain ⟨h1, h2⟩ := h; exact ⟨_, h1, newO_nil h2⟩
  | inr ops => rw [hD] at h; obtain ⟨v, h1, h2⟩ := h; exact ⟨v, h1, h2⟩
theorem decode12_ok (ad : Nat → Addr) {s : ByteArray} {os : List Bt.O} (w : World) (hs : s.size ≤ 1099511627776) (hE : Errs ad w) (hD : Bt.decD s.data.toList = .inr os) :
    Calls Tryd.prog 19 #[.string s] w fun e w' => ∃ v, e = .returned (.tuple #[v, .nilIface]) ∧ NewO w w' v os := by
  have h := decode12_any ad s w hs hE
  rw [hD] at h
  exact h
theorem decode12_err (ad : Nat → Addr) {s : ByteArray} {er : Nat} (w : World) (hs : s.size ≤ 1099511627776) (hE : Errs ad w) (hD : Bt.decD s.data.toList = .inl er) :
    Calls Tryd.prog 19 #[.string s] w fun e w' => e = .returned (.tuple #[.slice none 0 0, .iface 155 (.pointer (some (ad er)))]) ∧ Qt w w' := by
  have h := decode12_any ad s w hs hE
  rw [hD] at h
  have hx := Bt.decD_err hD
  have he : errV ad er = .iface 155 (.pointer (some (ad er))) := errV_pos ad (by unfold Bt.ErrN at hx; omega)
  rw [← he]
  exact h
theorem strV_data (s : ByteArray) : strV s.data.toList = .string s := by
  show Value.string ⟨s.data.toList.toArray⟩ = .string s
  rw [Array.toArray_toList]
theorem Errs.qt {ad : Nat → Addr} {w w' : World} (h : Errs ad w) (q : Qt w w') : Errs ad w' := h.kept q (OffErrs.none ad)
end Go.Proofs.YtffjleceogablaaDoor
