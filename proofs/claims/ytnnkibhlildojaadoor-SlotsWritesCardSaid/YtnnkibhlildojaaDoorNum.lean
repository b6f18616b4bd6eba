/-
  The contract of remitnum.Num.
-/
import Derived.Test.YtnnkibhlildojaaDoorErrs
import Derived.Test.YtnnkibhlildojaaDoorCompErr
import Derived.LaidEql
import Derived.LoopTactic
namespace Go.Proofs.YtnnkibhlildojaaDoor
open Go.RowKit
set_option maxRecDepth 100000

theorem errArr_get (ad : Nat → Addr) {k : Nat} (hk : k < 37) : (errArr ad)[k]? = some (.iface 104 (.pointer (some (ad (k + 1))))) := by
  simp [errArr, hk]

theorem run_index_errs (ad : Nat → Addr) {k : Nat} (hk : k < 37) (w : World) : (Instr.index 69 (.agg (errArr ad)) (.int .i64 k)).run Tryd.prog w = .ok (.iface 104 (.pointer (some (ad (k + 1))))) w := by
  have h1 : Tryd.prog.underlying 69 = some (.array 37 26) := Tryd.underlying69
  have hg := errArr_get ad hk
  simp [Instr.index, run_underlying h1, asIntOf, hk, part, hg]

theorem num_nil (w : World) : Calls Tryd.prog 13 #[.nilIface] w fun e w' => e = .returned (.int .i64 0) ∧ w = w' := by
  go_enter Tryd.func13, Tryd.ntmps13
  go_wp2
  go_ret
  exact ⟨rfl, rfl⟩

set_option maxHeartbeats 400000 in
theorem num_pos (ad : Nat → Addr) (n : Nat) (w : World) (hE : Errs ad w) (h1 : n < 37) :
    Calls Tryd.prog 13 #[.iface 104 (.pointer (some (ad (n + 1))))] w fun e w' => e = .returned (.int .i64 ((n + 1 : Nat) : Int)) ∧ Keeps (fun _ => False) w w' := by
  obtain ⟨i, hi, hcmp⟩ := Option.map_eq_some_iff.1 compErr
  obtain ⟨j, hj, hjs⟩ := Option.map_eq_some_iff.1 sizeErr
  go_enter Tryd.func13, Tryd.ntmps13
  go_wp2_with fail
  refine (list_any ad w hE).mono ?_
  rintro e w1 ⟨rfl, hk⟩
  have hE1 := Lib.hid (hE.kept hk (OffErrs.none ad))
  have hk' := Lib.hid hk; clear hk hE
  have hidx := Lib.hid (fun (k : Nat) (hk : k < 37) => run_index_errs ad hk w1)
  generalize errArr ad = L at *
  go_wp2
  go_loop [3, 4, 8] (fun _ _ x => ∃ k : Nat, k ≤ n ∧ x = .int .i64 k) (fun _ _ x => 37 - (intOf x).toNat)
  case atStart => exact ⟨0, Nat.zero_le _, rfl⟩
  case round =>
    obtain ⟨k, hk, rfl⟩ := hrel
    have hk37 : k < 37 := by omega
    have hix := hidx.out k hk37
    obtain ⟨ca, ta, hca⟩ := hE1.out.blk n h1
    obtain ⟨cb, tb, hcb⟩ := hE1.out.blk k hk37
    by_cases he : k = n
    · subst he
      have heq := run_eql_iface_ptr_same (P := Tryd.prog) w1 (ad (k + 1)) Tryd.underlying26 Tryd.underlying104 hi hcmp hj
      go_wp2
      go_ret
      exact ⟨by simp, hk'.out⟩
    · have hne : ad (n + 1) ≠ ad (k + 1) := fun e => he (hE1.out.apart n k h1 hk37 e).symm
      have heq := run_eql_iface_ptr_other (P := Tryd.prog) w1 Tryd.underlying26 Tryd.underlying104 hi hcmp hj (by rw [hjs]; decide) hne hca hcb
      have hkn : k < n := by omega
      clear hne he hca hcb
      go_wp2
      go_round
      case rel => exact ⟨k + 1, by omega, by go_num⟩
      case measure => simp [intOf]; omega

theorem num_any (ad : Nat → Addr) (n : Nat) (w : World) (hE : Errs ad w) (h : n ≤ 37) :
    Calls Tryd.prog 13 #[errV ad n] w fun e w' => e = .returned (.int .i64 n) ∧ Keeps (fun _ => False) w w' := by
  cases n with
  | zero => exact (num_nil w).mono fun _ _ ⟨he, hw⟩ => ⟨he, hw ▸ Keeps.refl _ _⟩
  | succ n =>
    rw [errV_pos ad (by omega)]
    exact num_pos ad n w hE (by omega)
end Go.Proofs.YtnnkibhlildojaaDoor
