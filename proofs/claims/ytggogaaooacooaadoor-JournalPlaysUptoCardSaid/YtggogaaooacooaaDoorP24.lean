/-
  Frames behind a quiet call.
  What calls over a disk may turn: a set of blocks; disk's contracts by it.
  The contract of remitnum.Num.
-/
import Derived.Test.YtggogaaooacooaaDoorP08
import Derived.Test.YtggogaaooacooaaDoorP17
import Derived.Test.YtggogaaooacooaaDoorP19
import Derived.Test.YtggogaaooacooaaDoorP07
import Derived.LaidEql
import Derived.LoopTactic
namespace Go.Proofs.YtggogaaooacooaaDoor
open Go.RowKit
set_option maxRecDepth 100000

theorem keeps_qt {S : Nat → Prop} {w0 w w' : World} (h : Keeps S w0 w) (q : Qt w w') : Keeps S w0 w' := Keeps.trans h q (fun _ _ e => e.elim)
theorem since_qt {w0 w w' : World} (h : Since w0.heap.size w0 w) (q : Qt w w') : Since w0.heap.size w0 w' := keeps_qt h q
end Go.Proofs.YtggogaaooacooaaDoor
namespace Go.Proofs.YtggogaaooacooaaDoor
open Go.RowKit Go.WideShapes
set_option maxRecDepth 100000

/-- What may turn: S; all new blocks are of it, no error's variable, none of their texts and no table. -/
structure Room (ad : Nat → Addr) (S : Nat → Prop) (w0 : World) : Prop where
  errs : Errs ad w0
  tab : Tab w0
  off : OffErrs ad S
  offTab : ¬ S 38
  up : ∀ k, w0.heap.size ≤ k → S k
section
variable {ad : Nat → Addr} {S : Nat → Prop} {w0 w : World} {b : Nat} {d : DS}
theorem Room.errs' (R : Room ad S w0) (hS : Keeps S w0 w) : Errs ad w := R.errs.kept hS R.off
theorem Room.tab' (R : Room ad S w0) (hS : Keeps S w0 w) : Tab w := fun k hk => hS.cellv (R.tab k hk) R.offTab
theorem Room.of (hE : Errs ad w0) (hT : Tab w0) : Room ad (fun k => w0.heap.size ≤ k) w0 :=
  ⟨hE, hT, off_since hE, fun h => by have := World.block_lt_of_cell? w0 _ (hT 0 (by decide)); simp only at this; omega, fun _ h => h⟩
theorem Room.disk (R : Room ad S w0) {w' : World} (hS : Keeps S w0 w) (h : DiskAt w' b d (Grow S w w')) : DiskAt w' b d S :=
  h.mono (fun k hk => by
    rcases hk with hk | ⟨hk, _⟩
    · exact hk
    · exact R.up k (Nat.le_trans hS.size hk))
theorem Room.keeps {w' : World} (hS : Keeps S w0 w) (h : Keeps S w w') : Keeps S w0 w' := Keeps.trans hS h (fun _ _ e => e)
theorem room_arm (R : Room ad S w0) (hS : Keeps S w0 w) (h : DiskAt w b d S) (k : Int) (hk : k ≤ 9223372036854775807) :
    Calls Tryd.prog 36 #[.pointer (some ⟨b, 0, none⟩), .int .i64 k] w fun e w' => e = .returned (.tuple #[]) ∧ DiskAt w' b (d.armD k) S ∧ Keeps S w0 w' := by
  refine (arm_any h k hk).mono ?_
  rintro e w' ⟨he, hD, hK⟩
  exact ⟨he, R.disk hS hD, Room.keeps hS hK⟩
theorem room_write (R : Room ad S w0) (hS : Keeps S w0 w) (h : DiskAt w b d S) (hf : d.Few) (i : Int) (s : ByteArray) :
    Calls Tryd.prog 33 #[.pointer (some ⟨b, 0, none⟩), .int .i64 i, .string s] w fun e w' => e = .returned (errV ad (d.writeE i (strL s))) ∧ DiskAt w' b (d.writeD i (strL s)) S ∧ Keeps S w0 w' := by
  refine (write_any ad (R.errs' hS) R.off h hf i s).mono ?_
  rintro e w' ⟨he, hD, hK⟩
  exact ⟨he, R.disk hS hD, Room.keeps hS hK⟩
theorem room_flush (R : Room ad S w0) (hS : Keeps S w0 w) (h : DiskAt w b d S) (hf : d.Few) :
    Calls Tryd.prog 69 #[.pointer (some ⟨b, 0, none⟩)] w fun e w' => e = .returned (errV ad d.flushE) ∧ DiskAt w' b d.flushD S ∧ Keeps S w0 w' := by
  refine (flush_any ad (R.errs' hS) R.off h hf).mono ?_
  rintro e w' ⟨he, hD, hK⟩
  exact ⟨he, R.disk hS hD, Room.keeps hS hK⟩
theorem room_crash (R : Room ad S w0) (hS : Keeps S w0 w) (h : DiskAt w b d S) (hf : d.Few) (v : Value) (f : FT) (hv : Bools w v f.kept) (hb : ∀ a n c, v = .slice (some a) n c → n ≠ 0 → ¬ S a.block) :
    Calls Tryd.prog 38 #[.pointer (some ⟨b, 0, none⟩), fateV v f] w fun e w' => e = .returned (.tuple #[]) ∧ DiskAt w' b (d.crashD f) S ∧ Keeps S w0 w' := by
  refine (crash_any w b d _ h hf v f hv hb).mono ?_
  rintro e w' ⟨he, hD, hK⟩
  exact ⟨he, R.disk hS hD, Room.keeps hS hK⟩
theorem room_read (R : Room ad S w0) (hS : Keeps S w0 w) (h : DiskAt w b d S) (i : Int) :
    Calls Tryd.prog 92 #[.pointer (some ⟨b, 0, none⟩), .int .i64 i] w fun e w' => e = .returned (.tuple #[.string ⟨(d.readE i).toArray⟩, errV ad (d.reach i)]) ∧ w = w' := read_any ad (R.errs' hS) h i
end
end Go.Proofs.YtggogaaooacooaaDoor
namespace Go.Proofs.YtggogaaooacooaaDoor
open Go.RowKit
set_option maxRecDepth 100000

theorem errArr_get (ad : Nat → Addr) {k : Nat} (hk : k < 37) : (errArr ad)[k]? = some (.iface 168 (.pointer (some (ad (k + 1))))) := by
  simp [errArr, hk]

theorem run_index_errs (ad : Nat → Addr) {k : Nat} (hk : k < 37) (w : World) : (Instr.index 85 (.agg (errArr ad)) (.int .i64 k)).run Tryd.prog w = .ok (.iface 168 (.pointer (some (ad (k + 1))))) w := by
  have h1 : Tryd.prog.underlying 85 = some (.array 37 26) := Tryd.underlying85
  have hg := errArr_get ad hk
  simp [Instr.index, run_underlying h1, asIntOf, hk, part, hg]

theorem num_nil (w : World) : Calls Tryd.prog 11 #[.nilIface] w fun e w' => e = .returned (.int .i64 0) ∧ w = w' := by
  go_enter Tryd.func11, Tryd.ntmps11
  go_wp2
  go_ret
  exact ⟨rfl, rfl⟩

set_option maxHeartbeats 400000 in
theorem num_pos (ad : Nat → Addr) (n : Nat) (w : World) (hE : Errs ad w) (h1 : n < 37) :
    Calls Tryd.prog 11 #[.iface 168 (.pointer (some (ad (n + 1))))] w fun e w' => e = .returned (.int .i64 ((n + 1 : Nat) : Int)) ∧ Keeps (fun _ => False) w w' := by
  obtain ⟨i, hi, hcmp⟩ := Option.map_eq_some_iff.1 compErr
  obtain ⟨j, hj, hjs⟩ := Option.map_eq_some_iff.1 sizeErr
  go_enter Tryd.func11, Tryd.ntmps11
  go_wp2_with fail
  refine (list_any ad w hE).mono ?_
  rintro e w1 ⟨rfl, hk⟩
  have hE1 := Lib.hid (hE.kept hk (OffErrs.none ad))
  have hk' := Lib.hid hk; clear hk hE
  have hidx := Lib.hid (fun (k : Nat) (hk : k < 37) => run_index_errs ad hk w1)
  generalize errArr ad = L at *
  go_wp2
  go_loop [3, 4, 8] (fun _ _ x => ∃ k : Nat, k ≤ n ∧ x = .int .i64 k) (fun _ _ x => 37 - (intOf x).toNat)
  case atStart => exact ⟨0, Nat.zero_le _, rfl⟩
  case round =>
    obtain ⟨k, hk, rfl⟩ := hrel
    have hk37 : k < 37 := by omega
    have hix := hidx.out k hk37
    obtain ⟨ca, ta, hca⟩ := hE1.out.blk n h1
    obtain ⟨cb, tb, hcb⟩ := hE1.out.blk k hk37
    by_cases he : k = n
    · subst he
      have heq := run_eql_iface_ptr_same (P := Tryd.prog) w1 (ad (k + 1)) Tryd.underlying26 Tryd.underlying168 hi hcmp hj
      go_wp2
      go_ret
      exact ⟨by simp, hk'.out⟩
    · have hne : ad (n + 1) ≠ ad (k + 1) := fun e => he (hE1.out.apart n k h1 hk37 e).symm
      have heq := run_eql_iface_ptr_other (P := Tryd.prog) w1 Tryd.underlying26 Tryd.underlying168 hi hcmp hj (by rw [hjs]; decide) hne hca hcb
      have hkn : k < n := by omega
      clear hne he hca hcb
      go_wp2
      go_round
      case rel => exact ⟨k + 1, by omega, by go_num⟩
      case measure => simp [intOf]; omega

theorem num_any (ad : Nat → Addr) (n : Nat) (w : World) (hE : Errs ad w) (h : n ≤ 37) :
    Calls Tryd.prog 11 #[errV ad n] w fun e w' => e = .returned (.int .i64 n) ∧ Keeps (fun _ => False) w w' := by
  cases n with
  | zero => exact (num_nil w).mono fun _ _ ⟨he, hw⟩ => ⟨he, hw ▸ Keeps.refl _ _⟩
  | succ n =>
    rw [errV_pos ad (by omega)]
    exact num_pos ad n w hE (by omega)
end Go.Proofs.YtggogaaooacooaaDoor
