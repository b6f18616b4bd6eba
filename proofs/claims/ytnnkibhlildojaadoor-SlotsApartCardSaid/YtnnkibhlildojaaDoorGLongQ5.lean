/-
  A value that is too long: what Seal and Write answer, and that nothing is written.
-/
import Derived.Test.YtnnkibhlildojaaDoorGCodeQ5
import Derived.Test.YtnnkibhlildojaaDoorESealQ5
import Derived.BigQuiet
namespace Go.Proofs.YtnnkibhlildojaaDoor
open Go.RowKit Go.WideShapes
set_option maxRecDepth 100000

theorem seal_long (el : Addr) (st : Nat) (s : ByteArray) (w : World) (h0 : st ≠ 0) (hs : 234 < s.size) (e3 : w.cell? ⟨2, 0, none⟩ = some (.iface 104 (.pointer (some el)))) :
    Calls Tryd.prog 31 #[.int .u64 st, .string s] w fun e w' => e = .returned (.tuple #[.string ⟨#[]⟩, .iface 104 (.pointer (some el))]) ∧ ∃ n, w' = w.drewN n := by
  have z0 : ((st : Int) == 0) = false := by rw [beq_eq_false_iff_ne]; omega
  have z1 : decide ((234 : Int) < (s.size : Int)) = true := decide_eq_true (by omega)
  clear h0 hs
  go_enter Tryd.func31, Tryd.ntmps31
  go_wp2
  go_quiet (fail)
  go_wp2
  go_ret2
  exact ⟨rfl, _, rfl⟩

theorem slotsWrite_long (el : Addr) {w : World} {b : Nat} {d : DS} {S : Nat → Prop} (h : DiskAt w b d S) (i v : Nat) (s : ByteArray) (hf : d.fitS i) (h1 : 1 ≤ v) (h2 : v ≤ 1099511627776) (hs : 234 < s.size) (e3 : w.cell? ⟨2, 0, none⟩ = some (.iface 104 (.pointer (some el)))) :
    Calls Tryd.prog 16 #[.pointer (some ⟨b, 0, none⟩), .int .i64 i, .int .i64 v, .string s] w fun e w' => e = .returned (.iface 104 (.pointer (some el))) ∧ ∃ n, w' = w.drewN n := by
  have FT := fits_d h i
  rw [decide_eq_true hf] at FT
  have SL := seal_long el v s w (by omega) hs e3
  have z0 : decide ((v : Int) < 1) = false := decide_eq_false (by omega)
  have z1 : decide (1099511627776 < (v : Int)) = false := decide_eq_false (by omega)
  have zc : IntKind.u64.wrap (v : Int) = (v : Int) := by rw [IntKind.wrap_u64]; omega
  clear hf h hs h1 h2 e3
  go_enter Tryd.func16, Tryd.ntmps16
  go_wp2_with fail
  refine FT.mono ?_
  rintro e w1 ⟨rfl, rfl⟩
  go_wp2_with fail
  refine SL.mono ?_
  rintro e w2 ⟨rfl, n, rfl⟩
  go_wp2
  go_ret
  exact ⟨rfl, n, rfl⟩
end Go.Proofs.YtnnkibhlildojaaDoor
