/-
  The errors' variables, three of them.
-/
import Derived.Test.YtnnkibhlildojaaDoorESeal
namespace Go.Proofs.YtnnkibhlildojaaDoor
open Go.RowKit
set_option maxRecDepth 100000

theorem Errs.e3 {ad : Nat → Addr} {w : World} (h : Errs ad w) : E3 (ad 6) (ad 3) (ad 7) w := ⟨h.cells 5 _ rfl, h.cells 2 _ rfl, h.cells 6 _ rfl⟩
theorem e3V_errs (ad : Nat → Addr) {n : Nat} (h : n = 0 ∨ n = 3 ∨ n = 6 ∨ n = 7) : e3V (ad 6) (ad 3) (ad 7) n = errV ad n := by
  rcases h with rfl | rfl | rfl | rfl <;> rfl
end Go.Proofs.YtnnkibhlildojaaDoor
