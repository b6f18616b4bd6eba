/-
  The table of package checks, out of a row's list.
-/
import Derived.Test.YtnnkibhlildojaaDoorLaidB
import Derived.Test.YtnnkibhlildojaaDoorCExt
namespace Go.Proofs.YtnnkibhlildojaaDoor
open Go.ChangeShapes Go.WideShapes Go.ChangeAt Go.RowKit
set_option maxRecDepth 100000

theorem tab_of {W : World} (h : laidMet Tryd.prog [("remit/checks.steps", (Rows.laid_remit_checks_steps : DataW Unit))] W) : Tab W := by
  have h1 := Lib.tabIs_of_head (P := Tryd.prog) (W := W) (name := "remit/checks.steps") (k := .u32) (zs := C.tab.map Int.ofNat) (rest := []) (g := 38) (t := 103) (e := 94) (n := 16) (by kernel_rfl) (by kernel_rfl) Tryd.underlying103 Tryd.underlying94 (by kernel_rfl) (by kernel_rfl) h
  intro k hk
  have h2 := h1.cell (g := 38) (by kernel_rfl) k (by simpa [C.tab] using hk)
  rw [h2]
  congr 2
  have : ∀ k < 16, (C.tab.map Int.ofNat).getD k 0 = ((C.tab.getD k 0 : Nat) : Int) := by decide
  exact this k hk
end Go.Proofs.YtnnkibhlildojaaDoor
