/-
  Num, beside a disk of the law's own.
-/
import Derived.Test.YtnnkibhlildojaaDoorDOwn
import Derived.Test.YtnnkibhlildojaaDoorNum
namespace Go.Proofs.YtnnkibhlildojaaDoor
open Go.RowKit Go.WideShapes
set_option maxRecDepth 100000

section
variable {ad : Nat → Addr} {w0 w : World} {b : Nat} {d : DS}
theorem own_num (hE : Errs ad w0) (hS : Since w0.heap.size w0 w) (h : Own w0.heap.size w b d) (n : Nat) (hn : n ≤ 37) :
    Calls Tryd.prog 13 #[errV ad n] w fun e w' => e = .returned (.int .i64 n) ∧ Own w0.heap.size w' b d ∧ Since w0.heap.size w0 w' ∧ Qt w w' := by
  refine (num_any ad n w (errs_since hE hS) hn).mono ?_
  rintro e w' ⟨he, hQ⟩
  exact ⟨he, h.qt hQ, hS.step hQ (fun _ h => h.elim), hQ⟩
end
end Go.Proofs.YtnnkibhlildojaaDoor
