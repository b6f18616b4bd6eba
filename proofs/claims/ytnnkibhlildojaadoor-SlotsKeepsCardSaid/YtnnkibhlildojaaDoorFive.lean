/-
  Five errors: package api's variables that slots' calls name (the same names as of all: import one or the other).
-/
import Derived.Test.YtnnkibhlildojaaDoorOwn
import Derived.Deep.MidRow
namespace Go.Proofs.YtnnkibhlildojaaDoor
open Go.RowKit
set_option maxRecDepth 100000

/-- The variables' numbers, by the error's number less 1. -/
def gErrs : List (Option Nat) := [none, none, some 2, none, none, some 4, some 3, none, none, none, none, some 0, none, some 1]

/-- The errors' variables hold pointers to texts; ad: where the text of error n lies. -/
structure Errs (ad : Nat → Addr) (w : World) : Prop where
  cells : ∀ i g, gErrs[i]? = some (some g) → w.cell? ⟨g, 0, none⟩ = some (.iface 104 (.pointer (some (ad (i + 1)))))

/-- The error of number n (0: none). -/
def errV (ad : Nat → Addr) (n : Nat) : Value := if n = 0 then .nilIface else .iface 104 (.pointer (some (ad n)))
theorem errV_zero (ad : Nat → Addr) : errV ad 0 = .nilIface := rfl
theorem errV_pos (ad : Nat → Addr) {n : Nat} (h : 0 < n) : errV ad n = .iface 104 (.pointer (some (ad n))) := if_neg (by omega)

/-- No error's variable lies in a block of S. -/
structure OffErrs (ad : Nat → Addr) (S : Nat → Prop) : Prop where
  vars : ∀ g, some g ∈ gErrs → ¬ S g
  texts : ad 0 = ad 0
theorem OffErrs.none (ad : Nat → Addr) : OffErrs ad (fun _ => False) := ⟨fun _ _ h => h, rfl⟩
theorem OffErrs.mono {ad : Nat → Addr} {S T : Nat → Prop} (h : OffErrs ad S) (k : ∀ i, T i → S i) : OffErrs ad T := ⟨fun g hg ht => h.vars g hg (k g ht), rfl⟩
theorem Errs.kept {ad : Nat → Addr} {S : Nat → Prop} {w w' : World} (h : Errs ad w) (hk : Keeps S w w') (hS : OffErrs ad S) : Errs ad w' := by
  refine ⟨fun i g hg => ?_⟩
  have hc := h.cells i g hg
  rw [hk.cell (World.block_lt_of_cell? w _ hc) (hS.vars g (List.mem_of_getElem? hg))]
  exact hc
theorem Errs.drewN {ad : Nat → Addr} {w : World} (h : Errs ad w) (n : Nat) : Errs ad (w.drewN n) := ⟨h.cells⟩
theorem Errs.drew {ad : Nat → Addr} {w : World} (h : Errs ad w) : Errs ad w.drew := ⟨h.cells⟩
theorem Errs.alloc {ad : Nat → Addr} {w : World} (h : Errs ad w) (o : Obj) : Errs ad (w.alloc o) := h.kept (S := fun _ => False) ((Keeps.refl _ _).alloc o) (OffErrs.none ad)
end Go.Proofs.YtnnkibhlildojaaDoor
