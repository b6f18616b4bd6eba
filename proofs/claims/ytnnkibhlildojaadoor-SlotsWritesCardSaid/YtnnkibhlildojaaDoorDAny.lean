/-
  A disk's contracts by its blocks.
-/
import Derived.Test.YtnnkibhlildojaaDoorDImage
namespace Go.Proofs.YtnnkibhlildojaaDoor
open Go.RowKit Go.WideShapes
set_option maxRecDepth 100000

section
variable {w : World} {b : Nat} {d : DS} {S : Nat → Prop}
theorem off_any (h : DiskAt w b d S) : Calls Tryd.prog 18 #[.pointer (some ⟨b, 0, none⟩)] w fun e w' => e = .returned (.bool d.off) ∧ w = w' := by
  obtain ⟨gd, mb, uv, h, hS⟩ := h; exact off_p h
theorem size_any (h : DiskAt w b d S) : Calls Tryd.prog 38 #[.pointer (some ⟨b, 0, none⟩)] w fun e w' => e = .returned (.int .i64 d.dur.length) ∧ w = w' := by
  obtain ⟨gd, mb, uv, h, hS⟩ := h; exact size_p h
theorem pending_any (h : DiskAt w b d S) : Calls Tryd.prog 19 #[.pointer (some ⟨b, 0, none⟩)] w fun e w' => e = .returned (.int .i64 d.ways.length) ∧ w = w' := by
  obtain ⟨gd, mb, uv, h, hS⟩ := h; exact pending_p h
theorem counts_any (h : DiskAt w b d S) : Calls Tryd.prog 12 #[.pointer (some ⟨b, 0, none⟩)] w fun e w' => e = .returned (.tuple #[.int .i64 d.wr, .int .i64 d.fl]) ∧ Qt w w' := by
  obtain ⟨gd, mb, uv, h, hS⟩ := h
  refine (counts_p h).mono ?_
  rintro e w' ⟨he, n, rfl⟩
  exact ⟨he, (Qt.refl w).drewN n⟩
theorem arm_any (h : DiskAt w b d S) (k : Int) (hk : k ≤ 9223372036854775807) : Calls Tryd.prog 15 #[.pointer (some ⟨b, 0, none⟩), .int .i64 k] w fun e w' => e = .returned (.tuple #[]) ∧ DiskAt w' b (d.armD k) (Grow S w w') ∧ Keeps S w w' := by
  obtain ⟨gd, mb, uv, h, hS⟩ := h
  refine (arm_p h k hk).mono ?_
  rintro e w' ⟨he, hP, hK⟩
  exact ⟨he, ⟨gd, mb, uv, hP, fun j hj => .inl (hS j hj)⟩, hK.mono (fun j _ e => by subst e; exact hS j (.inl rfl))⟩
end

/-- A disk of the call's own: all its blocks are new since B. -/
def Own (B : Nat) (w : World) (b : Nat) (d : DS) : Prop := DiskAt w b d (fun k => B ≤ k)
theorem Own.grow {B : Nat} {w w' : World} {b : Nat} {d : DS} {S : Nat → Prop} (hB : B ≤ w.heap.size) (hS : ∀ k, S k → B ≤ k) (h : DiskAt w' b d (Grow S w w')) : Own B w' b d := h.mono (fun k hk => by rcases hk with hk | ⟨hk, _⟩; exact hS k hk; omega)
theorem Own.qt {B : Nat} {w w' : World} {b : Nat} {d : DS} (h : Own B w b d) (q : Qt w w') : Own B w' b d := DiskAt.qt h q
end Go.Proofs.YtnnkibhlildojaaDoor
