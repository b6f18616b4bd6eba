/-
  A disk of the law's own: its contracts, over the world in which the law began.
-/
import Derived.Test.YtnnkibhlildojaaDoorDAny
namespace Go.Proofs.YtnnkibhlildojaaDoor
open Go.RowKit Go.WideShapes
set_option maxRecDepth 100000

section
variable {ad : Nat → Addr} {w0 w : World} {b : Nat} {d : DS}

theorem errs_since (hE : Errs ad w0) (hS : Since w0.heap.size w0 w) : Errs ad w := hE.kept hS (OffErrs.of_ge hE (fun _ h => h))
theorem off_since (hE : Errs ad w0) : OffErrs ad (fun k => w0.heap.size ≤ k) := OffErrs.of_ge hE (fun _ h => h)

theorem own_new (hS : Since w0.heap.size w0 w) (n : Nat) (h1 : 1 ≤ n) (h2 : n ≤ 65536) :
    Calls Tryd.prog 21 #[.int .i64 n] w fun e w' => ∃ b, e = .returned (.tuple #[.pointer (some ⟨b, 0, none⟩), .nilIface]) ∧ Own w0.heap.size w' b (DS.newD n) ∧ Since w0.heap.size w0 w' := by
  refine (new_ok n w h1 h2).mono ?_
  rintro e w' ⟨he, hD, hQ⟩
  exact ⟨_, he, Own.grow hS.size (fun _ h => h.elim) hD, hS.step hQ (fun _ h => h.elim)⟩

theorem own_write (hE : Errs ad w0) (hS : Since w0.heap.size w0 w) (h : Own w0.heap.size w b d) (hf : d.Few) (i : Int) (s : ByteArray) :
    Calls Tryd.prog 32 #[.pointer (some ⟨b, 0, none⟩), .int .i64 i, .string s] w fun e w' => e = .returned (errV ad (d.writeE i (strL s))) ∧ Own w0.heap.size w' b (d.writeD i (strL s)) ∧ Since w0.heap.size w0 w' := by
  refine (write_any ad (errs_since hE hS) (off_since hE) h hf i s).mono ?_
  rintro e w' ⟨he, hD, hK⟩
  exact ⟨he, Own.grow hS.size (fun _ h => h) hD, hS.step hK (fun _ h => h)⟩

theorem own_flush (hE : Errs ad w0) (hS : Since w0.heap.size w0 w) (h : Own w0.heap.size w b d) (hf : d.Few) :
    Calls Tryd.prog 33 #[.pointer (some ⟨b, 0, none⟩)] w fun e w' => e = .returned (errV ad d.flushE) ∧ Own w0.heap.size w' b d.flushD ∧ Since w0.heap.size w0 w' := by
  refine (flush_any ad (errs_since hE hS) (off_since hE) h hf).mono ?_
  rintro e w' ⟨he, hD, hK⟩
  exact ⟨he, Own.grow hS.size (fun _ h => h) hD, hS.step hK (fun _ h => h)⟩

theorem own_arm (hS : Since w0.heap.size w0 w) (h : Own w0.heap.size w b d) (k : Int) (hk : k ≤ 9223372036854775807) :
    Calls Tryd.prog 15 #[.pointer (some ⟨b, 0, none⟩), .int .i64 k] w fun e w' => e = .returned (.tuple #[]) ∧ Own w0.heap.size w' b (d.armD k) ∧ Since w0.heap.size w0 w' := by
  refine (arm_any h k hk).mono ?_
  rintro e w' ⟨he, hD, hK⟩
  exact ⟨he, Own.grow hS.size (fun _ h => h) hD, hS.step hK (fun _ h => h)⟩

theorem own_crash (hS : Since w0.heap.size w0 w) (h : Own w0.heap.size w b d) (hf : d.Few) (v : Value) (f : FT) (hv : Bools w v f.kept) (hb : ∀ a n c, v = .slice (some a) n c → n ≠ 0 → a.block < w0.heap.size) :
    Calls Tryd.prog 20 #[.pointer (some ⟨b, 0, none⟩), fateV v f] w fun e w' => e = .returned (.tuple #[]) ∧ Own w0.heap.size w' b (d.crashD f) ∧ Since w0.heap.size w0 w' := by
  refine (crash_any w b d _ h hf v f hv (fun a n c e n0 k => by have := hb a n c e n0; omega)).mono ?_
  rintro e w' ⟨he, hD, hK⟩
  exact ⟨he, Own.grow hS.size (fun _ h => h) hD, hS.step hK (fun _ h => h)⟩

theorem own_read (hE : Errs ad w0) (hS : Since w0.heap.size w0 w) (h : Own w0.heap.size w b d) (i : Int) :
    Calls Tryd.prog 22 #[.pointer (some ⟨b, 0, none⟩), .int .i64 i] w fun e w' => e = .returned (.tuple #[.string ⟨(d.readE i).toArray⟩, errV ad (d.reach i)]) ∧ w = w' := read_any ad (errs_since hE hS) h i

theorem own_image (hS : Since w0.heap.size w0 w) (h : Own w0.heap.size w b d) :
    Calls Tryd.prog 14 #[.pointer (some ⟨b, 0, none⟩)] w fun e w' => e = .returned (.string ⟨d.image.toArray⟩) ∧ Own w0.heap.size w' b d ∧ Since w0.heap.size w0 w' ∧ Qt w w' := by
  refine (image_any w b d _ h).mono ?_
  rintro e w' ⟨he, hQ⟩
  exact ⟨he, h.qt hQ, hS.step hQ (fun _ h => h.elim), hQ⟩

end
end Go.Proofs.YtnnkibhlildojaaDoor
