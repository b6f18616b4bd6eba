/-
  Conversions: 'string([]byte{a})', 'string([]byte{a, b})'.
-/
import Derived.Test.YtnnkibhlildojaaDoorOwn
import Derived.Laws.BytesArg
import Derived.Laws.BytesString
import Derived.Laws.Rows
namespace Go.Proofs.YtnnkibhlildojaaDoor
open Go.RowKit
set_option maxRecDepth 100000

/-- 'string([]byte{c})'. -/
theorem conv1 (W : World) (a : Int) : (convert 64 9 (.slice (some ⟨W.heap.size, 0, none⟩) 1 1)).run Tryd.prog (W.alloc (.cells #[.int .u8 a] 5)) = .ok (.string ⟨#[a.toNat.toUInt8]⟩) (W.alloc (.cells #[.int .u8 a] 5)) := by
  have h := run_convert_bytes_arg (P := Tryd.prog) (W.alloc (.cells #[.int .u8 a] 5)) 64 5 Tryd.underlying64 Tryd.underlying5 W.heap.size 0 1 1 [a] rfl (fun i hi => by
    have : i = 0 := by simpa using hi
    subst this
    rw [cell_of_row _ _ _ _ _ _ (heap_alloc_new W _)]; rfl) 9 Tryd.underlying9
  exact h
theorem conv1d (W : World) (a : Int) : (convert 64 9 (.slice (some ⟨W.heap.size, 0, none⟩) 1 1)).run Tryd.prog (W.alloc (.cells #[.int .u8 a] 5)).drew = .ok (.string ⟨#[a.toNat.toUInt8]⟩) (W.alloc (.cells #[.int .u8 a] 5)).drew := by
  have h := run_convert_bytes_arg (P := Tryd.prog) (W.alloc (.cells #[.int .u8 a] 5)).drew 64 5 Tryd.underlying64 Tryd.underlying5 W.heap.size 0 1 1 [a] rfl (fun i hi => by
    have : i = 0 := by simpa using hi
    subst this
    show (W.alloc (.cells #[.int .u8 a] 5)).cell? _ = _
    rw [cell_of_row _ _ _ _ _ _ (heap_alloc_new W _)]; rfl) 9 Tryd.underlying9
  exact h
/-- 'string([]byte{a, b})'. -/
theorem conv2 (W : World) (a b : Int) : (convert 64 9 (.slice (some ⟨W.heap.size, 0, none⟩) 2 2)).run Tryd.prog (W.alloc (.cells #[.int .u8 a, .int .u8 b] 5)) = .ok (.string ⟨#[a.toNat.toUInt8, b.toNat.toUInt8]⟩) (W.alloc (.cells #[.int .u8 a, .int .u8 b] 5)) := by
  have h := run_convert_bytes_arg (P := Tryd.prog) (W.alloc (.cells #[.int .u8 a, .int .u8 b] 5)) 64 5 Tryd.underlying64 Tryd.underlying5 W.heap.size 0 2 2 [a, b] rfl (fun i hi => by
    have : i = 0 ∨ i = 1 := by have h2 : i < 2 := hi; omega
    rcases this with rfl | rfl
    · rw [cell_of_row _ _ _ _ _ _ (heap_alloc_new W _)]; rfl
    · rw [cell_of_row _ _ _ _ _ _ (heap_alloc_new W _)]; rfl) 9 Tryd.underlying9
  exact h
theorem conv2d (W : World) (a b : Int) : (convert 64 9 (.slice (some ⟨W.heap.size, 0, none⟩) 2 2)).run Tryd.prog (W.alloc (.cells #[.int .u8 a, .int .u8 b] 5)).drew = .ok (.string ⟨#[a.toNat.toUInt8, b.toNat.toUInt8]⟩) (W.alloc (.cells #[.int .u8 a, .int .u8 b] 5)).drew := by
  have h := run_convert_bytes_arg (P := Tryd.prog) (W.alloc (.cells #[.int .u8 a, .int .u8 b] 5)).drew 64 5 Tryd.underlying64 Tryd.underlying5 W.heap.size 0 2 2 [a, b] rfl (fun i hi => by
    have : i = 0 ∨ i = 1 := by have h2 : i < 2 := hi; omega
    rcases this with rfl | rfl
    · show (W.alloc (.cells #[.int .u8 a, .int .u8 b] 5)).cell? _ = _
      rw [cell_of_row _ _ _ _ _ _ (heap_alloc_new W _)]; rfl
    · show (W.alloc (.cells #[.int .u8 a, .int .u8 b] 5)).cell? _ = _
      rw [cell_of_row _ _ _ _ _ _ (heap_alloc_new W _)]; rfl) 9 Tryd.underlying9
  exact h
end Go.Proofs.YtnnkibhlildojaaDoor
