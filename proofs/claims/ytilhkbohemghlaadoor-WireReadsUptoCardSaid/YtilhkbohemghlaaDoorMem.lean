/-
  The contracts of remitmem.Mark, Word, SpareTexts, KeptTexts: memory that statements ask about.
-/
import Derived.Test.YtilhkbohemghlaaDoorRefW
import Derived.OwnWalk
import Derived.Deep.RegionHeld
namespace Go.Proofs.YtilhkbohemghlaaDoor
open Go.ChangeShapes Go.WideShapes Go.ChangeAt Go.RowKit
set_option maxRecDepth 100000

set_option maxHeartbeats 800000 in
theorem mark_any (i j : Int) : ∃ m : Int, ∀ w, Calls Tryd.prog 76 #[.int .i64 i, .int .i64 j] w fun e w' => e = .returned (.int .i64 m) ∧ w = w' := by
  apply Exists.intro
  intro w
  go_enter Tryd.func76, Tryd.ntmps76
  go_wp2
  go_ret
  exact ⟨rfl, rfl⟩

theorem conv4 (W : World) (a b c d : Int) : (convert 26 9 (.slice (some ⟨W.heap.size, 0, none⟩) 4 4)).run Tryd.prog (W.alloc (.cells #[.int .u8 a, .int .u8 b, .int .u8 c, .int .u8 d] 5)) = .ok (.string ⟨[a.toNat.toUInt8, b.toNat.toUInt8, c.toNat.toUInt8, d.toNat.toUInt8].toArray⟩) (W.alloc (.cells #[.int .u8 a, .int .u8 b, .int .u8 c, .int .u8 d] 5)) := conv_cells W [a, b, c, d] 4 rfl

set_option maxHeartbeats 800000 in
theorem word_any (i j : Int) : ∃ l : List UInt8, ∀ w, Calls Tryd.prog 62 #[.int .i64 i, .int .i64 j] w fun e w' => e = .returned (.string ⟨l.toArray⟩) ∧ Keeps (fun _ => False) w w' := by
  obtain ⟨m, hm⟩ := mark_any i j
  have hcv := fun (W : World) (a b c d : Int) => conv4 W a b c d
  apply Exists.intro
  intro w
  have hk := Lib.hid (fun o => (Keeps.refl (fun _ => False) w).alloc o)
  go_enter Tryd.func62, Tryd.ntmps62
  go_wp2_with fail
  refine (hm w).mono ?_
  rintro e w' ⟨rfl, rfl⟩
  go_wp2
  go_ret
  exact ⟨rfl, hk.out _⟩
end Go.Proofs.YtilhkbohemghlaaDoor
