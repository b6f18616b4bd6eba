/-
  Joined: SImage, SWrite, SFlush, SCrash, SNew, DOwn, SPair, SSize, VRef.
-/
import Derived.Test.YthjjfjhajadimaaGreatDoorP12
namespace Go.Proofs.YthjjfjhajadimaaGreatDoor
open Go.RowKit Go.WideShapes
set_option maxRecDepth 100000
end Go.Proofs.YthjjfjhajadimaaGreatDoor
namespace Go.Proofs.YthjjfjhajadimaaGreatDoor
open Go.RowKit
set_option maxRecDepth 100000
end Go.Proofs.YthjjfjhajadimaaGreatDoor
namespace Go.Proofs.YthjjfjhajadimaaGreatDoor
open Go.RowKit Go.WideShapes
set_option maxRecDepth 100000
def roomZ (n : Int) : Int := 234 * min (max n 0) 65536
def secsZ (x : Int) : Int := if x <= 0 then 0 else (x - 1) / 234 + 1
theorem roomZ_nat (n : Int) : roomZ n = ((234 * min n.toNat 65536 : Nat) : Int) := by unfold roomZ; omega
theorem secsZ_nat (n : Nat) : secsZ (n : Int) = ((V.nsec n : Nat) : Int) := by unfold secsZ V.nsec; split <;> omega
theorem refRoom_any (n : Int) (w : World) : Calls Tryz.prog 31 #[.int .i64 n] w fun e w' => e = .returned (.int .i64 (roomZ n)) /\ w' = w := by
 by_cases h0 : n <= 0
 ·have FIN := Lib.hid (show roomZ n = 0 by unfold roomZ; omega)
  have z : max n 0 = 0 := by omega
  go_enter Tryz.func31, Tryz.ntmps31
  go_wp2
  go_ret
  exact ⟨by rw [FIN.out]; rfl, rfl⟩
 ·by_cases h1 : n <= 65536
  ·have FIN := Lib.hid (show roomZ n = 234 * n by unfold roomZ; omega)
   have z : max n 0 = n := by omega
   have z2 : min n 65536 = n := by omega
   go_enter Tryz.func31, Tryz.ntmps31
   go_wp2
   go_ret
   exact ⟨by rw [FIN.out]; rfl, rfl⟩
  ·have FIN := Lib.hid (show roomZ n = 15335424 by unfold roomZ; omega)
   have z : max n 0 = n := by omega
   have z2 : min n 65536 = 65536 := by omega
   go_enter Tryz.func31, Tryz.ntmps31
   go_wp2
   go_ret
   exact ⟨by rw [FIN.out]; rfl, rfl⟩
end Go.Proofs.YthjjfjhajadimaaGreatDoor
