/-
  Joined: SImage, SWrite, SFlush, SCrash, SNew, DOwn, SPair, SSize, VRef.
-/
import Derived.Test.YthjjfjhajadimaaGreatDoorP10
namespace Go.Proofs.YthjjfjhajadimaaGreatDoor
open Go.RowKit Go.WideShapes
set_option maxRecDepth 100000
end Go.Proofs.YthjjfjhajadimaaGreatDoor
namespace Go.Proofs.YthjjfjhajadimaaGreatDoor
open Go.RowKit
set_option maxRecDepth 100000
end Go.Proofs.YthjjfjhajadimaaGreatDoor
namespace Go.Proofs.YthjjfjhajadimaaGreatDoor
open Go.RowKit Go.WideShapes
set_option maxRecDepth 100000
def roomZ (n:Int):Int:=234 * min (max n 0) 65536
def secsZ (x:Int):Int:=if x<=0 then 0 else (x - 1) / 234 + 1
theorem roomZ_nat (n:Int):roomZ n = ((234 * min n.toNat 65536:Nat):Int):=by unfold roomZ; omega
theorem secsZ_nat (n:Nat):secsZ (n:Int) = ((V.nsec n:Nat):Int):=by unfold secsZ V.nsec; split <;> omega
end Go.Proofs.YthjjfjhajadimaaGreatDoor
