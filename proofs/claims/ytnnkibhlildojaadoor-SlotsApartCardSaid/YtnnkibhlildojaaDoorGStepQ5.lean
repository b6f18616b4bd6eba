/-
  A Step of remitlaw08, plain.
-/
import Derived.Test.YtnnkibhlildojaaDoorDSmallQ5
namespace Go.Proofs.YtnnkibhlildojaaDoor
set_option maxRecDepth 100000

/-- A Step of remitlaw08. -/
structure StD where
  s : ByteArray
  arm : Int
  crash : Bool
  kv : Value
  f : FT
def StD.list (o : StD) : List Value := [.string o.s, .int .i64 o.arm, .bool o.crash, o.kv, .int .i64 o.f.torn, .int .i64 o.f.bytes]
structure StD.Ok (W : World) (o : StD) : Prop where
  a0 : -9223372036854775808 ≤ o.arm
  a1 : o.arm ≤ 9223372036854775807
  kept : Bools W o.kv o.f.kept

end Go.Proofs.YtnnkibhlildojaaDoor
