import Derived.Test.YtelmcchleclklaaGreatV16
import Derived.Test.YtelmcchleclklaaGreatV20
import Derived.Test.YtelmcchleclklaaGreatV05
import Derived.Deep.RegionHeld
namespace Go.Proofs.YtelmcchleclklaaGreat
open Go.RowKit Go.Sort
set_option maxRecDepth 100000
set_option maxHeartbeats 2000000

section
variable {w w' : World} {b : Nat} {x0 x1 x2 x3 x4 x5 : Int}
end
section
variable {w : World} {b m c : Nat} {k s g i : Int} {A : Option Addr}
end
section
variable {w0 v v' : World} {H n c : Nat} {x0 x1 x2 x3 x4 x5 k s g i : Int} {A : Option Addr} {D : Nat → Nat}
end
end Go.Proofs.YtelmcchleclklaaGreat
