import Derived.Test.YtobkmohoepgfmaaGreatDoorV05
import Derived.WalkLawsBesides
import Derived.LaidEql
import Derived.Stop.Asserts
import Derived.RowKitTokens
import Derived.Recover
namespace Go.Proofs.YtobkmohoepgfmaaGreatDoor
open Go.RowKit Go.Extern.Stop Go.Stop Go.Extern Go.Extern.Rtype
set_option maxRecDepth 100000
set_option maxHeartbeats 1000000

section
variable {P : Program}
end

section
variable {P : Program}
end
theorem we_eqlNil (t : TypeId) (v : Value) (w : World) : (binOp .eql 27 (.iface t v) .nilIface).run Tryz.prog w = .ok (.bool false) w := by kernel_rfl
theorem we_neqNil (t : TypeId) (v : Value) (w : World) : (binOp .neq 27 (.iface t v) .nilIface).run Tryz.prog w = .ok (.bool true) w := by kernel_rfl
theorem we_eqlNilNil (w : World) : (binOp .eql 27 .nilIface .nilIface).run Tryz.prog w = .ok (.bool true) w := by kernel_rfl
theorem we_neqNilNil (w : World) : (binOp .neq 27 .nilIface .nilIface).run Tryz.prog w = .ok (.bool false) w := by kernel_rfl
end Go.Proofs.YtobkmohoepgfmaaGreatDoor
