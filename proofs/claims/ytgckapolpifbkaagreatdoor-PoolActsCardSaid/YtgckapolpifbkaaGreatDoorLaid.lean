import Derived.Test.YtgckapolpifbkaaGreatDoorSha1
import Derived.ProofKit
import Derived.LaidMore
import Derived.OpenShut
import Derived.Stop.Joined
import Derived.SizedLaws
import Derived.ChangeOld
import Derived.Below
import Derived.ShutString
namespace Go.Proofs.YtgckapolpifbkaaGreatDoor
set_option maxRecDepth 4000
open Go.ChangeShapes Go.WideShapes Go.ChangeAt Go.RowKit
theorem own2 : ownKnob Tryz.prog.godebug = none := by kernel_rfl
theorem laidOut2 : laidOutB Tryz.prog = true := by kernel_rfl
theorem gRounds : Tryz.prog.globalNamed "banyan/sha.roundNumbers" = some 0 := by kernel_rfl
theorem tRounds : (Tryz.prog.globals[0]?).map (·.type) = some 176 := by kernel_rfl
def KLits : List (DataW Unit) := KS.map fun b => .lit (.int .u32 (wv b))
set_option maxRecDepth 100000 in
theorem laid_eq : (Rows.laid_banyan_sha_roundNumbers : DataW Unit) = .agg KLits := by rfl
section
variable {H : Type} {enc : TypeId × Value → H}
end
end Go.Proofs.YtgckapolpifbkaaGreatDoor
