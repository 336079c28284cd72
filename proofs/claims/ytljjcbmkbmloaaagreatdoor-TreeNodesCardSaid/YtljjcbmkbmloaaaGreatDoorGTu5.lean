import Derived.Test.YtljjcbmkbmloaaaGreatDoorGTu4
import Derived.ProofKit
import Derived.LaidMore
import Derived.OpenShut
import Derived.Stop.Joined
import Derived.ShutString
namespace Go.Proofs.YtljjcbmkbmloaaaGreatDoor
set_option maxRecDepth 100000
set_option linter.unusedVariables false
open Go.ChangeShapes Go.WideShapes Go.ChangeAt Go.RowKit
theorem alX:ownKnob Tryz.prog.godebug=none:=by kernel_rfl
theorem EC:laidOutB Tryz.prog=true:=by kernel_rfl
theorem aeE:Tryz.prog.globalNamed "banyan/sha.roundNumbers" = some 2:=by kernel_rfl
theorem aeF:(Tryz.prog.globals[2]?).map (·.type)=some 247:=by kernel_rfl
def aay:List (DataW Unit):=KS.map fun b => .lit (.int .u32 (wv b))
theorem aeG:(Rows.laid_banyan_sha_roundNumbers:DataW Unit) = .agg aay:=by rfl
section
variable {H:Type} {enc:TypeId×Value→H}
end
end Go.Proofs.YtljjcbmkbmloaaaGreatDoor
