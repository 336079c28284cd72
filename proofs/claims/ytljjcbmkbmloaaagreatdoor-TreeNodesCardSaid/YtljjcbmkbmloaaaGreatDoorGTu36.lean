import Derived.Test.YtljjcbmkbmloaaaGreatDoorGTu33
import Derived.Test.YtljjcbmkbmloaaaGreatDoorGTuA
namespace Go.Proofs.YtljjcbmkbmloaaaGreatDoor
set_option maxRecDepth 100000
set_option linter.unusedVariables false
open Go.ChangeShapes Go.WideShapes Go.ChangeAt Go.RowKit
def keyE:bY:=[239,103,197,4,136,224,69,71,137,182,5,211,46,216,125,114,15,117,18,80,174,69,50,100,30,120,48,187,240,238,238,40]
theorem aga:ZQ (gJ [109,97,115,116,101,114] [101,110,99])=keyE:=by decide +kernel
end Go.Proofs.YtljjcbmkbmloaaaGreatDoor
