import Derived.Test.YtljjcbmkbmloaaaGreatDoorGTu33
namespace Go.Proofs.YtljjcbmkbmloaaaGreatDoor
set_option maxRecDepth 4000
set_option linter.unusedVariables false
open Go.ChangeShapes Go.WideShapes Go.ChangeAt Go.RowKit
end Go.Proofs.YtljjcbmkbmloaaaGreatDoor
