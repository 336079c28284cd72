import Derived.Test.YtgckapolpifbkaaGreatDoorNo0
namespace Go.Proofs.YtgckapolpifbkaaGreatDoor
set_option maxRecDepth 4000
set_option linter.unusedVariables false
open Go.ChangeShapes Go.WideShapes Go.ChangeAt Go.RowKit
end Go.Proofs.YtgckapolpifbkaaGreatDoor
