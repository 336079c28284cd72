import Derived.Test.YtljjcbmkbmloaaaGreatDoorRows
namespace Go.Proofs.YtljjcbmkbmloaaaGreatDoor
abbrev bY:=List (BitVec 8)
abbrev bW:=List (Nat×List (BitVec 8))
abbrev bI:=List Int
abbrev bO:=Option Addr
end Go.Proofs.YtljjcbmkbmloaaaGreatDoor
