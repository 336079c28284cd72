/-
  The code on blocks: mixed, unmixed.
-/
import Derived.Test.YtbnclmlbennhaaaYTurn
namespace Go.Proofs.Ytbnclmlbennhaaa
set_option maxRecDepth 4000
open Go.RowKit

def mixK (a : List (BitVec 8)) (k : Nat) : BitVec 8 := mixAt a (4 * (k / 4)) (k % 4)
end Go.Proofs.Ytbnclmlbennhaaa
