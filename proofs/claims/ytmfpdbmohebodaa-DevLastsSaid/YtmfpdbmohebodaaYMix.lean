/-
  The code on blocks: mixed, unmixed.
-/
import Derived.Test.YtmfpdbmohebodaaYTurn
namespace Go.Proofs.Ytmfpdbmohebodaa
open Go.RowKit

def mixK (a : List (BitVec 8)) (k : Nat) : BitVec 8 := mixAt a (4 * (k / 4)) (k % 4)
end Go.Proofs.Ytmfpdbmohebodaa
