/-
  The code on blocks, a round's parts: summed, boxed, unboxed, turned, unturned.
-/
import Derived.Test.YtbnclmlbennhaaaYSmall
namespace Go.Proofs.Ytbnclmlbennhaaa
set_option maxRecDepth 4000
open Go.RowKit

end Go.Proofs.Ytbnclmlbennhaaa
