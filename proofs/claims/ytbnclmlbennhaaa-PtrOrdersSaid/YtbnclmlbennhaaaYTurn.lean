/-
  The code on blocks: turned, unturned.
-/
import Derived.Test.YtbnclmlbennhaaaYSum
namespace Go.Proofs.Ytbnclmlbennhaaa
set_option maxRecDepth 4000
open Go.RowKit

end Go.Proofs.Ytbnclmlbennhaaa
