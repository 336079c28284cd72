/-
  The code on blocks, a round's parts: summed, boxed, unboxed, turned, unturned.
-/
import Derived.Test.YtclahpmghifehaaYSmall
namespace Go.Proofs.Ytclahpmghifehaa
open Go.RowKit

end Go.Proofs.Ytclahpmghifehaa
