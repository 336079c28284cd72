/-
  The code on blocks: turned, unturned.
-/
import Derived.Test.YtclahpmghifehaaYSum
namespace Go.Proofs.Ytclahpmghifehaa
open Go.RowKit

end Go.Proofs.Ytclahpmghifehaa
