/-
  The code on blocks: turned, unturned.
-/
import Derived.Test.YtmfpdbmohebodaaYSum
namespace Go.Proofs.Ytmfpdbmohebodaa
open Go.RowKit

end Go.Proofs.Ytmfpdbmohebodaa
