/-
  The code on blocks, a round's parts: summed, boxed, unboxed, turned, unturned.
-/
import Derived.Test.YtmfpdbmohebodaaYSmall
namespace Go.Proofs.Ytmfpdbmohebodaa
open Go.RowKit

end Go.Proofs.Ytmfpdbmohebodaa
