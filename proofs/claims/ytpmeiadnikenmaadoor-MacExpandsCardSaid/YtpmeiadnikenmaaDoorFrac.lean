/-
  Frac, of any number: the error, or what is behind the whole part of the root.
-/
import Derived.Test.YtpmeiadnikenmaaDoorRoot
namespace Go.Proofs.YtpmeiadnikenmaaDoor
open Go.RowKit

/-- What Frac answers where it answers. -/
def fracI (p k : Nat) : Nat := rootUpto (p * 4294967296 ^ k) k 40 0 % 4294967296

end Go.Proofs.YtpmeiadnikenmaaDoor
