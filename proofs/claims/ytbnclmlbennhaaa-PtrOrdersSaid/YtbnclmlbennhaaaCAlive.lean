/-
  The document's example of layer 5: alive returns true and leaves what was there as it was.
-/
import Derived.Test.YtbnclmlbennhaaaCCry
namespace Go.Proofs.Ytbnclmlbennhaaa
set_option maxRecDepth 4000
open Go.RowKit

theorem zero_stream : strL (keysL (zeroY 32)) (zeroY 12) 0 16 = sealB (keysL (zeroY 32)) (zeroY 16) := by
  have h := strL_block (keysL (zeroY 32)) (zeroY 12) (keysL_length _ (by simp [zeroY])) 0
  rw [show zeroY 12 ++ beY 4 0 = zeroY 16 by decide] at h
  exact h
theorem zero_first : (sealB (keysL (zeroY 32)) (zeroY 16)).getD 0 0 = 0xdc := by decide +kernel
theorem yv_dc : yv (0xdc : BitVec 8) = 220 := by decide
end Go.Proofs.Ytbnclmlbennhaaa
