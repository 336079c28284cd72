/-
  ctr's Made, and the stream's block of a number.
-/
import Derived.Test.YtbnclmlbennhaaaCLay
namespace Go.Proofs.Ytbnclmlbennhaaa
set_option maxRecDepth 4000
open Go.RowKit

theorem two_be (a c : Nat) : putL (putL (zeroY 12) 0 (beY 8 a)) 8 (beY 4 c) = beY 8 a ++ beY 4 c := by
  have h8 := beY_length 8 a
  have h4 := beY_length 4 c
  have e : putL (zeroY 12) 0 (beY 8 a) = beY 8 a ++ [0, 0, 0, 0] := by
    simp [putL, h8, zeroY]
  rw [e]
  simp [putL, h8, h4]
theorem block_put (n : List (BitVec 8)) (hn : n.length = 12) (x : Nat) : putL (putL (zeroY 16) 0 n) 12 (beY 4 x) = n ++ beY 4 x := by
  have h4 := beY_length 4 x
  have e : putL (zeroY 16) 0 n = n ++ [0, 0, 0, 0] := by
    simp [putL, hn, zeroY]
  rw [e]
  simp [putL, hn, h4]
end Go.Proofs.Ytbnclmlbennhaaa
