/-
  The code: stepped: what a word is summed of, beside the one eight ahead.
-/
import Derived.Test.YtbnclmlbennhaaaYWord
namespace Go.Proofs.Ytbnclmlbennhaaa
set_option maxRecDepth 4000
open Go.RowKit

def wordA (a0 a1 a2 a3 : BitVec 8) : Array Value := #[.int .u8 (yv a0), .int .u8 (yv a1), .int .u8 (yv a2), .int .u8 (yv a3)]
theorem wordA_eq (a0 a1 a2 a3 : BitVec 8) : yvs [a0, a1, a2, a3] = #[.int .u8 (yv a0), .int .u8 (yv a1), .int .u8 (yv a2), .int .u8 (yv a3)] := rfl
theorem boxW_eq (a0 a1 a2 a3 : BitVec 8) : boxW [a0, a1, a2, a3] = [sbox a0, sbox a1, sbox a2, sbox a3] := rfl
theorem pw_lift (i : Nat) (h : i < 8) : (2 : Int) ^ i % 256 = yv (pw i) := by
  match i, h with
  | 0, _ | 1, _ | 2, _ | 3, _ | 4, _ | 5, _ | 6, _ | 7, _ => rfl
end Go.Proofs.Ytbnclmlbennhaaa
