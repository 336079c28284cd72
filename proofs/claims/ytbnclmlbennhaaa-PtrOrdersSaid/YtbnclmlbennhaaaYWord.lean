/-
  The code: unmixed; words of a key: boxedWord, stepped.
-/
import Derived.Test.YtbnclmlbennhaaaYMix
namespace Go.Proofs.Ytbnclmlbennhaaa
set_option maxRecDepth 4000
open Go.RowKit

def boxW (a : List (BitVec 8)) : List (BitVec 8) := [sbox (a.getD 0 0), sbox (a.getD 1 0), sbox (a.getD 2 0), sbox (a.getD 3 0)]
theorem four4 {α : Type} (x : List α) (h : x.length = 4) : ∃ a0 a1 a2 a3, x = [a0, a1, a2, a3] := by
  match x, h with
  | [a0, a1, a2, a3], _ => exact ⟨_, _, _, _, rfl⟩
theorem setF_boxW (a : List (BitVec 8)) (ha : a.length = 4) : setF id (fun j => sbox (a.getD j 0)) 4 a = boxW a := by
  obtain ⟨a0, a1, a2, a3, rfl⟩ := four4 a ha
  rfl
end Go.Proofs.Ytbnclmlbennhaaa
