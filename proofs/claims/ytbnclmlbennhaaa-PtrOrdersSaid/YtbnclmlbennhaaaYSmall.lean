/-
  The code on bytes alone: double, Times, Box, Unbox; origin.
-/
import Derived.Test.YtbnclmlbennhaaaYMem
namespace Go.Proofs.Ytbnclmlbennhaaa
set_option maxRecDepth 4000
open Go.RowKit

theorem and_one : ∀ b : BitVec 8, bits BinOp.and IntKind.u8 (yv b) 1 = if b.getLsbD 0 then 1 else 0 := by decide +kernel
/-- A byte in a table of 256. -/
theorem index_str (s : ByteArray) (b c : BitVec 8) (h : s.data[b.toNat]? = some ⟨c⟩) (w : World) : (Instr.index 9 (.string s) (.int .u8 (yv b))).run Try.prog w = .ok (.int .u8 (yv c)) w := by
  have h0 := yv_pos b
  have e : s[(yv b).toNat]? = some ⟨c⟩ := by
    have e2 : (yv b).toNat = b.toNat := by unfold yv; simp
    rw [e2, ← h]; rfl
  simp [Instr.index, asIntOf, run_underlying Try.underlying9, h0, e]
  rfl
def byteOf (b : BitVec 8) : UInt8 := ⟨b⟩
theorem tab_at (l : List (BitVec 8)) (hl : l.length = 256) (b : BitVec 8) : (l.map byteOf).toArray[b.toNat]? = some ⟨l.getD b.toNat 0⟩ := by
  have := b.isLt
  simp [hl, byteOf, this]
theorem boxes_length : boxesL.length = 256 := by decide +kernel
theorem unboxes_length : unboxesL.length = 256 := by decide +kernel
end Go.Proofs.Ytbnclmlbennhaaa
