/-
  The code on bytes alone: double, Times, Box, Unbox; origin.
-/
import Derived.Test.YtajfooefofafmaaYMem
namespace Go.Proofs.Ytajfooefofafmaa
open Go.RowKit

set_option maxHeartbeats 400000 in
theorem double_any (b : BitVec 8) (w : World) : Calls Try.prog 49 #[.int .u8 (yv b)] w fun e w' => e = .returned (.int .u8 (yv (dbl b))) ∧ w' = w := by
  have hd := dbl_eq b
  have h0 := yv_pos b
  have h1 := yv_le b
  have H := Lib.hid hd
  clear hd
  go_enter Try.func49, Try.ntmps49
  go_wp2
  go_ret
  exact ⟨by rw [H.out]; rfl, rfl⟩

theorem and_one : ∀ b : BitVec 8, bits BinOp.and IntKind.u8 (yv b) 1 = if b.getLsbD 0 then 1 else 0 := by decide +kernel
/-- A byte in a table of 256. -/
theorem index_str (s : ByteArray) (b c : BitVec 8) (h : s.data[b.toNat]? = some ⟨c⟩) (w : World) : (Instr.index 9 (.string s) (.int .u8 (yv b))).run Try.prog w = .ok (.int .u8 (yv c)) w := by
  have h0 := yv_pos b
  have e : s[(yv b).toNat]? = some ⟨c⟩ := by
    have e2 : (yv b).toNat = b.toNat := by unfold yv; simp
    rw [e2, ← h]; rfl
  simp [Instr.index, asIntOf, run_underlying Try.underlying9, h0, e]
  rfl
def byteOf (b : BitVec 8) : UInt8 := ⟨b⟩
theorem tab_at (l : List (BitVec 8)) (hl : l.length = 256) (b : BitVec 8) : (l.map byteOf).toArray[b.toNat]? = some ⟨l.getD b.toNat 0⟩ := by
  have := b.isLt
  simp [hl, byteOf, this]
theorem boxes_length : boxesL.length = 256 := by decide +kernel
theorem unboxes_length : unboxesL.length = 256 := by decide +kernel
set_option maxRecDepth 100000 in
set_option maxHeartbeats 400000 in
theorem box_any (b : BitVec 8) (w : World) : Calls Try.prog 51 #[.int .u8 (yv b)] w fun e w' => e = .returned (.int .u8 (yv (sbox b))) ∧ w' = w := by
  go_enter Try.func51, Try.ntmps51
  generalize hs : ByteArray.mk _ = S
  have hi := fun w => index_str S b (sbox b) (by rw [show S.data = (boxesL.map byteOf).toArray by rw [← hs]; kernel_rfl]; exact tab_at boxesL boxes_length b) w
  clear hs
  go_wp2
  go_ret
  exact ⟨rfl, rfl⟩
set_option maxRecDepth 100000 in
set_option maxHeartbeats 400000 in
theorem unbox_any (b : BitVec 8) (w : World) : Calls Try.prog 53 #[.int .u8 (yv b)] w fun e w' => e = .returned (.int .u8 (yv (ubox b))) ∧ w' = w := by
  go_enter Try.func53, Try.ntmps53
  generalize hs : ByteArray.mk _ = S
  have hi := fun w => index_str S b (ubox b) (by rw [show S.data = (unboxesL.map byteOf).toArray by rw [← hs]; kernel_rfl]; exact tab_at unboxesL unboxes_length b) w
  clear hs
  go_wp2
  go_ret
  exact ⟨rfl, rfl⟩
set_option maxHeartbeats 400000 in
theorem origin_any (i : Nat) (w : World) (hi : i < 16) : Calls Try.prog 50 #[.int .i64 i] w fun e w' => e = .returned (.int .i64 (org i : Nat)) ∧ w' = w := by
  have h0 : (0 : Int) ≤ (i : Int) := by omega
  have h1 : (i : Int) < 16 := by omega
  have h2 : (0 : Int) ≤ (i : Int) % 4 := by omega
  have h3 : (i : Int) % 4 < 4 := by omega
  have HO := Lib.hid (show ((i : Int) + (i : Int) % 4 * 4) % 16 = (org i : Nat) by unfold org; omega)
  clear hi
  go_enter Try.func50, Try.ntmps50
  go_wp2
  go_ret
  exact ⟨by rw [← HO.out]; rfl, rfl⟩
end Go.Proofs.Ytajfooefofafmaa
