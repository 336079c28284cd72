/-
  What turns of 32 bits do, one behind the other.
-/
import Derived.Test.YtbnclmlbennhaaaNum
namespace Go.Proofs.Ytbnclmlbennhaaa
set_option maxRecDepth 4000
open Go.RowKit

theorem rot_at (b : BitVec 32) (r i : Nat) (hr : r < 32) (hi : i < 32) : (b.rotateLeft r).getLsbD i = b.getLsbD ((i + 32 - r) % 32) := by
  simp only [BitVec.getLsbD_rotateLeft, Bool.cond_decide, Nat.mod_eq_of_lt hr]
  by_cases h : i < r
  · rw [if_pos h]; congr 1; omega
  · rw [if_neg h, decide_eq_true hi, Bool.true_and]; congr 1; omega
theorem rot_mod (b : BitVec 32) (r : Nat) : b.rotateLeft (r % 32) = b.rotateLeft r := by
  apply BitVec.eq_of_getLsbD_eq
  intro i hi
  simp only [BitVec.getLsbD_rotateLeft, Nat.mod_mod]
theorem rot_rot (b : BitVec 32) (r s : Nat) : (b.rotateLeft r).rotateLeft s = b.rotateLeft (r + s) := by
  rw [← rot_mod _ s, ← rot_mod b r, ← rot_mod b (r + s)]
  apply BitVec.eq_of_getLsbD_eq
  intro i hi
  rw [rot_at _ _ i (by omega) hi, rot_at _ _ _ (by omega) (by omega), rot_at _ _ i (by omega) hi]
  congr 1; omega

theorem as_bits (x : Int) (h0 : 0 ≤ x) (h1 : x < 4294967296) : ∃ b : BitVec 32, x = (b.toNat : Int) := by
  refine ⟨BitVec.ofNat 32 x.toNat, ?_⟩
  rw [BitVec.toNat_ofNat, Nat.mod_eq_of_lt (by omega)]
  omega

theorem turn_bound (x n : Int) (h0 : 0 ≤ x) (h1 : x < 4294967296) : 0 ≤ turnI x n ∧ turnI x n < 4294967296 := by
  obtain ⟨b, rfl⟩ := as_bits x h0 h1
  rw [turnI_rot]
  have := (b.rotateLeft (n % 32).toNat).isLt
  omega
theorem turn_turn (x m n : Int) (h0 : 0 ≤ x) (h1 : x < 4294967296) : turnI (turnI x m) n = turnI x (m + n) := by
  obtain ⟨b, rfl⟩ := as_bits x h0 h1
  rw [turnI_rot, turnI_rot, turnI_rot, rot_rot, ← rot_mod b ((m % 32).toNat + (n % 32).toNat), ← rot_mod b ((m + n) % 32).toNat]
  rw [show ((m % 32).toNat + (n % 32).toNat) % 32 = ((m + n) % 32).toNat % 32 from by omega]
theorem turn_none (x n : Int) (h0 : 0 ≤ x) (h1 : x < 4294967296) (h : n % 32 = 0) : turnI x n = x := by
  obtain ⟨b, rfl⟩ := as_bits x h0 h1
  rw [turnI_rot, h]
  congr 2
  apply BitVec.eq_of_getLsbD_eq
  intro i hi
  rw [rot_at _ _ i (by decide) hi]
  congr 1
  simp; omega
theorem turn_zero (n : Int) : turnI 0 n = 0 := by
  have := turnI_rot 0#32 n
  rw [show ((0#32).toNat : Int) = 0 from rfl] at this
  rw [this, show (0#32).rotateLeft (n % 32).toNat = 0#32 from by
    apply BitVec.eq_of_getLsbD_eq; intro i hi; simp [BitVec.getLsbD_rotateLeft]]
  rfl
theorem turn_ones (n : Int) : turnI 4294967295 n = 4294967295 := by
  have := turnI_rot (BitVec.allOnes 32) n
  rw [show ((BitVec.allOnes 32).toNat : Int) = 4294967295 from rfl] at this
  rw [this, show (BitVec.allOnes 32).rotateLeft (n % 32).toNat = BitVec.allOnes 32 from by
    apply BitVec.eq_of_getLsbD_eq; intro i hi; rw [rot_at _ _ i (by omega) hi, BitVec.getLsbD_allOnes, BitVec.getLsbD_allOnes, decide_eq_true (Nat.mod_lt _ (by decide)), decide_eq_true hi]]
  rfl
end Go.Proofs.Ytbnclmlbennhaaa
