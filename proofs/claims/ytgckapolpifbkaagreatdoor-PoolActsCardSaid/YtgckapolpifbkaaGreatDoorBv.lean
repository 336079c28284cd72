import Derived.Test.YtgckapolpifbkaaGreatDoorLow
namespace Go.Proofs.YtgckapolpifbkaaGreatDoor
set_option maxRecDepth 4000
open Go.RowKit
def wv (b : BitVec 32) : Int := b.toNat
theorem wv_pos (b : BitVec 32) : 0 ≤ wv b := by unfold wv; omega
theorem mod32 (b : BitVec 32) : b.toNat % 2 ^ 32 = b.toNat := Nat.mod_eq_of_lt b.isLt
theorem bits_nat_and (k : IntKind) (a b : Nat) : bits BinOp.and k (a : Int) (b : Int) = k.wrap (((a % 2 ^ k.bits) &&& (b % 2 ^ k.bits) : Nat) : Int) := by
 simp only [bits,ofInt_nat,BitVec.toNat_and,BitVec.toNat_ofNat]
theorem bits_nat_xor (k : IntKind) (a b : Nat) : bits BinOp.xor k (a : Int) (b : Int) = k.wrap (((a % 2 ^ k.bits) ^^^ (b % 2 ^ k.bits) : Nat) : Int) := by
 simp only [bits,ofInt_nat,BitVec.toNat_xor,BitVec.toNat_ofNat]
theorem bv_or (a b : BitVec 32) : bits BinOp.or IntKind.u32 (a.toNat : Int) (b.toNat : Int) = ((a ||| b).toNat : Int) := by
 rw [bits_or_u32 _ _ a.isLt b.isLt,BitVec.toNat_or]
theorem bv_and (a b : BitVec 32) : bits BinOp.and IntKind.u32 (a.toNat : Int) (b.toNat : Int) = ((a &&& b).toNat : Int) := by
 have e : IntKind.u32.bits = 32 := rfl
 rw [bits_nat_and,e,mod32,mod32,← BitVec.toNat_and]
 exact wrap_u32_of _ (a &&& b).isLt
theorem bv_xor (a b : BitVec 32) : bits BinOp.xor IntKind.u32 (a.toNat : Int) (b.toNat : Int) = ((a ^^^ b).toNat : Int) := by
 have e : IntKind.u32.bits = 32 := rfl
 rw [bits_nat_xor,e,mod32,mod32,← BitVec.toNat_xor]
 exact wrap_u32_of _ (a ^^^ b).isLt
theorem bv_add (a b : BitVec 32) : IntKind.u32.wrap ((a.toNat : Int) + (b.toNat : Int)) = ((a + b).toNat : Int) := by
 rw [IntKind.wrap_u32,BitVec.toNat_add]; simp
theorem bv_shr (a : BitVec 32) (k : Nat) : (a.toNat : Int) / 2 ^ k = ((a >>> k).toNat : Int) := by
 rw [BitVec.toNat_ushiftRight,Nat.shiftRight_eq_div_pow]; simp
theorem wv_or (a b : BitVec 32) : bits BinOp.or IntKind.u32 (wv a) (wv b) = wv (a ||| b) := bv_or a b
theorem wv_and (a b : BitVec 32) : bits BinOp.and IntKind.u32 (wv a) (wv b) = wv (a &&& b) := bv_and a b
theorem wv_xor (a b : BitVec 32) : bits BinOp.xor IntKind.u32 (wv a) (wv b) = wv (a ^^^ b) := bv_xor a b
theorem wv_add (a b : BitVec 32) : IntKind.u32.wrap (wv a + wv b) = wv (a + b) := bv_add a b
theorem wv_addm (a b : BitVec 32) : (wv a + wv b) % 4294967296 = wv (a + b) := by rw [← IntKind.wrap_u32]; exact bv_add a b
theorem wv_shr (a : BitVec 32) (k : Nat) : wv a / 2 ^ k = wv (a >>> k) := bv_shr a k
theorem wv_not (a : BitVec 32) : bits BinOp.xor IntKind.u32 4294967295 (wv a) = wv (~~~a) := by
 have e : (4294967295 : Int) = wv (BitVec.allOnes 32) := rfl
 rw [e,wv_xor,BitVec.allOnes_xor]
theorem wv_not' (a : BitVec 32) : bits BinOp.xor IntKind.u32 IntKind.u32.max (wv a) = wv (~~~a) := wv_not a
end Go.Proofs.YtgckapolpifbkaaGreatDoor
