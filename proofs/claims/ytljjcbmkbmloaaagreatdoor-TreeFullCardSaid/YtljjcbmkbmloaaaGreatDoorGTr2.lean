import Derived.Test.YtljjcbmkbmloaaaGreatDoorGTr1
namespace Go.Proofs.YtljjcbmkbmloaaaGreatDoor
set_option maxRecDepth 4000
set_option linter.unusedVariables false
open Go.RowKit
def wv (b:BitVec 32):Int:=b.toNat
theorem JI (b:BitVec 32):0≤wv b:=by unfold wv; omega
theorem U4 (b:BitVec 32):b.toNat % 2 ^ 32=b.toNat:=Nat.mod_eq_of_lt b.isLt
theorem JJ (k:IntKind)(a b:Nat):bits BinOp.and k (a:Int) (b:Int)=k.wrap (((a % 2 ^ k.bits) &&& (b % 2 ^ k.bits):Nat):Int):=by
 simp only [bits,vU,BitVec.toNat_and,BitVec.toNat_ofNat]
theorem yO (k:IntKind)(a b:Nat):bits BinOp.xor k (a:Int) (b:Int)=k.wrap (((a % 2 ^ k.bits) ^^^ (b % 2 ^ k.bits):Nat):Int):=by
 simp only [bits,vU,BitVec.toNat_xor,BitVec.toNat_ofNat]
theorem akW (a b:BitVec 32):bits BinOp.or IntKind.u32 (a.toNat:Int) (b.toNat:Int)=((a ||| b).toNat:Int):=by
 rw [uH _ _ a.isLt b.isLt,BitVec.toNat_or]
theorem ahe (a b:BitVec 32):bits BinOp.and IntKind.u32 (a.toNat:Int) (b.toNat:Int)=((a &&& b).toNat:Int):=by
 have e:IntKind.u32.bits=32:=rfl
 rw [JJ,e,U4,U4,← BitVec.toNat_and]
 exact uG _ (a &&& b).isLt
theorem ahf (a b:BitVec 32):bits BinOp.xor IntKind.u32 (a.toNat:Int) (b.toNat:Int)=((a ^^^ b).toNat:Int):=by
 have e:IntKind.u32.bits=32:=rfl
 rw [yO,e,U4,U4,← BitVec.toNat_xor]
 exact uG _ (a ^^^ b).isLt
theorem ZQ (a b:BitVec 32):IntKind.u32.wrap ((a.toNat:Int)+(b.toNat:Int))=((a+b).toNat:Int):=by
 rw [IntKind.wrap_u32,BitVec.toNat_add]; simp
theorem ahg (a:BitVec 32)(k:Nat):(a.toNat:Int) / 2 ^ k=((a >>> k).toNat:Int):=by
 rw [BitVec.toNat_ushiftRight,Nat.shiftRight_eq_div_pow]; simp
theorem agm (a b:BitVec 32):bits BinOp.or IntKind.u32 (wv a) (wv b)=wv (a ||| b):=akW a b
theorem QZ (a b:BitVec 32):bits BinOp.and IntKind.u32 (wv a) (wv b)=wv (a &&& b):=ahe a b
theorem DV (a b:BitVec 32):bits BinOp.xor IntKind.u32 (wv a) (wv b)=wv (a ^^^ b):=ahf a b
theorem Q3 (a b:BitVec 32):IntKind.u32.wrap (wv a+wv b)=wv (a+b):=ZQ a b
theorem JK (a b:BitVec 32):(wv a+wv b) % 4294967296=wv (a+b):=by rw [← IntKind.wrap_u32]; exact ZQ a b
theorem ZT (a:BitVec 32)(k:Nat):wv a / 2 ^ k=wv (a >>> k):=ahg a k
theorem ahh (a:BitVec 32):bits BinOp.xor IntKind.u32 4294967295 (wv a)=wv (~~~a):=by
 have e:(4294967295:Int)=wv (BitVec.allOnes 32):=rfl
 rw [e,DV,BitVec.allOnes_xor]
theorem aea (a:BitVec 32):bits BinOp.xor IntKind.u32 IntKind.u32.max (wv a)=wv (~~~a):=ahh a
end Go.Proofs.YtljjcbmkbmloaaaGreatDoor
