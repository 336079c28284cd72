import Derived.Test.YtljjcbmkbmloaaaGreatDoorGTu1
namespace Go.Proofs.YtljjcbmkbmloaaaGreatDoor
set_option maxRecDepth 4000
set_option linter.unusedVariables false
open Go.RowKit
def wv (b:BitVec 32):Int:=b.toNat
theorem Kr (b:BitVec 32):0≤wv b:=by unfold wv; omega
theorem Vr (b:BitVec 32):b.toNat % 2 ^ 32=b.toNat:=Nat.mod_eq_of_lt b.isLt
theorem Kt (k:IntKind)(a b:Nat):bits BinOp.and k (a:Int) (b:Int)=k.wrap (((a % 2 ^ k.bits) &&& (b % 2 ^ k.bits):Nat):Int):=by
 simp only [bits,rf,BitVec.toNat_and,BitVec.toNat_ofNat]
theorem yX (k:IntKind)(a b:Nat):bits BinOp.xor k (a:Int) (b:Int)=k.wrap (((a % 2 ^ k.bits) ^^^ (b % 2 ^ k.bits):Nat):Int):=by
 simp only [bits,rf,BitVec.toNat_xor,BitVec.toNat_ofNat]
theorem alM (a b:BitVec 32):bits BinOp.or IntKind.u32 (a.toNat:Int) (b.toNat:Int)=((a ||| b).toNat:Int):=by
 rw [uP _ _ a.isLt b.isLt,BitVec.toNat_or]
theorem ahU (a b:BitVec 32):bits BinOp.and IntKind.u32 (a.toNat:Int) (b.toNat:Int)=((a &&& b).toNat:Int):=by
 have e:IntKind.u32.bits=32:=rfl;rw [Kt,e,Vr,Vr,← BitVec.toNat_and];exact uO _ (a &&& b).isLt
theorem ahV (a b:BitVec 32):bits BinOp.xor IntKind.u32 (a.toNat:Int) (b.toNat:Int)=((a ^^^ b).toNat:Int):=by
 have e:IntKind.u32.bits=32:=rfl;rw [yX,e,Vr,Vr,← BitVec.toNat_xor];exact uO _ (a ^^^ b).isLt
theorem aah (a b:BitVec 32):IntKind.u32.wrap ((a.toNat:Int)+(b.toNat:Int))=((a+b).toNat:Int):=by
 rw [IntKind.wrap_u32,BitVec.toNat_add]; simp
theorem ahW (a:BitVec 32)(k:Nat):(a.toNat:Int) / 2 ^ k=((a >>> k).toNat:Int):=by
 rw [BitVec.toNat_ushiftRight,Nat.shiftRight_eq_div_pow]; simp
theorem agO (a b:BitVec 32):bits BinOp.or IntKind.u32 (wv a) (wv b)=wv (a ||| b):=alM a b
theorem Rq (a b:BitVec 32):bits BinOp.and IntKind.u32 (wv a) (wv b)=wv (a &&& b):=ahU a b
theorem Em (a b:BitVec 32):bits BinOp.xor IntKind.u32 (wv a) (wv b)=wv (a ^^^ b):=ahV a b
theorem Ru (a b:BitVec 32):IntKind.u32.wrap (wv a+wv b)=wv (a+b):=aah a b
theorem Ku (a b:BitVec 32):(wv a+wv b) % 4294967296=wv (a+b):=by rw [← IntKind.wrap_u32]; exact aah a b
theorem aai (a:BitVec 32)(k:Nat):wv a / 2 ^ k=wv (a >>> k):=ahW a k
theorem ahX (a:BitVec 32):bits BinOp.xor IntKind.u32 4294967295 (wv a)=wv (~~~a):=by
 have e:(4294967295:Int)=wv (BitVec.allOnes 32):=rfl;rw [e,Em,BitVec.allOnes_xor]
theorem aev (a:BitVec 32):bits BinOp.xor IntKind.u32 IntKind.u32.max (wv a)=wv (~~~a):=ahX a
end Go.Proofs.YtljjcbmkbmloaaaGreatDoor
