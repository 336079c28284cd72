import Derived.Test.YtljjcbmkbmloaaaGreatDoorGTu1
import Derived.Deep.MidRow
import Derived.Deep.QuietTactic
import Derived.BigQuiet
import Derived.Deep.RegionHeld3
import Derived.Deep.RegionLaw
import Derived.Laws.CopyOwn
import Derived.Deep.Cut
import Derived.ProofKit
import Derived.LaidMore
import Derived.OpenShut
import Derived.Stop.Joined
import Derived.Test.YtljjcbmkbmloaaaGreatDoorGTu0
import Derived.Test.YtljjcbmkbmloaaaGreatDoorGTuA
namespace Go.Proofs.YtljjcbmkbmloaaaGreatDoor
set_option maxHeartbeats 3200000
set_option maxRecDepth 100000
set_option linter.unusedVariables false
open Lib (hid)
section
open Go.RowKit
def yv (b:BitVec 8):Int:=b.toNat
theorem aaz (b:BitVec 8):0≤yv b:=by unfold yv; omega
theorem alY (b:BitVec 8):yv b<256:=by unfold yv; have:=b.isLt; omega
theorem alZ (b:BitVec 8):yv b≤255:=by have:=alY b; omega
theorem Xn (k:IntKind)(a b:Nat):bits BinOp.xor k (a:Int) (b:Int)=k.wrap (((a % 2 ^ k.bits) ^^^ (b % 2 ^ k.bits):Nat):Int):=by
 simp only [bits,rf,BitVec.toNat_xor,BitVec.toNat_ofNat]
theorem Xo (k:IntKind)(a b:Nat):bits BinOp.and k (a:Int) (b:Int)=k.wrap (((a % 2 ^ k.bits) &&& (b % 2 ^ k.bits):Nat):Int):=by
 simp only [bits,rf,BitVec.toNat_and,BitVec.toNat_ofNat]
theorem al0 (b:BitVec 8):b.toNat % 2 ^ 8=b.toNat:=Nat.mod_eq_of_lt b.isLt
theorem AO (a b:BitVec 8):bits BinOp.xor IntKind.u8 (yv a) (yv b)=yv (a ^^^ b):=by
 have e:IntKind.u8.bits=8:=rfl;unfold yv;rw [Xn,e,al0,al0,← BitVec.toNat_xor];exact Ei _ (a ^^^ b).isLt
def dbl (x:BitVec 8):BitVec 8:=(x <<< 1) ^^^ (if x.getLsbD 7 then 0x1b else 0)
theorem ah2:∀ b:BitVec 8,bits BinOp.xor IntKind.u8 (yv b * 2 % 256) (yv b / 128 * 27)=yv (dbl b):=by decide +kernel
def pw (i:Nat):BitVec 8:=1 <<< i
def tm (x:BitVec 8)(i:Nat):BitVec 8:=if x.getLsbD i then pw i else 0
def KL:bY:=[
 0x63,0x7c,0x77,0x7b,0xf2,0x6b,0x6f,0xc5,0x30,0x01,0x67,0x2b,0xfe,0xd7,0xab,0x76,
 0xca,0x82,0xc9,0x7d,0xfa,0x59,0x47,0xf0,0xad,0xd4,0xa2,0xaf,0x9c,0xa4,0x72,0xc0,
 0xb7,0xfd,0x93,0x26,0x36,0x3f,0xf7,0xcc,0x34,0xa5,0xe5,0xf1,0x71,0xd8,0x31,0x15,
 0x04,0xc7,0x23,0xc3,0x18,0x96,0x05,0x9a,0x07,0x12,0x80,0xe2,0xeb,0x27,0xb2,0x75,
 0x09,0x83,0x2c,0x1a,0x1b,0x6e,0x5a,0xa0,0x52,0x3b,0xd6,0xb3,0x29,0xe3,0x2f,0x84,
 0x53,0xd1,0x00,0xed,0x20,0xfc,0xb1,0x5b,0x6a,0xcb,0xbe,0x39,0x4a,0x4c,0x58,0xcf,
 0xd0,0xef,0xaa,0xfb,0x43,0x4d,0x33,0x85,0x45,0xf9,0x02,0x7f,0x50,0x3c,0x9f,0xa8,
 0x51,0xa3,0x40,0x8f,0x92,0x9d,0x38,0xf5,0xbc,0xb6,0xda,0x21,0x10,0xff,0xf3,0xd2,
 0xcd,0x0c,0x13,0xec,0x5f,0x97,0x44,0x17,0xc4,0xa7,0x7e,0x3d,0x64,0x5d,0x19,0x73,
 0x60,0x81,0x4f,0xdc,0x22,0x2a,0x90,0x88,0x46,0xee,0xb8,0x14,0xde,0x5e,0x0b,0xdb,
 0xe0,0x32,0x3a,0x0a,0x49,0x06,0x24,0x5c,0xc2,0xd3,0xac,0x62,0x91,0x95,0xe4,0x79,
 0xe7,0xc8,0x37,0x6d,0x8d,0xd5,0x4e,0xa9,0x6c,0x56,0xf4,0xea,0x65,0x7a,0xae,0x08,
 0xba,0x78,0x25,0x2e,0x1c,0xa6,0xb4,0xc6,0xe8,0xdd,0x74,0x1f,0x4b,0xbd,0x8b,0x8a,
 0x70,0x3e,0xb5,0x66,0x48,0x03,0xf6,0x0e,0x61,0x35,0x57,0xb9,0x86,0xc1,0x1d,0x9e,
 0xe1,0xf8,0x98,0x11,0x69,0xd9,0x8e,0x94,0x9b,0x1e,0x87,0xe9,0xce,0x55,0x28,0xdf,
 0x8c,0xa1,0x89,0x0d,0xbf,0xe6,0x42,0x68,0x41,0x99,0x2d,0x0f,0xb0,0x54,0xbb,0x16]
def aQ (b:BitVec 8):BitVec 8:=KL.getD b.toNat 0
end
section
open Go.RowKit
def fB {α:Type}(p:Nat→Nat)(f:Nat→α):Nat→List α→List α
 | 0,l=>l
 | k+1,l=>(fB p f k l).set (p k) (f k)
theorem dD {α:Type}(p:Nat→Nat)(f:Nat→α)(k:Nat)(l:List α):(fB p f k l).length=l.length:=by
 induction k with
 | zero=>rfl
 | succ k ih=>rw [fB,List.length_set,ih]
theorem xW {α:Type}(p:Nat→Nat)(f:Nat→α)(l:List α)(i:Nat)(d:α):∀ k,(∀ j,j<k→p j ≠ i)→(fB p f k l).getD i d=l.getD i d:=by
 intro k;induction k with
 | zero=>intro _; rfl
 | succ k ih =>
   intro h;have:=h k (by omega);rw [← ih fun j hj=>h j (by omega),fB];simp [List.getD,this]
theorem DL {α:Type}(f:Nat→α)(l:List α)(k:Nat)(d:α):(fB id f k l).getD k d=l.getD k d:=xW id f l k d k fun j hj=>by simp; omega
def fK {α:Type}(M:List α)(o:Nat)(v:List α):List α:=M.take o++v++M.drop (o+v.length)
theorem jy {α:Type}(M:List α)(o:Nat)(v:List α)(h:o+v.length≤M.length):(fK M o v).length=M.length:=by
 simp [fK]; omega
theorem ru {α:Type}(M:List α)(o:Nat)(y:α)(ys:List α)(h:o<M.length):fK (M.set o y) (o+1) ys=fK M o (y::ys):=by
 unfold fK;rw [List.take_succ_eq_append_getElem (by simpa using h),List.getElem_set_self,List.take_set_of_le (Nat.le_refl _),List.drop_set_of_lt (by omega),List.length_cons,show o+1+ys.length=o+(ys.length+1) by omega];simp
def aC (n:Nat):bY:=List.replicate n 0
def mg (a b:bY):bY:=List.zipWith (· ^^^ ·) a b
def uI (x:bY):bY:=x.map aQ
def org (i:Nat):Nat:=(i+i % 4 * 4) % 16
def oz (x:bY):bY:=(List.range 16).map fun i=>x.getD (org i) 0
def al1 (all here next:BitVec 8):BitVec 8:=here ^^^ all ^^^ dbl (here ^^^ next)
def aaA (x:bY)(c i:Nat):BitVec 8 :=
 al1 (x.getD c 0 ^^^ x.getD (c+1) 0 ^^^ x.getD (c+2) 0 ^^^ x.getD (c+3) 0) (x.getD (c+i) 0) (x.getD (c+(i+1) % 4) 0)
def AP (x:bY):bY:=(List.range 16).map fun k=>aaA x (4 * (k / 4)) (k % 4)
theorem iQ (a b:bY)(n:Nat)(ha:a.length=n)(hb:b.length=n):(mg a b).length=n:=by simp [mg,ha,hb]
theorem qm (x:bY):(uI x).length=x.length:=by simp [uI]
theorem lC (x:bY):(oz x).length=16:=by simp [oz]
theorem qo (x:bY):(AP x).length=16:=by simp [AP]
theorem sixteen {α:Type}(x:List α)(h:x.length=16):∃ a0 a1 a2 a3 a4 a5 a6 a7 a8 a9 a10 a11 a12 a13 a14 a15,x=[a0,a1,a2,a3,a4,a5,a6,a7,a8,a9,a10,a11,a12,a13,a14,a15]:=by
 match x,h with
 | [a0,a1,a2,a3,a4,a5,a6,a7,a8,a9,a10,a11,a12,a13,a14,a15],_=>exact ⟨_,_,_,_,_,_,_,_,_,_,_,_,_,_,_,_,rfl⟩
theorem aaB (a b:bY)(ha:a.length=16)(hb:b.length=16):fB id (fun i=>a.getD i 0 ^^^ b.getD i 0) 16 a=mg a b:=by
 obtain ⟨a0,a1,a2,a3,a4,a5,a6,a7,a8,a9,a10,a11,a12,a13,a14,a15,rfl⟩:=sixteen a ha;obtain ⟨b0,b1,b2,b3,b4,b5,b6,b7,b8,b9,b10,b11,b12,b13,b14,b15,rfl⟩:=sixteen b hb;rfl
theorem aaC (f:BitVec 8→BitVec 8)(a:bY)(ha:a.length=16):fB id (fun i=>f (a.getD i 0)) 16 a=a.map f:=by
 obtain ⟨a0,a1,a2,a3,a4,a5,a6,a7,a8,a9,a10,a11,a12,a13,a14,a15,rfl⟩:=sixteen a ha;rfl
theorem Oa (f:Nat→BitVec 8):fB id f 16 (aC 16)=(List.range 16).map f:=by rfl
def stepW (w:bY)(i:Nat):bY :=
 if i % 8=0 then [aQ (w.getD 1 0) ^^^ pw (i / 8 - 1),aQ (w.getD 2 0),aQ (w.getD 3 0),aQ (w.getD 0 0)]
 else if i % 8=4 then [aQ (w.getD 0 0),aQ (w.getD 1 0),aQ (w.getD 2 0),aQ (w.getD 3 0)]
 else [w.getD 0 0,w.getD 1 0,w.getD 2 0,w.getD 3 0]
def y9 (l:bY)(i:Nat):bY:=(l.drop (4 * i)).take 4
def nextL (l:bY)(i:Nat):bY:=mg (stepW (y9 l (i - 1)) i) (y9 l (i - 8))
def ED (k:bY):Nat→bY
 | 0=>k
 | n+1=>ED k n++nextL (ED k n) (n+8)
theorem sN (w:bY)(i:Nat):(stepW w i).length=4:=by unfold stepW; split <;> (try split) <;> rfl
theorem KN (l:bY)(i:Nat)(h:4 * i+4≤l.length):(y9 l i).length=4:=by simp [y9]; omega
theorem uU (k:bY)(hk:k.length=32)(n:Nat):(ED k n).length=32+4 * n:=by
 induction n with
 | zero=>exact hk
 | succ n ih =>
   rw [ED,List.length_append,ih,nextL,iQ _ _ 4 (sN _ _) (KN _ _ (by rw [ih]; omega))];omega
def keysL (k:bY):bY:=ED k 52
theorem lF (k:bY)(hk:k.length=32):(keysL k).length=240:=uU k hk 52
def jA (M:bY)(i:Nat):bY:=(M.drop (16 * i)).take 16
theorem fZ (M:bY)(h:M.length=240)(i:Nat)(hi:i<15):(jA M i).length=16:=by simp [jA,h]; omega
def jT (M:bY)(b:bY):Nat→bY
 | 0=>mg b (jA M 0)
 | n+1=>mg (AP (oz (uI (jT M b n)))) (jA M (n+1))
def ry (M:bY)(b:bY):bY:=mg (oz (uI (jT M b 13))) (jA M 14)
theorem oH (M b:bY)(hM:M.length=240)(hb:b.length=16):∀ n,n≤13→(jT M b n).length=16:=by
 intro n hn;cases n with
 | zero=>exact iQ _ _ 16 hb (fZ M hM 0 (by omega))
 | succ n=>exact iQ _ _ 16 (qo _) (fZ M hM _ (by omega))
theorem sO (M b:bY)(hM:M.length=240):(ry M b).length=16:=iQ _ _ 16 (lC _) (fZ M hM _ (by omega))
end
section
open Go.RowKit
theorem zf (l m:bY)(j:Nat)(h:j<l.length):(l++m).getD j 0=l.getD j 0:=by
 simp [List.getD,List.getElem?_append_left h]
theorem xX (l m:bY)(n j:Nat)(h:l.length=n):(l++m).getD (n+j) 0=m.getD j 0:=by
 subst h;simp [List.getD,List.getElem?_append_right]
theorem Ob (k:bY)(hk:k.length=32)(n m j:Nat)(h:j<32+4 * n):(ED k (n+m)).getD j 0=(ED k n).getD j 0:=by
 induction m with
 | zero=>rfl
 | succ m ih=>rw [← Nat.add_assoc,ED,zf _ _ _ (by rw [uU k hk]; omega),ih]
theorem mr (k:bY)(hk:k.length=32)(n j:Nat)(hn:n≤52)(h:j<32+4 * n):(keysL k).getD j 0=(ED k n).getD j 0:=by
 have:=Ob k hk n (52 - n) j h;rwa [show n+(52 - n)=52 by omega] at this
theorem aaD (k:bY)(hk:k.length=32)(j:Nat)(h:j<32):(keysL k).getD j 0=k.getD j 0:=mr k hk 0 j (by omega) (by omega)
theorem aaE (l:bY)(i:Nat)(h:4 * i+4≤l.length):y9 l i=[l.getD (4 * i) 0,l.getD (4 * i+1) 0,l.getD (4 * i+2) 0,l.getD (4 * i+3) 0]:=by
 apply List.ext_getElem
 ·simp [y9]; omega
 intro j h1 h2;have hj:j<4:=by simpa using h2
 have:∀ j,j<4→(y9 l i)[j]? = some (l.getD (4 * i+j) 0):=by
  intro j hj;have:4 * i+j<l.length:=by omega
  simp [y9,hj,this]
 have e:=this j hj;rw [List.getElem?_eq_getElem h1] at e;rw [Option.some.inj e];match j,hj with
 | 0,_ | 1,_ | 2,_ | 3,_=>rfl
def tw (T:bY)(i:Nat):bY:=[T.getD (4 * i) 0,T.getD (4 * i+1) 0,T.getD (4 * i+2) 0,T.getD (4 * i+3) 0]
theorem al3 (T:bY)(i j:Nat)(h:j<4):(tw T i).getD j 0=T.getD (4 * i+j) 0:=by
 match j,h with
 | 0,_ | 1,_ | 2,_ | 3,_=>rfl
theorem Xp (k:bY)(hk:k.length=32)(i j:Nat)(h8:8≤i)(h60:i<60)(hj:j<4) :
 (keysL k).getD (4 * i+j) 0=(stepW (tw (keysL k) (i - 1)) i).getD j 0 ^^^ (keysL k).getD (4 * (i - 8)+j) 0:=by
 obtain ⟨n,rfl⟩:∃ n,i=n+8:=⟨i - 8,by omega⟩
 have hl:=uU k hk n
 have ew:∀ p,p<n+8→y9 (ED k n) p=tw (keysL k) p:=by
  intro p hp;rw [aaE _ _ (by rw [hl]; omega)];unfold tw;rw [mr k hk n (4 * p) (by omega) (by omega),mr k hk n (4 * p+1) (by omega) (by omega),mr k hk n (4 * p+2) (by omega) (by omega),mr k hk n (4 * p+3) (by omega) (by omega)]
 rw [mr k hk (n+1) _ (by omega) (by omega),ED,show 4 * (n+8)+j=(32+4 * n)+j by omega,xX _ _ _ _ hl,nextL,ew _ (by omega),ew _ (by omega),← al3 _ _ _ hj]
 have h4:=sN (tw (keysL k) (n+8 - 1)) (n+8)
 have hz:∀ a b:bY,a.length=4→b.length=4→(mg a b).getD j 0=a.getD j 0 ^^^ b.getD j 0:=by
  intro a b ha hb;simp [mg,ha,hb,hj]
 exact hz _ _ h4 rfl
end
section
open Go.RowKit
def aF (l:bY):Array Value:=(l.map fun b=>Value.int .u8 (yv b)).toArray
theorem aN (l:bY):(aF l).size=l.length:=by simp [aF]
theorem EE (l:bY)(k:Nat)(h:k<l.length):(aF l)[k]? = some (.int .u8 (yv (l.getD k 0))):=by simp [aF,h]
theorem dJ (l:bY):(aF l).all (·.oneCell')=true:=by
 rw [Array.all_eq_true_iff_forall_mem];intro v hv;simp only [aF,List.mem_toArray,List.mem_map] at hv;obtain ⟨n,_,rfl⟩:=hv;rfl
theorem EF (n:Nat):aF (aC n)=Array.replicate n (.int .u8 0):=by
 apply Array.ext';simp [aF,aC]; exact .inr rfl
def aU (w:World)(g t:Nat)(l:bY):Prop:=w.heap[g]? = some (.cells (aF l) t (0,0))
theorem aU.cell {w:World}{g t:Nat}{l:bY}(h:aU w g t l){k:Nat}(hk:k<l.length):w.cell? ⟨g,k,none⟩=some (.int .u8 (yv (l.getD k 0))):=by
 rw [cell_of_row w g k _ _ _ h]; exact EE l k hk
theorem aU.free {w:World}{g t:Nat}{l:bY}(h:aU w g t l)(k:Nat):w.frozen? ⟨g,k,none⟩=false:=frozen_of_row w g k _ _ h
theorem aU.set {w:World}{g t:Nat}{l:bY}(h:aU w g t l)(k:Nat)(v:BitVec 8):aU (w.setCell ⟨g,k,none⟩ (.int .u8 (yv v))) g t (l.set k v):=by
 unfold aU;rw [heap_setCell_same w g k _ _ _ h];congr 2;simp only [aF,List.setIfInBounds_toArray,List.map_set]
theorem aU.other {w:World}{g t:Nat}{l:bY}(h:aU w g t l)(a:Addr)(v:Value)(hne:g ≠ a.block):aU (w.setCell a v) g t l:=by
 unfold aU;rw [heap_setCell_other w a g v hne]; exact h
theorem aU.below {w' w:World}{g t B:Nat}{l:bY}(h:aU w g t l)(hb:Below B w w')(hg:g<B):aU w' g t l:=(hb.block g hg).trans h
theorem aU.range {w:World}{g t:Nat}{l:bY}(h:aU w g t l)(o n:Nat):w.rangeAt g o (aF ((l.drop o).take n)).toList:=by
 intro j v hv;rw [cell_of_row w g (o+j) _ _ _ h];have hj:j<((l.drop o).take n).length:=by
  have:=(List.getElem?_eq_some_iff.1 hv).1;simpa [aF] using this
 rw [Array.getElem?_toList,EE _ _ hj] at hv;have h2:o+j<l.length:=by simp at hj; omega
 rw [EE _ _ h2,← hv];congr 3;simp at hj;simp [List.getD,hj,h2]
theorem aU.all {w:World}{g t:Nat}{l:bY}(h:aU w g t l):w.rangeAt g 0 (aF l).toList:=fun j v hv=>by
 rw [cell_of_row w g (0+j) _ _ _ h,Nat.zero_add,← Array.getElem?_toList]; exact hv
theorem aU.there {w:World}{g t:Nat}{l:bY}(h:aU w g t l)(o n:Nat)(hn:o+n≤l.length):w.there g o n:=fun j hj=>⟨by rw [h.cell (k:=o+j) (by omega)]; rfl,h.free _⟩
theorem aU.put (t:Nat)(g:Nat)(ys:bY):∀ (o:Nat) (l:bY) (w:World),aU w g t l→o+ys.length≤l.length→aU (w.setCells g o (aF ys).toList) g t (fK l o ys):=by
 induction ys with
 | nil=>intro o l w h _; simpa [aF,fK,World.setCells] using h
 | cons y ys ih =>
   intro o l w h hl;simp only [List.length_cons] at hl;rw [← ru l o y ys (by omega)];exact ih (o+1) _ _ (h.set o y) (by rw [List.length_set]; omega)
theorem xY {P:Program}(T E:TypeId)(n:Nat)(cs:Array Value)(k:Nat)(v:Value)(i0:TypeInfo)(d:TypeDesc)(hu:P.underlying T=some (.array n E))(hE:P.underlying E=some d)
 (hd:(match d with | .struct _ | .array _ _=>true | _=>false)=false) (hi:P.info? E=some i0) (hs:i0.size=1) (hk:k<n) (hv:cs[k]? = some v) (w:World) :
 (Instr.index T (.agg cs) (.int .i64 (k:Int))).run P w = .ok v w:=by
 have hagg:(isAgg E).run P w = .ok false w:=by
  unfold isAgg;rw [Sem.run_bind,run_underlying hE w];cases d <;> simp_all
 have hpart:(part E cs k).run P w = .ok v w:=by
  unfold part;rw [Sem.run_bind,hagg];simp [hv]
 simp [Instr.index,asIntOf,run_underlying hu,hk,sizeOf,typeInfo,hi,hs,hpart]
theorem sQ:(Tryz.prog.info? 5).map (·.size)=some 1:=by kernel_rfl
theorem zg (l:bY)(hl:l.length=16)(k:Nat)(h:k<16)(w:World):(Instr.index 252 (.agg (aF l)) (.int .i64 (k:Int))).run Tryz.prog w = .ok (.int .u8 (yv (l.getD k 0))) w:=by
 obtain ⟨i0,hi,hs⟩:=Option.map_eq_some_iff.1 sQ;exact xY _ _ _ _ k _ i0 _ Tryz.underlying252 Tryz.underlying5 rfl hi hs h (EE l k (by omega)) w
theorem BO (l:bY)(hl:l.length=4)(k:Nat)(h:k<4)(w:World):(Instr.index 267 (.agg (aF l)) (.int .i64 (k:Int))).run Tryz.prog w = .ok (.int .u8 (yv (l.getD k 0))) w:=by
 obtain ⟨i0,hi,hs⟩:=Option.map_eq_some_iff.1 sQ;exact xY _ _ _ _ k _ i0 _ Tryz.underlying267 Tryz.underlying5 rfl hi hs h (EE l k (by omega)) w
theorem EG:(Tryz.prog.info? 252).map (·.size)=some 16:=by kernel_rfl
theorem dE (l:bY)(h:l.length=16):(Tryz.prog.info? 252).map (·.size)=some (aF l).size:=by rw [EG,aN,h]
theorem aaF:(Tryz.prog.info? 58).map (·.size)=some 32:=by kernel_rfl
theorem rC (l:bY)(h:l.length=32):(Tryz.prog.info? 58).map (·.size)=some (aF l).size:=by rw [aaF,aN,h]
theorem Xq:(Tryz.prog.info? 267).map (·.size)=some 4:=by kernel_rfl
theorem wC (l:bY)(h:l.length=4):(Tryz.prog.info? 267).map (·.size)=some (aF l).size:=by rw [Xq,aN,h]
theorem Si:(Tryz.prog.info? 268).map (·.size)=some 240:=by kernel_rfl
theorem zh (l:bY)(h:l.length=240):(Tryz.prog.info? 268).map (·.size)=some (aF l).size:=by rw [Si,aN,h]
theorem Oc:(Tryz.prog.info? 261).map (·.size)=some 240:=by kernel_rfl
theorem BP (l:bY)(h:l.length=240):(Tryz.prog.info? 261).map (·.size)=some (aF l).size:=by rw [Oc,aN,h]
theorem rE (w:World)(A B:Obj):((w.alloc A).alloc B).heap[w.heap.size]? = some A∧((w.alloc A).alloc B).heap[w.heap.size+1]? = some B∧((w.alloc A).alloc B).heap.size=w.heap.size+2∧Below w.heap.size w ((w.alloc A).alloc B):=by
 refine ⟨?_, ?_,by simp,((Below.refl w.heap.size w).alloc (Nat.le_refl _) A).alloc (by simp) B⟩
 ·rw [Below.heap_alloc _ _ _ (by simp)]; exact heap_alloc_new w A
 have:=heap_alloc_new (w.alloc A) B;simpa using this
theorem aaG {P:Program}{c:Code}{Q:Exit→Act→World→Prop}{a:Act}{w:World}{A B:Obj}
 (h:∀ W0:World,W0.heap[w.heap.size]? = some A∧W0.heap[w.heap.size+1]? = some B∧W0.heap.size=w.heap.size+2∧Below w.heap.size w W0→c.wp P Q a W0) :
 c.wp P Q a ((w.alloc A).alloc B):=h _ (rE w A B)
theorem AQ (w:World)(A B C:Obj):(((w.alloc A).alloc B).alloc C).heap[w.heap.size]? = some A∧(((w.alloc A).alloc B).alloc C).heap[w.heap.size+1]? = some B ∧
 (((w.alloc A).alloc B).alloc C).heap[w.heap.size+1+1]? = some C∧(((w.alloc A).alloc B).alloc C).heap.size=w.heap.size+3∧Below w.heap.size w (((w.alloc A).alloc B).alloc C):=by
 refine ⟨?_, ?_, ?_,by simp,(((Below.refl w.heap.size w).alloc (Nat.le_refl _) A).alloc (by simp) B).alloc (by simp; omega) C⟩
 ·rw [Below.heap_alloc _ _ _ (by simp; omega),Below.heap_alloc _ _ _ (by simp)]; exact heap_alloc_new w A
 ·rw [Below.heap_alloc _ _ _ (by simp)]
  have:=heap_alloc_new (w.alloc A) B;simpa using this
 ·have:=heap_alloc_new ((w.alloc A).alloc B) C
  simpa using this
theorem Vz {P:Program}{c:Code}{Q:Exit→Act→World→Prop}{a:Act}{w:World}{A B C:Obj}
 (h:∀ W0:World,W0.heap[w.heap.size]? = some A∧W0.heap[w.heap.size+1]? = some B∧W0.heap[w.heap.size+1+1]? = some C∧W0.heap.size=w.heap.size+3∧Below w.heap.size w W0→c.wp P Q a W0) :
 c.wp P Q a (((w.alloc A).alloc B).alloc C):=h _ (AQ w A B C)
theorem jL {B:Nat}{a w:World}(h:Below B a w)(n:Nat):Below B a (w.drewN n):=⟨h.os,h.tape,h.output,h.size,h.block⟩
theorem Sj {P:Program}{c:Code}{Q:Exit→Act→World→Prop}{a:Act}{w:World}{n:Nat}(h:∀ W:World,(∀ k:Nat,W.heap[k]? = w.heap[k]?)∧W.heap.size=w.heap.size∧(∀ B a,Below B a w→Below B a W)→c.wp P Q a W):c.wp P Q a (w.drewN n) :=
 h _ ⟨fun _=>rfl,rfl,fun _ _ hb=>jL hb n⟩
theorem aG {B:Nat}{a w:World}(h:Below B a w){g:Nat}(hg:B≤g)(cs:Array Value):Below B a (w.setRow g cs) :=
 h.trans ⟨rfl,rfl,rfl,by simp,fun k hk=>setRow_other _ g k cs (by omega)⟩
end
section
open Go.RowKit
theorem Sl (b:BitVec 8)(w:World):Calls Tryz.prog 174 #[.int .u8 (yv b)] w fun e w'=>e = .returned (.int .u8 (yv (dbl b)))∧w'=w:=by
 have hd:=ah2 b;have h0:=aaz b;have h1:=alZ b;have H:=hid hd;clear hd;go_in;go_wp2
 go_ret;exact ⟨by rw [H.out]; rfl,rfl⟩
theorem Xr (s:ByteArray)(b c:BitVec 8)(h:s.data[b.toNat]? = some ⟨c⟩)(w:World):(Instr.index 9 (.string s) (.int .u8 (yv b))).run Tryz.prog w = .ok (.int .u8 (yv c)) w:=by
 have h0:=aaz b;have e:s[(yv b).toNat]? = some ⟨c⟩:=by
  have e2:(yv b).toNat=b.toNat:=by unfold yv; simp
  rw [e2,← h]; rfl
 simp [Instr.index,asIntOf,run_underlying Tryz.underlying9,h0,e];rfl
def byteOf (b:BitVec 8):UInt8:=⟨b⟩
theorem ah3 (l:bY)(hl:l.length=256)(b:BitVec 8):(l.map byteOf).toArray[b.toNat]? = some ⟨l.getD b.toNat 0⟩:=by
 have:=b.isLt;simp [hl,byteOf,this]
theorem KO:KL.length=256:=by decide +kernel
theorem VA (b:BitVec 8)(w:World):Calls Tryz.prog 176 #[.int .u8 (yv b)] w fun e w'=>e = .returned (.int .u8 (yv (aQ b)))∧w'=w:=by
 go_in;generalize hs:ByteArray.mk _=S;have hi:=fun w=>Xr S b (aQ b) (by rw [show S.data=(KL.map byteOf).toArray by rw [← hs]; kernel_rfl]; exact ah3 KL KO b) w;clear hs;go_wp2
 go_ret;exact ⟨rfl,rfl⟩
theorem Sr (i:Nat)(w:World)(hi:i<16):Calls Tryz.prog 175 #[.int .i64 i] w fun e w'=>e = .returned (.int .i64 (org i:Nat))∧w'=w:=by
 have h0:(0:Int)≤(i:Int):=by omega
 have h1:(i:Int)<16:=by omega
 have h2:(0:Int)≤(i:Int) % 4:=by omega
 have h3:(i:Int) % 4<4:=by omega
 have HO:=hid (show ((i:Int)+(i:Int) % 4 * 4) % 16=(org i:Nat) by unfold org; omega);clear hi;go_in;go_wp2
 go_ret;exact ⟨by rw [← HO.out]; rfl,rfl⟩
end
section
open Go.RowKit
theorem xZ (a b:bY)(w:World)(ha:a.length=16)(hb:b.length=16) :
 Calls Tryz.prog 169 #[.agg (aF a),.agg (aF b)] w fun e w'=>e = .returned (.agg (aF (mg a b)))∧Below w.heap.size w w':=by
 have wE:=hid ha
 have EH:=hid hb
 have HIB:=hid (zg b hb)
 have SB:=hid (dE b hb)
 clear ha hb
 go_in
 go_wp2_with (first
  | (with_reducible refine wpList_load_row (o:=⟨some 7,_,_,_,_,_⟩) rfl 252 _ rfl (w.heap.size+1) rfl 252 (aF b) (0,0) _ (AQ w _ _ _).2.1 Tryz.underlying252 rfl SB.out ?_))
 refine Vz fun W0 hW=>?_
 obtain ⟨h0,_,h2,hsz,hbel⟩:=hW
 have HX0:=hid (show aU W0 w.heap.size 252 a from h0)
 have HR:=hid (show aU W0 (w.heap.size+1+1) 252 (aC 16) from h2)
 have HB:=hid hbel
 clear h0 h2 hsz hbel
 generalize hP0:w.heap.size=P0 at *
 have yS:=hid hP0
 clear hP0
 go_loopw [8] (fun v8 wr=>∃ i:Nat,i≤16∧v8 = .int .i64 (i:Nat)∧aU wr P0 252 (fB id (fun j=>a.getD j 0 ^^^ b.getD j 0) i a)∧aU wr (P0+1+1) 252 (aC 16)∧Below P0 w wr) (fun v _=>16 - (intOf v).toNat)
 case atStart=>exact ⟨0,by omega,rfl,HX0.out,HR.out,HB.out⟩
 case round =>
  obtain ⟨i,hi,rfl,hA,hR,hb⟩:=hrel;by_cases hlt:i<16
  ·have hix:=HIB.out i hlt
   have ci:=hA.cell (k:=i) (by rw [dD,wE.out]; exact hlt);rw [DL] at ci;have fi:=hA.free i;have hx:=AO (a.getD i 0) (b.getD i 0);have HST:=hid (show fB id (fun j=>a.getD j 0 ^^^ b.getD j 0) (i+1) a=(fB id (fun j=>a.getD j 0 ^^^ b.getD j 0) i a).set i (a.getD i 0 ^^^ b.getD i 0) from rfl);have HA:=hid hA;have HR2:=hid hR;have HB2:=hid hb;have bn:=hid hlt;have hiI:(i:Int)<16:=by omega
   have hi0:(0:Int)≤(i:Int):=by omega
   generalize a.getD i 0=x at *;generalize b.getD i 0=y at *;clear hA hR hb hlt hi;go_wp2_with fail;go_roundw
   case rel=>exact ⟨i+1,by have:=bn.out; omega,by go_num,by rw [HST.out]; exact HA.out.set i _,HR2.out.other _ _ (show P0+1+1 ≠ P0 by omega),HB2.out.setCell (p:=⟨P0,i,none⟩) (Nat.le_refl _) _⟩
   case measure=>simp [intOf]; omega
  have hge:(16:Int)≤(i:Int):=by omega
  obtain rfl:i=16:=by omega
  have e:=aaB a b wE.out EH.out;rw [e] at hA;have HA:=hid (show wr.heap[P0]? = some (.cells (aF (mg a b)) 252 (0,0)) from hA);have HR1:=hid (show wr.heap[P0+1+1]? = some (.cells (aF (aC 16)) 252 (0,0)) from hR);have SH:=hid (dE (mg a b) (iQ a b 16 wE.out EH.out));have SE:=hid (show (aF (aC 16)).size=(aF (mg a b)).size by rw [aN,aN,iQ a b 16 wE.out EH.out]; rfl);have HB2:=hid hb;clear hlt hi hA hb e hR;go_wp2_with (first
   | (with_reducible refine wpList_load_row (o:=⟨some 19,_,_,_,_,_⟩) rfl 252 _ rfl (P0) rfl 252 (aF (mg a b)) (0,0) _ HA.out Tryz.underlying252 rfl SH.out ?_)
   | (with_reducible refine wpList_store_row (o:=⟨none,.store _ (.tmp 4) _,_,_,_,_⟩) rfl 252 _ _ rfl (P0+1+1) (aF (mg a b)) rfl rfl 252 (aF (aC 16)) HR1.out SH.out SE.out (dJ _) ?_))
  refine bodyPost_ret (v := .agg (aF (mg a b))) (results_cell_row Tryz.results169 _ _ (P0+1+1) 252 (aF (mg a b)) (0,0) _ rfl (setRow_heap _ (P0+1+1) _ (aF (mg a b)) _ _ HR1.out) Tryz.underlying252 rfl SH.out) rfl ⟨rfl, ?_⟩;rw [yS.out];exact aG HB2.out (by omega) _
theorem Ja (a:bY)(w:World)(ha:a.length=16) :
 Calls Tryz.prog 172 #[.agg (aF a)] w fun e w'=>e = .returned (.agg (aF (uI a)))∧Below w.heap.size w w':=by
 have wE:=hid ha
 have HIB:=hid (zg a ha)
 have SB:=hid (dE a ha)
 clear ha
 go_in
 go_wp2_with (first
  | (with_reducible refine wpList_load_row (o:=⟨some 5,_,_,_,_,_⟩) rfl 252 _ rfl w.heap.size rfl 252 (aF a) (0,0) _ (rE w _ _).1 Tryz.underlying252 rfl SB.out ?_))
 refine aaG fun W0 hW=>?_
 obtain ⟨h0,h2,hsz,hbel⟩:=hW
 have HX0:=hid (show aU W0 w.heap.size 252 a from h0)
 have HR:=hid (show aU W0 (w.heap.size+1) 252 (aC 16) from h2)
 have HB:=hid hbel
 have HZ:=hid (show w.heap.size<W0.heap.size by omega)
 clear h0 h2 hsz hbel
 generalize hP0:w.heap.size=P0 at *
 have yS:=hid hP0
 clear hP0
 go_loopw [6] (fun v6 wr=>∃ i:Nat,i≤16∧v6 = .int .i64 (i:Nat)∧aU wr P0 252 (fB id (fun j=>aQ (a.getD j 0)) i a)∧aU wr (P0+1) 252 (aC 16)∧Below P0 w wr) (fun v _=>16 - (intOf v).toNat)
 case atStart=>exact ⟨0,by omega,rfl,HX0.out,HR.out,HB.out⟩
 case round =>
  obtain ⟨i,hi,rfl,hA,hR,hb⟩:=hrel;by_cases hlt:i<16
  ·have hix:=HIB.out i hlt
   have ci:=hA.cell (k:=i) (by rw [dD,wE.out]; exact hlt);rw [DL] at ci;have fi:=hA.free i;have HC:=hid (fun w=>VA (a.getD i 0) w);have HST:=hid (show fB id (fun j=>aQ (a.getD j 0)) (i+1) a=(fB id (fun j=>aQ (a.getD j 0)) i a).set i (aQ (a.getD i 0)) from rfl);have HA:=hid hA;have HR2:=hid hR;have HB2:=hid hb;have bn:=hid hlt;have hiI:(i:Int)<16:=by omega
   have hi0:(0:Int)≤(i:Int):=by omega
   generalize a.getD i 0=x at *;clear hA hR hb hlt hi;go_wp2_with fail;refine (HC.out _).mono ?_;rintro e w1 ⟨rfl,rfl⟩;go_wp2_with fail;go_roundw
   case rel=>exact ⟨i+1,by have:=bn.out; omega,by go_num,by rw [HST.out]; exact HA.out.set i _,HR2.out.other _ _ (show P0+1 ≠ P0 by omega),HB2.out.setCell (p:=⟨P0,i,none⟩) (Nat.le_refl _) _⟩
   case measure=>simp [intOf]; omega
  have hge:(16:Int)≤(i:Int):=by omega
  obtain rfl:i=16:=by omega
  have e:=aaC aQ a wE.out;rw [e] at hA;have HA:=hid (show wr.heap[P0]? = some (.cells (aF (uI a)) 252 (0,0)) from hA);have HR1:=hid (show wr.heap[P0+1]? = some (.cells (aF (aC 16)) 252 (0,0)) from hR);have SH:=hid (dE (uI a) ((qm a).trans wE.out));have SE:=hid (show (aF (aC 16)).size=(aF (uI a)).size by rw [aN,aN,qm,wE.out]; rfl);have HB2:=hid hb;clear hlt hi hA hb e hR;go_wp2_with (first
   | (with_reducible refine wpList_load_row (o:=⟨some 15,_,_,_,_,_⟩) rfl 252 _ rfl (P0) rfl 252 (aF (uI a)) (0,0) _ HA.out Tryz.underlying252 rfl SH.out ?_)
   | (with_reducible refine wpList_store_row (o:=⟨none,.store _ (.tmp 2) _,_,_,_,_⟩) rfl 252 _ _ rfl (P0+1) (aF (uI a)) rfl rfl 252 (aF (aC 16)) HR1.out SH.out SE.out (dJ _) ?_))
  refine bodyPost_ret (v := .agg (aF (uI a))) (results_cell_row Tryz.results172 _ _ (P0+1) 252 (aF (uI a)) (0,0) _ rfl (setRow_heap _ (P0+1) _ (aF (uI a)) _ _ HR1.out) Tryz.underlying252 rfl SH.out) rfl ⟨rfl, ?_⟩;rw [yS.out];exact aG HB2.out (by omega) _
end
section
open Go.RowKit
theorem EI (a:bY)(w:World)(ha:a.length=16) :
 Calls Tryz.prog 171 #[.agg (aF a)] w fun e w'=>e = .returned (.agg (aF (oz a)))∧Below w.heap.size w w':=by
 have wE:=hid ha
 clear ha
 go_in
 go_wp2
 refine Vz fun W0 hW=>?_
 obtain ⟨h0,h1,h2,hsz,hbel⟩:=hW
 have HX0:=hid (show aU W0 w.heap.size 252 a from h0)
 have HR:=hid (show aU W0 (w.heap.size+1) 252 (aC 16) from h1)
 have HM:=hid (show aU W0 (w.heap.size+1+1) 252 (aC 16) from h2)
 have HB:=hid hbel
 clear h0 h1 h2 hsz hbel
 generalize hP0:w.heap.size=P0 at *
 have yS:=hid hP0
 clear hP0
 go_loopw [5] (fun v5 wr=>∃ i:Nat,i≤16∧v5 = .int .i64 (i:Nat)∧aU wr (P0+1+1) 252 (fB id (fun j=>a.getD (org j) 0) i (aC 16))∧Below (P0+1+1) W0 wr) (fun v _=>16 - (intOf v).toNat)
 case atStart=>exact ⟨0,by omega,rfl,HM.out,Below.refl _ _⟩
 case round =>
  obtain ⟨i,hi,rfl,hA,hb⟩:=hrel;by_cases hlt:i<16
  ·have hX:=HX0.out.below hb (show P0<P0+1+1 by omega)
   have HO:=hid (fun w=>Sr i w hlt);obtain ⟨q,hq,hq2⟩:∃ q,org i=q∧q<16:=⟨_,rfl,by unfold org; omega⟩
   rw [hq] at HO;have cb:=hX.cell (k:=q) (by rw [wE.out]; exact hq2);have ci:=hA.cell (k:=i) (by rw [dD]; exact hlt);have fi:=hA.free i;have HST:=hid (show fB id (fun j=>a.getD (org j) 0) (i+1) (aC 16)=(fB id (fun j=>a.getD (org j) 0) i (aC 16)).set i (a.getD q 0) from by rw [← hq]; rfl);have HA:=hid hA;have HB2:=hid hb;have bn:=hid hlt;have hiI:(i:Int)<16:=by omega
   have hi0:(0:Int)≤(i:Int):=by omega
   have hqI:(q:Int)<16:=by omega
   have hq0:(0:Int)≤(q:Int):=by omega
   generalize a.getD q 0=x at *;generalize (fB id (fun j=>a.getD (org j) 0) i (aC 16)).getD i 0=old at *;clear hA hb hlt hi hX hq hq2;go_wp2_with fail;refine (HO.out _).mono ?_;rintro e w1 ⟨rfl,rfl⟩;go_wp2_with fail;go_roundw
   case rel=>exact ⟨i+1,by have:=bn.out; omega,by go_num,by rw [HST.out]; exact HA.out.set i _,HB2.out.setCell (p:=⟨P0+1+1,i,none⟩) (Nat.le_refl _) _⟩
   case measure=>simp [intOf]; omega
  have hge:(16:Int)≤(i:Int):=by omega
  obtain rfl:i=16:=by omega
  rw [Oa] at hA;have HA:=hid (show wr.heap[P0+1+1]? = some (.cells (aF (oz a)) 252 (0,0)) from hA);have HR1:=hid (show wr.heap[P0+1]? = some (.cells (aF (aC 16)) 252 (0,0)) from HR.out.below hb (by omega));have SH:=hid (dE (oz a) (lC _));have SE:=hid (show (aF (aC 16)).size=(aF (oz a)).size by rw [aN,aN,lC _]; rfl);have HB2:=hid (HB.out.trans (hb.mono (by omega)));clear hlt hi hA hb;go_wp2_with (first
   | (with_reducible refine wpList_load_row (o:=⟨some 15,_,_,_,_,_⟩) rfl 252 _ rfl (P0+1+1) rfl 252 (aF (oz a)) (0,0) _ HA.out Tryz.underlying252 rfl SH.out ?_)
   | (with_reducible refine wpList_store_row (o:=⟨none,.store _ (.tmp 2) _,_,_,_,_⟩) rfl 252 _ _ rfl (P0+1) (aF (oz a)) rfl rfl 252 (aF (aC 16)) HR1.out SH.out SE.out (dJ _) ?_))
  refine bodyPost_ret (v := .agg (aF (oz a))) (results_cell_row Tryz.results171 _ _ (P0+1) 252 (aF (oz a)) (0,0) _ rfl (setRow_heap _ (P0+1) _ (aF (oz a)) _ _ HR1.out) Tryz.underlying252 rfl SH.out) rfl ⟨rfl, ?_⟩;rw [yS.out];exact aG HB2.out (by omega) _
end
section
open Go.RowKit
def EJ (a:bY)(k:Nat):BitVec 8:=aaA a (4 * (k / 4)) (k % 4)
theorem Xt (a:bY)(w:World)(ha:a.length=16) :
 Calls Tryz.prog 170 #[.agg (aF a)] w fun e w'=>e = .returned (.agg (aF (AP a)))∧Below w.heap.size w w':=by
 have wE:=hid ha
 clear ha
 go_in
 go_wp2
 refine Vz fun W0 hW=>?_
 obtain ⟨h0,h1,h2,hsz,hbel⟩:=hW
 have HX0:=hid (show aU W0 w.heap.size 252 a from h0)
 have HR:=hid (show aU W0 (w.heap.size+1) 252 (aC 16) from h1)
 have HM:=hid (show aU W0 (w.heap.size+1+1) 252 (aC 16) from h2)
 have HB:=hid hbel
 clear h0 h1 h2 hsz hbel
 generalize hP0:w.heap.size=P0 at *
 have yS:=hid hP0
 clear hP0
 go_loopw [4] (fun v4 wr=>∃ q c:Nat,q≤4∧c=4 * q∧v4 = .int .i64 (c:Nat)∧aU wr (P0+1+1) 252 (fB id (EJ a) c (aC 16))∧Below (P0+1+1) W0 wr) (fun v _=>16 - (intOf v).toNat)
 case atStart=>exact ⟨0,0,by omega,rfl,rfl,HM.out,Below.refl _ _⟩
 case round =>
  obtain ⟨q,c,hq,hc,rfl,hA,hb⟩:=hrel;by_cases hlt:q<4
  ·have hX:=HX0.out.below hb (show P0<P0+1+1 by omega)
   have c0:=hX.cell (k:=c) (by rw [wE.out]; omega);have c1:=hX.cell (k:=c+1) (by rw [wE.out]; omega);have c2:=hX.cell (k:=c+2) (by rw [wE.out]; omega);have c3:=hX.cell (k:=c+3) (by rw [wE.out]; omega);have hall:EJ a=EJ a:=rfl;obtain ⟨x0,e0⟩:∃ x,a.getD c 0=x:=⟨_,rfl⟩
   obtain ⟨x1,e1⟩:∃ x,a.getD (c+1) 0=x:=⟨_,rfl⟩
   obtain ⟨x2,e2⟩:∃ x,a.getD (c+2) 0=x:=⟨_,rfl⟩
   obtain ⟨x3,e3⟩:∃ x,a.getD (c+3) 0=x:=⟨_,rfl⟩
   rw [e0] at c0;rw [e1] at c1;rw [e2] at c2;rw [e3] at c3;have HE:=hid (And.intro e0 (And.intro e1 (And.intro e2 e3)));have HQ:=hid (And.intro hq (And.intro hc hlt));have hcI:(c:Int)<13:=by omega
   have hc16:(c:Int)<16:=by omega
   have hc0:(0:Int)≤(c:Int):=by omega
   have HA:=hid hA;have HB2:=hid hb;have aap:=AO;clear hA hb hlt hX hq hc e0 e1 e2 e3 hall;go_wp2_with fail;go_quiet (fail);go_wp2_with fail;refine Sj fun W1 hW1=>?_;obtain ⟨hw1,_,hk1⟩:=hW1;have HA1:=hid (show aU W1 (P0+1+1) 252 (fB id (EJ a) c (aC 16)) from (hw1 _).trans HA.out);have HB1:=hid (hk1 _ _ HB2.out);clear hw1 hk1 c0 c1 c2 c3 aap;go_loopw [31] (fun v31 wr=>∃ i:Nat,i≤4∧v31 = .int .i64 (i:Nat)∧aU wr (P0+1+1) 252 (fB id (EJ a) (c+i) (aC 16))∧Below (P0+1+1) W0 wr) (fun v _=>4 - (intOf v).toNat)
   case atStart=>exact ⟨0,by omega,rfl,HA1.out,HB1.out⟩
   case round =>
    obtain ⟨i,hi,rfl,hA,hb⟩:=hrel;by_cases hlt:i<4
    ·have hX:=HX0.out.below hb (show P0<P0+1+1 by omega)
     obtain ⟨n,hn,hn2⟩:∃ n:Nat,((i:Int)+1) % 4=(n:Int)∧(i+1) % 4=n:=⟨(i+1) % 4,by omega,rfl⟩
     have hcq:=HQ.out;have ch:=hX.cell (k:=c+i) (by rw [wE.out]; omega);have cn:=hX.cell (k:=c+n) (by rw [wE.out]; omega);have ci:=hA.cell (k:=c+i) (by rw [dD]; show c+i<16; omega);have fi:=hA.free (c+i);have hmk:EJ a (c+i)=al1 (x0 ^^^ x1 ^^^ x2 ^^^ x3) (a.getD (c+i) 0) (a.getD (c+n) 0):=by
      unfold EJ aaA;rw [show 4 * ((c+i) / 4)=c by omega,show (c+i) % 4=i by omega,hn2,HE.out.1,HE.out.2.1,HE.out.2.2.1,HE.out.2.2.2]
     generalize a.getD (c+i) 0=h at *;generalize a.getD (c+n) 0=y at *;generalize (fB id (EJ a) (c+i) (aC 16)).getD (c+i) 0=old at *;have HST:=hid (show fB id (EJ a) (c+(i+1)) (aC 16)=(fB id (EJ a) (c+i) (aC 16)).set (c+i) (EJ a (c+i)) from rfl);have HMK:=hid hmk;have Am:=hid hA;have HB3:=hid hb;have bn:=hid hlt;have hiI:(i:Int)<4:=by omega
     have hi0:(0:Int)≤(i:Int):=by omega
     have hnI:(n:Int)<4:=by omega
     have hn0:(0:Int)≤(n:Int):=by omega
     have aap:=AO;clear hA hb hlt hi hX hcq hmk hn2;go_wp2_with fail;go_quiet (fail);go_wp2_with fail;refine (Sl (h ^^^ y) _).mono ?_;rintro e w1 ⟨rfl,rfl⟩;go_wp2_with fail;go_roundw
     case rel =>
      exact ⟨i+1,by have:=bn.out; omega,by go_num,by rw [HST.out,HMK.out]; exact aU.set (w:=_) Am.out (c+i) _,(jL HB3.out _).setCell (p:=⟨P0+1+1,c+i,none⟩) (Nat.le_refl _) _⟩
     case measure=>simp [intOf]; omega
    obtain rfl:i=4:=by omega
    have BI:=hid hA;have HB4:=hid hb;clear hA hb hlt hi;go_wp2_with fail;go_roundw
    case rel=>exact ⟨q+1,c+4,by have:=HQ.out; omega,by have:=HQ.out; omega,by go_num,BI.out,HB4.out⟩
    case measure=>simp [intOf]; omega
  have hge:(16:Int)≤(c:Int):=by omega
  obtain rfl:c=16:=by omega
  rw [Oa] at hA;have HA:=hid (show wr.heap[P0+1+1]? = some (.cells (aF (AP a)) 252 (0,0)) from hA);have HR1:=hid (show wr.heap[P0+1]? = some (.cells (aF (aC 16)) 252 (0,0)) from HR.out.below hb (by omega));have SH:=hid (dE (AP a) (qo _));have SE:=hid (show (aF (aC 16)).size=(aF (AP a)).size by rw [aN,aN,qo _]; rfl);have HB2:=hid (HB.out.trans (hb.mono (by omega)));clear hlt hq hc hA hb;go_wp2_with (first
   | (with_reducible refine wpList_load_row (o:=⟨some 59,_,_,_,_,_⟩) rfl 252 _ rfl (P0+1+1) rfl 252 (aF (AP a)) (0,0) _ HA.out Tryz.underlying252 rfl SH.out ?_)
   | (with_reducible refine wpList_store_row (o:=⟨none,.store _ (.tmp 2) _,_,_,_,_⟩) rfl 252 _ _ rfl (P0+1) (aF (AP a)) rfl rfl 252 (aF (aC 16)) HR1.out SH.out SE.out (dJ _) ?_))
  refine bodyPost_ret (v := .agg (aF (AP a))) (results_cell_row Tryz.results170 _ _ (P0+1) 252 (aF (AP a)) (0,0) _ rfl (setRow_heap _ (P0+1) _ (aF (AP a)) _ _ HR1.out) Tryz.underlying252 rfl SH.out) rfl ⟨rfl, ?_⟩;rw [yS.out];exact aG HB2.out (by omega) _
end
section
open Go.RowKit
def Ij (a:bY):bY:=[aQ (a.getD 0 0),aQ (a.getD 1 0),aQ (a.getD 2 0),aQ (a.getD 3 0)]
theorem aaH {α:Type}(x:List α)(h:x.length=4):∃ a0 a1 a2 a3,x=[a0,a1,a2,a3]:=by
 match x,h with
 | [a0,a1,a2,a3],_=>exact ⟨_,_,_,_,rfl⟩
theorem Xu (a:bY)(ha:a.length=4):fB id (fun j=>aQ (a.getD j 0)) 4 a=Ij a:=by
 obtain ⟨a0,a1,a2,a3,rfl⟩:=aaH a ha;rfl
theorem Ik (a:bY)(w:World)(ha:a.length=4) :
 Calls Tryz.prog 178 #[.agg (aF a)] w fun e w'=>e = .returned (.agg (aF (Ij a)))∧Below w.heap.size w w':=by
 have wE:=hid ha
 have HIB:=hid (BO a ha)
 have SB:=hid (wC a ha)
 clear ha
 go_in
 go_wp2_with (first
  | (with_reducible refine wpList_load_row (o:=⟨some 5,_,_,_,_,_⟩) rfl 267 _ rfl w.heap.size rfl 267 (aF a) (0,0) _ (rE w _ _).1 Tryz.underlying267 rfl SB.out ?_))
 refine aaG fun W0 hW=>?_
 obtain ⟨h0,h2,hsz,hbel⟩:=hW
 have HX0:=hid (show aU W0 w.heap.size 267 a from h0)
 have HR:=hid (show aU W0 (w.heap.size+1) 267 (aC 4) from h2)
 have HB:=hid hbel
 have HZ:=hid (show w.heap.size<W0.heap.size by omega)
 clear h0 h2 hsz hbel
 generalize hP0:w.heap.size=P0 at *
 have yS:=hid hP0
 clear hP0
 go_loopw [6] (fun v6 wr=>∃ i:Nat,i≤4∧v6 = .int .i64 (i:Nat)∧aU wr P0 267 (fB id (fun j=>aQ (a.getD j 0)) i a)∧aU wr (P0+1) 267 (aC 4)∧Below P0 w wr) (fun v _=>4 - (intOf v).toNat)
 case atStart=>exact ⟨0,by omega,rfl,HX0.out,HR.out,HB.out⟩
 case round =>
  obtain ⟨i,hi,rfl,hA,hR,hb⟩:=hrel;by_cases hlt:i<4
  ·have hix:=HIB.out i hlt
   have ci:=hA.cell (k:=i) (by rw [dD,wE.out]; exact hlt);rw [DL] at ci;have fi:=hA.free i;have HC:=hid (fun w=>VA (a.getD i 0) w);have HST:=hid (show fB id (fun j=>aQ (a.getD j 0)) (i+1) a=(fB id (fun j=>aQ (a.getD j 0)) i a).set i (aQ (a.getD i 0)) from rfl);have HA:=hid hA;have HR2:=hid hR;have HB2:=hid hb;have bn:=hid hlt;have hiI:(i:Int)<4:=by omega
   have hi0:(0:Int)≤(i:Int):=by omega
   generalize a.getD i 0=x at *;clear hA hR hb hlt hi;go_wp2_with fail;refine (HC.out _).mono ?_;rintro e w1 ⟨rfl,rfl⟩;go_wp2_with fail;go_roundw
   case rel=>exact ⟨i+1,by have:=bn.out; omega,by go_num,by rw [HST.out]; exact HA.out.set i _,HR2.out.other _ _ (show P0+1 ≠ P0 by omega),HB2.out.setCell (p:=⟨P0,i,none⟩) (Nat.le_refl _) _⟩
   case measure=>simp [intOf]; omega
  have hge:(4:Int)≤(i:Int):=by omega
  obtain rfl:i=4:=by omega
  rw [Xu a wE.out] at hA;have HA:=hid (show wr.heap[P0]? = some (.cells (aF (Ij a)) 267 (0,0)) from hA);have HR1:=hid (show wr.heap[P0+1]? = some (.cells (aF (aC 4)) 267 (0,0)) from hR);have SH:=hid (wC (Ij a) rfl);have SE:=hid (show (aF (aC 4)).size=(aF (Ij a)).size from rfl);have HB2:=hid hb;clear hlt hi hA hb hR;go_wp2_with (first
   | (with_reducible refine wpList_load_row (o:=⟨some 15,_,_,_,_,_⟩) rfl 267 _ rfl (P0) rfl 267 (aF (Ij a)) (0,0) _ HA.out Tryz.underlying267 rfl SH.out ?_)
   | (with_reducible refine wpList_store_row (o:=⟨none,.store _ (.tmp 2) _,_,_,_,_⟩) rfl 267 _ _ rfl (P0+1) (aF (Ij a)) rfl rfl 267 (aF (aC 4)) HR1.out SH.out SE.out (dJ _) ?_))
  refine bodyPost_ret (v := .agg (aF (Ij a))) (results_cell_row Tryz.results178 _ _ (P0+1) 267 (aF (Ij a)) (0,0) _ rfl (setRow_heap _ (P0+1) _ (aF (Ij a)) _ _ HR1.out) Tryz.underlying267 rfl SH.out) rfl ⟨rfl, ?_⟩;rw [yS.out];exact aG HB2.out (by omega) _
end
section
open Go.RowKit
theorem Oe (a0 a1 a2 a3:BitVec 8):aF [a0,a1,a2,a3]=#[.int .u8 (yv a0),.int .u8 (yv a1),.int .u8 (yv a2),.int .u8 (yv a3)]:=rfl
theorem aaI (a0 a1 a2 a3:BitVec 8)(w:World):Calls Tryz.prog 178 #[.agg #[.int .u8 (yv a0),.int .u8 (yv a1),.int .u8 (yv a2),.int .u8 (yv a3)]] w
 fun e w'=>e = .returned (.agg (aF [aQ a0,aQ a1,aQ a2,aQ a3]))∧Below w.heap.size w w':=Ik [a0,a1,a2,a3] w rfl
theorem sS (a0 a1 a2 a3:BitVec 8):(Tryz.prog.info? 267).map (·.size)=some (aF [a0,a1,a2,a3]).size:=wC _ rfl
theorem aeH (i:Nat)(h:i<8):(2:Int) ^ i % 256=yv (pw i):=by
 match i,h with
 | 0,_ | 1,_ | 2,_ | 3,_ | 4,_ | 5,_ | 6,_ | 7,_=>rfl
theorem Og (a0 a1 a2 a3:BitVec 8)(i:Nat)(w:World)(h8:8≤i)(h60:i<60) :
 Calls Tryz.prog 177 #[.agg (aF [a0,a1,a2,a3]),.int .i64 i] w fun e w'=>e = .returned (.agg (aF (stepW [a0,a1,a2,a3] i)))∧Below w.heap.size w w':=by
 have p0:(8:Int)≤(i:Int):=by omega
 have p1:(i:Int)<60:=by omega
 have HI:=hid (And.intro h8 h60)
 clear h8 h60
 rw [Oe]
 obtain ⟨g0,g1,gz,gb⟩:=rE w (.cells (aF [a0,a1,a2,a3]) 267) (.cells (aF (aC 4)) 267)
 have HG:=hid (And.intro g0 (And.intro g1 (And.intro gz gb)))
 clear g0 g1 gz gb
 go_in
 by_cases m0:i % 8=0
 ·have n0:(i:Int) % 8=0:=by omega
  have HS:=hid (show stepW [a0,a1,a2,a3] i=[aQ a1 ^^^ pw (i / 8 - 1),aQ a2,aQ a3,aQ a0] by unfold stepW; rw [if_pos m0]; rfl);obtain ⟨d,hd,hd2⟩:∃ d:Nat,(i:Int) / 8=(d:Int)+1∧i / 8 - 1=d:=⟨i / 8 - 1,by have:=HI.out; omega,rfl⟩
  have HD2:=hid hd2;have hdI:(d:Int)<7:=by omega
  have hd0:(0:Int)≤(d:Int):=by omega
  have hpw:=aeH d (by omega);clear m0 hd2;go_wp2_with fail;refine (aaI a1 a2 a3 a0 _).mono ?_;rintro e w1 ⟨rfl,hb1⟩;replace hb1:Below (w.heap.size+2) ((w.alloc (.cells (aF [a0,a1,a2,a3]) 267)).alloc (.cells (aF (aC 4)) 267)) w1:=by rw [← HG.out.2.2.1]; exact hb1
  have HW1:=hid (show w1.heap[w.heap.size]? = some (.cells (aF [a0,a1,a2,a3]) 267 (0,0)) from (hb1.block _ (by omega)).trans HG.out.1);have HR1:=hid (show aU w1 (w.heap.size+1) 267 (aC 4) from (hb1.block _ (by omega)).trans HG.out.2.1);have HB1:=hid (HG.out.2.2.2.trans (hb1.mono (by omega)));have SW:=hid (sS (aQ a1) (aQ a2) (aQ a3) (aQ a0));clear hb1;go_wp2_with (first
   | (with_reducible refine wpList_store_row (o:=⟨none,.store _ (.tmp 2) _,_,_,_,_⟩) rfl 267 _ _ rfl w.heap.size (aF [aQ a1,aQ a2,aQ a3,aQ a0]) rfl rfl 267 _ HW1.out SW.out rfl (dJ _) ?_))
  have hx2:=setRow_heap w1 w.heap.size _ (aF [aQ a1,aQ a2,aQ a3,aQ a0]) _ _ HW1.out;have hr2:aU (w1.setRow w.heap.size (aF [aQ a1,aQ a2,aQ a3,aQ a0])) (w.heap.size+1) 267 (aC 4):=(setRow_other w1 w.heap.size _ _ (by omega)).trans HR1.out;have hb2:=aG HB1.out (Nat.le_refl w.heap.size) (aF [aQ a1,aQ a2,aQ a3,aQ a0]);generalize w1.setRow w.heap.size (aF [aQ a1,aQ a2,aQ a3,aQ a0])=W2 at *;have Xv:=hid (show aU W2 w.heap.size 267 [aQ a1,aQ a2,aQ a3,aQ a0] from hx2);have HR2:=hid hr2;have HB2:=hid hb2;have c0:W2.cell? ⟨w.heap.size,0,none⟩=some (.int .u8 (yv (aQ a1))):=Xv.out.cell (k:=0) (show 0<4 by decide);have f0:=Xv.out.free 0;have aap:=AO (aQ a1) (pw d);clear hx2 hr2 hb2;have hwr:IntKind.i64.wrap (IntKind.i64.wrap ((d:Int)+1) - 1)=d:=by rw [show IntKind.i64.wrap ((d:Int)+1)=(d:Int)+1 from IntWalk.i64_in _ (by omega),show (d:Int)+1 - 1=d by omega]; exact IntWalk.i64_in _ (by omega)
  simp only [Act.put];go_region;have HX3:=hid (show ((W2.setCell ⟨w.heap.size,0,none⟩ (.int .u8 (yv (aQ a1 ^^^ pw d)))).drew).heap[w.heap.size]? = some (.cells (aF [aQ a1 ^^^ pw d,aQ a2,aQ a3,aQ a0]) 267 (0,0)) from aU.set (w:=W2) Xv.out 0 (aQ a1 ^^^ pw d));have HR3:=hid (show ((W2.setCell ⟨w.heap.size,0,none⟩ (.int .u8 (yv (aQ a1 ^^^ pw d)))).drew).heap[w.heap.size+1]? = some (.cells (aF (aC 4)) 267 (0,0)) from aU.other (w:=W2) HR2.out _ _ (show w.heap.size+1 ≠ w.heap.size by omega));have HB3:=hid (show Below w.heap.size w ((W2.setCell ⟨w.heap.size,0,none⟩ (.int .u8 (yv (aQ a1 ^^^ pw d)))).drew) from (HB2.out.setCell (p:=⟨w.heap.size,0,none⟩) (Nat.le_refl _) _).drew);have S3:=hid (wC [aQ a1 ^^^ pw d,aQ a2,aQ a3,aQ a0] rfl);go_wp2_with (first
   | (with_reducible refine wpList_load_row (o:=⟨some 31,_,_,_,_,_⟩) rfl 267 _ rfl w.heap.size rfl 267 (aF [aQ a1 ^^^ pw d,aQ a2,aQ a3,aQ a0]) (0,0) _ HX3.out Tryz.underlying267 rfl S3.out ?_)
   | (with_reducible refine wpList_store_row (o:=⟨none,.store _ (.tmp 4) _,_,_,_,_⟩) rfl 267 _ _ rfl (w.heap.size+1) (aF [aQ a1 ^^^ pw d,aQ a2,aQ a3,aQ a0]) rfl rfl 267 _ HR3.out S3.out rfl (dJ _) ?_))
  refine bodyPost_ret (v := .agg (aF [aQ a1 ^^^ pw d,aQ a2,aQ a3,aQ a0])) (results_cell_row Tryz.results177 _ _ (w.heap.size+1) 267 (aF [aQ a1 ^^^ pw d,aQ a2,aQ a3,aQ a0]) (0,0) _ rfl (setRow_heap _ (w.heap.size+1) _ (aF [aQ a1 ^^^ pw d,aQ a2,aQ a3,aQ a0]) _ _ HR3.out) Tryz.underlying267 rfl S3.out) rfl ⟨by rw [HS.out,HD2.out], ?_⟩;exact aG HB3.out (by omega) _
 ·by_cases m4:i % 8=4
  ·have n0:¬ (i:Int) % 8=0:=by omega
   have n4:(i:Int) % 8=4:=by omega
   have HS:=hid (show stepW [a0,a1,a2,a3] i=[aQ a0,aQ a1,aQ a2,aQ a3] by unfold stepW; rw [if_neg m0,if_pos m4]; rfl);have SA:=hid (sS a0 a1 a2 a3);have KP:=hid HG.out.1;go_wp2_with (first
    | (with_reducible refine wpList_load_row (o:=⟨some 29,_,_,_,_,_⟩) rfl 267 _ rfl w.heap.size rfl 267 _ (0,0) _ KP.out Tryz.underlying267 rfl SA.out ?_))
   refine (aaI a0 a1 a2 a3 _).mono ?_;rintro e w1 ⟨rfl,hb1⟩;replace hb1:Below (w.heap.size+2) ((w.alloc (.cells (aF [a0,a1,a2,a3]) 267)).alloc (.cells (aF (aC 4)) 267)) w1:=by rw [← HG.out.2.2.1]; exact hb1
   have HW1:=hid (show w1.heap[w.heap.size]? = some (.cells (aF [a0,a1,a2,a3]) 267 (0,0)) from (hb1.block _ (by omega)).trans HG.out.1);have HR1:=hid (show aU w1 (w.heap.size+1) 267 (aC 4) from (hb1.block _ (by omega)).trans HG.out.2.1);have HB1:=hid (HG.out.2.2.2.trans (hb1.mono (by omega)));have S3:=hid (sS (aQ a0) (aQ a1) (aQ a2) (aQ a3));have HX3:=hid (setRow_heap w1 w.heap.size _ (aF [aQ a0,aQ a1,aQ a2,aQ a3]) _ _ HW1.out);have HR3:=hid (show (w1.setRow w.heap.size (aF [aQ a0,aQ a1,aQ a2,aQ a3])).heap[w.heap.size+1]? = some (.cells (aF (aC 4)) 267 (0,0)) from (setRow_other w1 w.heap.size _ _ (by omega)).trans HR1.out);have HB3:=hid (aG HB1.out (Nat.le_refl w.heap.size) (aF [aQ a0,aQ a1,aQ a2,aQ a3]));clear hb1;go_wp2_with (first
    | (with_reducible refine wpList_store_row (o:=⟨none,.store _ (.tmp 2) _,_,_,_,_⟩) rfl 267 _ _ rfl w.heap.size (aF [aQ a0,aQ a1,aQ a2,aQ a3]) rfl rfl 267 _ HW1.out S3.out rfl (dJ _) ?_)
    | (with_reducible refine wpList_load_row (o:=⟨some 31,_,_,_,_,_⟩) rfl 267 _ rfl w.heap.size rfl 267 (aF [aQ a0,aQ a1,aQ a2,aQ a3]) (0,0) _ HX3.out Tryz.underlying267 rfl S3.out ?_)
    | (with_reducible refine wpList_store_row (o:=⟨none,.store _ (.tmp 4) _,_,_,_,_⟩) rfl 267 _ _ rfl (w.heap.size+1) (aF [aQ a0,aQ a1,aQ a2,aQ a3]) rfl rfl 267 _ HR3.out S3.out rfl (dJ _) ?_))
   refine bodyPost_ret (v := .agg (aF [aQ a0,aQ a1,aQ a2,aQ a3])) (results_cell_row Tryz.results177 _ _ (w.heap.size+1) 267 (aF [aQ a0,aQ a1,aQ a2,aQ a3]) (0,0) _ rfl (setRow_heap _ (w.heap.size+1) _ (aF [aQ a0,aQ a1,aQ a2,aQ a3]) _ _ HR3.out) Tryz.underlying267 rfl S3.out) rfl ⟨by rw [HS.out], ?_⟩;exact aG HB3.out (by omega) _
  have n0:¬ (i:Int) % 8=0:=by omega
  have n4:¬ (i:Int) % 8=4:=by omega
  have HS:=hid (show stepW [a0,a1,a2,a3] i=[a0,a1,a2,a3] by unfold stepW; rw [if_neg m0,if_neg m4]; rfl);have S3:=hid (sS a0 a1 a2 a3);have h2:=rE w (.cells (aF [a0,a1,a2,a3]) 267) (.cells (aF [a0,a1,a2,a3]) 267);have H2:=hid h2;clear h2;go_wp2_with fail;refine bodyPost_ret (v := .agg (aF [a0,a1,a2,a3])) (results_cell_row Tryz.results177 _ _ (w.heap.size+1) 267 (aF [a0,a1,a2,a3]) (0,0) _ rfl H2.out.2.1 Tryz.underlying267 rfl S3.out) rfl ⟨by rw [HS.out],H2.out.2.2.2⟩
end
section
open Go.RowKit
theorem EK (W:World):(zeroValue 268).run Tryz.prog W = .ok (.agg (aF (aC 240))) W:=by kernel_rfl
theorem BQ (W:World):(zeroValue 261).run Tryz.prog W = .ok (.agg (aF (aC 240))) W:=by kernel_rfl
theorem fG (n lim:Nat)(c:BoundsCode)(h:n≤lim)(w:World):(Instr.sliceBound (.int .i64 (n:Int)) lim c).run Tryz.prog w = .ok n w:=by
 have:(n:Int)≤(lim:Int):=by omega
 simp [Instr.sliceBound,asIntOf,this]
theorem Xw (g i:Nat)(hi:i<8)(W:World):(Instr.sliceAt 58 (.pointer (some ⟨g,0,none⟩)) (some (.int .i64 ((i:Int) * 4))) none none).run Tryz.prog W = .ok (.slice (some ⟨g,i * 4,none⟩) (32 - i * 4) (32 - i * 4)) W:=by
 obtain ⟨i0,hi0,hs⟩:=Option.map_eq_some_iff.1 sQ;have b:=fG (i * 4) 32 .sliceB (by omega) W;have e:((i * 4:Nat):Int)=(i:Int) * 4:=by omega
 rw [e] at b;have h2:¬ 32=i * 4:=by omega
 simp [Instr.sliceAt,run_underlying Tryz.underlying58,Instr.sureAddr,Instr.sliceBounds,sizeOf,typeInfo,hi0,hs,Addr.add_mid,b,h2]
theorem Su (a:Addr)(n:Nat)(hn:4≤n)(W:World):(Instr.arrayAt 267 (.slice (some a) n n)).run Tryz.prog W = .ok (.pointer (some a)) W:=by
 have:¬ n<4:=by omega
 simp [Instr.arrayAt,run_underlying Tryz.underlying267,this]
def uJ (M:bY)(o:Nat)(a b c d:BitVec 8):bY:=(((M.set o a).set (o+1) b).set (o+2) c).set (o+3) d
theorem ik (M:bY)(o:Nat)(a b c d:BitVec 8):(uJ M o a b c d).length=M.length:=by simp [uJ]
theorem sU (M:bY)(o j:Nat)(a b c d:BitVec 8)(h:j<o):(uJ M o a b c d).getD j 0=M.getD j 0:=by
 unfold uJ;simp only [List.getD,List.getElem?_set];rw [if_neg (by omega),if_neg (by omega),if_neg (by omega),if_neg (by omega)]
theorem KQ (M:bY)(o j:Nat)(a b c d:BitVec 8)(hM:o+4≤M.length)(h:j<4):(uJ M o a b c d).getD (o+j) 0=[a,b,c,d].getD j 0:=by
 unfold uJ;simp only [List.getD,List.getElem?_set,List.length_set];match j,h with
 | 0,_=>rw [if_neg (by omega),if_neg (by omega),if_neg (by omega),if_pos (by omega),if_pos (by omega)]; rfl
 | 1,_=>rw [if_neg (by omega),if_neg (by omega),if_pos (by omega),if_pos (by omega)]; rfl
 | 2,_=>rw [if_neg (by omega),if_pos (by omega),if_pos (by omega)]; rfl
 | 3,_=>rw [if_pos (by omega),if_pos (by omega)]; rfl
theorem aU.uJ {w:World}{g t:Nat}{M:bY}(h:aU w g t M)(o:Nat)(a b c d:BitVec 8) :
 aU ((((w.setCell ⟨g,o,none⟩ (.int .u8 (yv a))).setCell ⟨g,o+1,none⟩ (.int .u8 (yv b))).setCell ⟨g,o+2,none⟩ (.int .u8 (yv c))).setCell ⟨g,o+3,none⟩ (.int .u8 (yv d))) g t (uJ M o a b c d) :=
 (((h.set o a).set (o+1) b).set (o+2) c).set (o+3) d
theorem EL {B:Nat}{a w:World}(h:Below B a w){g:Nat}(hg:B≤g)(o:Nat)(v0 v1 v2 v3:Value) :
 Below B a ((((w.setCell ⟨g,o,none⟩ v0).setCell ⟨g,o+1,none⟩ v1).setCell ⟨g,o+2,none⟩ v2).setCell ⟨g,o+3,none⟩ v3) :=
 (((h.setCell (p:=⟨g,o,none⟩) hg v0).setCell (p:=⟨g,o+1,none⟩) hg v1).setCell (p:=⟨g,o+2,none⟩) hg v2).setCell (p:=⟨g,o+3,none⟩) hg v3
theorem aaJ (o:Nat)(f:Nat→BitVec 8)(l:bY)(r n:Nat)(hl:o+n≤l.length)(hr:r<n):(fB (fun t=>o+t) (fun t=>f (o+t)) n l).getD (o+r) 0=f (o+r):=by
 induction n with
 | zero=>omega
 | succ n ih =>
   unfold fB;by_cases h:r=n
   ·subst h
    simp [List.getD,dD,show o+r<l.length by omega]
   have:=ih (by omega) (by omega);simp only [List.getD,List.getElem?_set] at this ⊢;rw [if_neg (by omega)];exact this
theorem aaK (a0 a1 a2 a3 s0 s1 s2 s3:BitVec 8)(i:Nat)(w:World)(h8:8≤i)(h60:i<60)(hs:stepW [a0,a1,a2,a3] i=[s0,s1,s2,s3]) :
 Calls Tryz.prog 177 #[.agg #[.int .u8 (yv a0),.int .u8 (yv a1),.int .u8 (yv a2),.int .u8 (yv a3)],.int .i64 i] w
  fun e w'=>e = .returned (.agg #[.int .u8 (yv s0),.int .u8 (yv s1),.int .u8 (yv s2),.int .u8 (yv s3)])∧Below w.heap.size w w':=by
 have h:=Og a0 a1 a2 a3 i w h8 h60
 rw [hs] at h
 exact h
theorem Xx (w:bY)(i:Nat):∃ s0 s1 s2 s3,stepW w i=[s0,s1,s2,s3]:=aaH _ (sN w i)
theorem Xy (k:bY)(w:World)(hk:k.length=32) :
 Calls Tryz.prog 173 #[.agg (aF k)] w fun e w'=>e = .returned (.agg (aF (keysL k)))∧Below w.heap.size w w':=by
 have Ap:=hid hk
 have hz:=EK
 obtain ⟨T,hT⟩:∃ T,keysL k=T:=⟨_,rfl⟩
 have kZ:=hid (show T.length=240 by rw [← hT]; exact lF k hk)
 have Aq:=hid (show ∀ j,j<32→T.getD j 0=k.getD j 0 by rw [← hT]; exact aaD k hk)
 have HTS:=hid (show ∀ i j,8≤i→i<60→j<4→T.getD (4 * i+j) 0=(stepW (tw T (i - 1)) i).getD j 0 ^^^ T.getD (4 * (i - 8)+j) 0 by rw [← hT]; exact Xp k hk)
 rw [hT]
 clear hk hT
 go_in
 go_wp2
 clear hz
 refine Vz fun W0 hW=>?_
 obtain ⟨h0,h1,h2,hsz,hbel⟩:=hW
 have HX0:=hid (show aU W0 w.heap.size 58 k from h0)
 have HR:=hid (show aU W0 (w.heap.size+1) 268 (aC 240) from h1)
 have HM:=hid (show aU W0 (w.heap.size+1+1) 268 (aC 240) from h2)
 have HB:=hid hbel
 have HZ:=hid hsz
 clear h0 h1 h2 hsz hbel
 generalize hP0:w.heap.size=P0 at *
 have yS:=hid hP0
 clear hP0
 go_loopw [8] (fun v8 wr=>∃ (i:Nat) (M:bY),i≤8∧v8 = .int .i64 (i:Nat)∧M.length=240∧(∀ j,j<4 * i→M.getD j 0=T.getD j 0)∧aU wr (P0+1+1) 268 M∧Below (P0+1+1) W0 wr) (fun v _=>8 - (intOf v).toNat)
 case atStart=>exact ⟨0,aC 240,by omega,rfl,by simp [aC],fun j hj=>by omega,HM.out,Below.refl _ _⟩
 case round =>
  obtain ⟨i,M,hi,rfl,Eo,hMT,hA,hb⟩:=hrel;by_cases hlt:i<8
  ·have hX:=HX0.out.below hb (show P0<P0+1+1 by omega)
   have c0:=hX.cell (k:=i * 4) (by rw [Ap.out]; omega);have c1:=hX.cell (k:=i * 4+1) (by rw [Ap.out]; omega);have c2:=hX.cell (k:=i * 4+2) (by rw [Ap.out]; omega);have c3:=hX.cell (k:=i * 4+3) (by rw [Ap.out]; omega);have d0:=hA.cell (k:=i * 4) (by rw [Eo]; omega);have d1:=hA.cell (k:=i * 4+1) (by rw [Eo]; omega);have d2:=hA.cell (k:=i * 4+2) (by rw [Eo]; omega);have d3:=hA.cell (k:=i * 4+3) (by rw [Eo]; omega);have f0:=hA.free (i * 4);have f1:=hA.free (i * 4+1);have f2:=hA.free (i * 4+2);have f3:=hA.free (i * 4+3);have Sz:=hid (show ∀ j,j<4→[k.getD (i * 4) 0,k.getD (i * 4+1) 0,k.getD (i * 4+2) 0,k.getD (i * 4+3) 0].getD j 0=T.getD (i * 4+j) 0 by
    intro j hj;rw [Aq.out _ (by omega)];match j,hj with
    | 0,_ | 1,_ | 2,_ | 3,_=>rfl)
   generalize k.getD (i * 4) 0=x0 at *;generalize k.getD (i * 4+1) 0=x1 at *;generalize k.getD (i * 4+2) 0=x2 at *;generalize k.getD (i * 4+3) 0=x3 at *;generalize M.getD (i * 4) 0=y0 at *;generalize M.getD (i * 4+1) 0=y1 at *;generalize M.getD (i * 4+2) 0=y2 at *;generalize M.getD (i * 4+3) 0=y3 at *;have NQ:=hid Eo;have HMT:=hid hMT;have HA:=hid hA;have HB2:=hid hb;have bn:=hid hlt;have hiI:(i:Int)<8:=by omega
   have hi0:(0:Int)≤(i:Int):=by omega
   have hsl:=Xw P0 i hlt;have har:=Su ⟨P0,i * 4,none⟩ (32 - i * 4) (by omega);clear Eo hMT hA hb hlt hi hX;go_wp2_with fail;go_roundw
   case rel =>
    refine ⟨i+1,uJ M (i * 4) x0 x1 x2 x3,by have:=bn.out; omega,by go_num,by rw [ik]; exact NQ.out, ?_,HA.out.uJ (i * 4) x0 x1 x2 x3,EL HB2.out (Nat.le_refl _) _ _ _ _ _⟩;intro j hj;by_cases h:j<4 * i
    ·rw [sU _ _ _ _ _ _ _ (by omega)]; exact HMT.out j h
    obtain ⟨t,rfl⟩:∃ t,j=i * 4+t:=⟨j - i * 4,by omega⟩
    rw [KQ _ _ _ _ _ _ _ (by have:=NQ.out; have:=bn.out; omega) (by omega)];exact Sz.out t (by omega)
   case measure=>simp [intOf]; omega
  have hge:(8:Int)≤(i:Int):=by omega
  have HI8:=hid (show i=8 by omega);have NQ:=hid Eo;have HMT:=hid hMT;have HA:=hid hA;have HB2:=hid hb;clear Eo hMT hA hb hlt hi;go_wp2_with fail;go_loopw [5] (fun v5 wr=>∃ (i:Nat) (M:bY),8≤i∧i≤60∧v5 = .int .i64 (i:Nat)∧M.length=240∧(∀ j,j<4 * i→M.getD j 0=T.getD j 0)∧aU wr (P0+1+1) 268 M∧Below (P0+1+1) W0 wr) (fun v _=>60 - (intOf v).toNat)
  case atStart=>exact ⟨8,M,by omega,by omega,rfl,NQ.out,by have:=HMT.out; rwa [HI8.out] at this,HA.out,HB2.out⟩
  case round =>
   clear hge HI8 NQ HMT HA HB2;obtain ⟨i,M,h8,h60,rfl,Eo,hMT,hA,hb⟩:=hrel;by_cases hlt:i<60
   ·obtain ⟨p,ep,hp⟩:∃ p:Nat,IntKind.i64.wrap ((i:Int) - 1)=(p:Int)∧i=p+1:=⟨i - 1,by rw [IntWalk.i64_in _ (by omega)]; omega,by omega⟩
    obtain ⟨q,eq,hq⟩:∃ q:Nat,IntKind.i64.wrap ((i:Int) - 8)=(q:Int)∧i=q+8:=⟨i - 8,by rw [IntWalk.i64_in _ (by omega)]; omega,by omega⟩
    obtain ⟨s0,s1,s2,s3,hs⟩:=Xx (tw T p) i;have c0:=hA.cell (k:=p * 4) (by rw [Eo]; omega);have c1:=hA.cell (k:=p * 4+1) (by rw [Eo]; omega);have c2:=hA.cell (k:=p * 4+2) (by rw [Eo]; omega);have c3:=hA.cell (k:=p * 4+3) (by rw [Eo]; omega);rw [hMT _ (by omega)] at c0 c1 c2 c3;unfold tw at hs;rw [show 4 * p=p * 4 by omega] at hs;have HST:=hid (fun w=>aaK _ _ _ _ s0 s1 s2 s3 i w h8 hlt hs);have HTN:=hid (show ∀ j,j<4→T.getD (i * 4+j) 0=[s0,s1,s2,s3].getD j 0 ^^^ T.getD (q * 4+j) 0 by
     intro j hj;rw [show i * 4=4 * i by omega,HTS.out i j h8 hlt hj,show i - 1=p by omega,show i - 8=q by omega,show 4 * q=q * 4 by omega];unfold tw;rw [show 4 * p=p * 4 by omega,hs])
    have HQ:=hid (And.intro hp (And.intro hq (And.intro h8 hlt)));have pI:(p:Int)<60:=by omega
    have p0:(0:Int)≤(p:Int):=by omega
    have qI:(q:Int)<60:=by omega
    have q0:(0:Int)≤(q:Int):=by omega
    have iI:(i:Int)<60:=by omega
    have i0:(0:Int)≤(i:Int):=by omega
    have NQ:=hid Eo;have HMT:=hid hMT;have HA:=hid hA;have HB2:=hid hb;generalize T.getD (p * 4) 0=x0 at *;generalize T.getD (p * 4+1) 0=x1 at *;generalize T.getD (p * 4+2) 0=x2 at *;generalize T.getD (p * 4+3) 0=x3 at *;clear Eo hMT hA hb hlt h8 h60 hs hp hq;go_wp2_with fail;refine (HST.out _).mono ?_;rintro e w1 ⟨rfl,hb1⟩;have HZ1:=hid (show P0+1+1<wr.heap.size by have:=HB2.out.size; have:=HZ.out; omega);have HA1:=hid (HA.out.below hb1 HZ1.out);have HB1:=hid (HB2.out.trans (hb1.mono (Nat.le_of_lt HZ1.out)));have d0:=HA1.out.cell (k:=i * 4) (by have:=NQ.out; have:=HQ.out; omega);have d1:=HA1.out.cell (k:=i * 4+1) (by have:=NQ.out; have:=HQ.out; omega);have d2:=HA1.out.cell (k:=i * 4+2) (by have:=NQ.out; have:=HQ.out; omega);have d3:=HA1.out.cell (k:=i * 4+3) (by have:=NQ.out; have:=HQ.out; omega);have f0:=HA1.out.free (i * 4);have f1:=HA1.out.free (i * 4+1);have f2:=HA1.out.free (i * 4+2);have f3:=HA1.out.free (i * 4+3);generalize M.getD (i * 4) 0=y0 at *;generalize M.getD (i * 4+1) 0=y1 at *;generalize M.getD (i * 4+2) 0=y2 at *;generalize M.getD (i * 4+3) 0=y3 at *;clear hb1 c0 c1 c2 c3;go_upto_region 11 with fail
    generalize hW2:World.setCell (World.setCell (World.setCell (World.setCell w1 _ _) _ _) _ _) _ _=W2;have HA2:=hid (show aU W2 (P0+1+1) 268 (uJ M (i * 4) s0 s1 s2 s3) by rw [← hW2]; exact HA1.out.uJ (i * 4) s0 s1 s2 s3);have HB3:=hid (show Below (P0+1+1) W0 W2 by rw [← hW2]; exact EL HB1.out (Nat.le_refl _) _ _ _ _ _);clear hW2 d0 d1 d2 d3 f0 f1 f2 f3;have hL:=NQ.out;have hQ:=HQ.out;have c0:=HA2.out.cell (k:=q * 4) (by rw [ik]; omega);have c1:=HA2.out.cell (k:=q * 4+1) (by rw [ik]; omega);have c2:=HA2.out.cell (k:=q * 4+2) (by rw [ik]; omega);have c3:=HA2.out.cell (k:=q * 4+3) (by rw [ik]; omega);rw [sU _ _ _ _ _ _ _ (by omega),HMT.out _ (by omega)] at c0 c1 c2 c3;have apd:=hid (show ∀ j,j<4→T.getD (i * 4+j) 0=[s0,s1,s2,s3].getD j 0 ^^^ [T.getD (q * 4) 0,T.getD (q * 4+1) 0,T.getD (q * 4+2) 0,T.getD (q * 4+3) 0].getD j 0 by
     intro j hj;rw [HTN.out j hj];match j,hj with
     | 0,_ | 1,_ | 2,_ | 3,_=>rfl)
    generalize T.getD (q * 4) 0=b0 at *;generalize T.getD (q * 4+1) 0=b1 at *;generalize T.getD (q * 4+2) 0=b2 at *;generalize T.getD (q * 4+3) 0=b3 at *;clear hL hQ HTN;go_wp2_with fail;clear c0 c1 c2 c3;go_loopw [35] (fun v35 wr=>∃ j:Nat,j≤4∧v35 = .int .i64 (j:Nat)∧aU wr (P0+1+1) 268 (fB (fun t=>i * 4+t) (fun t=>T.getD (i * 4+t) 0) j (uJ M (i * 4) s0 s1 s2 s3))∧Below (P0+1+1) W0 wr) (fun v _=>4 - (intOf v).toNat)
    case atStart=>exact ⟨0,by omega,rfl,HA2.out,HB3.out⟩
    case round =>
     obtain ⟨j,hj,rfl,hA,hb⟩:=hrel;by_cases hlt:j<4
     ·have hL:=NQ.out
      have hQ:=HQ.out;have ci:=hA.cell (k:=i * 4+j) (by rw [dD,ik]; omega);rw [xW _ _ _ _ _ j (fun t ht=>by omega),KQ _ _ _ _ _ _ _ (by omega) hlt] at ci;have fi:=hA.free (i * 4+j);have hix:=fun w=>BO [b0,b1,b2,b3] rfl j hlt w;have hT:=apd.out j hlt;have HSF:=hid (show fB (fun t=>i * 4+t) (fun t=>T.getD (i * 4+t) 0) (j+1) (uJ M (i * 4) s0 s1 s2 s3)=(fB (fun t=>i * 4+t) (fun t=>T.getD (i * 4+t) 0) j (uJ M (i * 4) s0 s1 s2 s3)).set (i * 4+j) (T.getD (i * 4+j) 0) from rfl);rw [Oe] at hix;have hx:=AO ([s0,s1,s2,s3].getD j 0) ([b0,b1,b2,b3].getD j 0);rw [← hT] at hx;have Am:=hid hA;have HB4:=hid hb;have bn:=hid hlt;have jI:(j:Int)<4:=by omega
      have j0:(0:Int)≤(j:Int):=by omega
      generalize [s0,s1,s2,s3].getD j 0=s at *;generalize [b0,b1,b2,b3].getD j 0=b at *;generalize T.getD (i * 4+j) 0=y at *;clear hL hQ hA hb hlt hj hT;go_wp2_with fail;go_region;go_wp2_with fail;go_roundw
      case rel =>
       exact ⟨j+1,by have:=bn.out; omega,by go_num,by rw [HSF.out]; exact aU.set (w:=_) Am.out (i * 4+j) _,(HB4.out.setCell (p:=⟨P0+1+1,i * 4+j,none⟩) (Nat.le_refl _) _).drew⟩
      case measure=>simp [intOf]; omega
     have HJ:=hid (show j=4 by omega);have Am:=hid hA;have HB4:=hid hb;have hge:(4:Int)≤(j:Int):=by omega
     clear hA hb hlt hj;go_wp2_with fail;go_roundw
     case rel =>
      have h3:=Am.out;rw [HJ.out] at h3;refine ⟨i+1,_,by have:=HQ.out; omega,by have:=HQ.out; omega,by go_num,by rw [dD,ik]; exact NQ.out, ?_,h3,HB4.out⟩;intro t ht;have hL:=NQ.out;have hQ:=HQ.out;by_cases h:t<4 * i
      ·rw [xW _ _ _ _ _ 4 (fun r hr=>by omega),sU _ _ _ _ _ _ _ (by omega)]; exact HMT.out t h
      obtain ⟨r,rfl⟩:∃ r,t=i * 4+r:=⟨t - i * 4,by omega⟩
      exact aaJ (i * 4) (fun t=>T.getD t 0) _ r 4 (by rw [ik]; omega) (by omega)
     case measure=>simp [intOf]; have:=HQ.out; omega
   have hge:(60:Int)≤(i:Int):=by omega
   have HI:=hid (show i=60 by omega);have aaL:M=T:=by
    apply List.ext_getElem (by rw [Eo,kZ.out]);intro j h1 h2;have:=hMT j (by omega);simpa [List.getD,h1,h2] using this
   have HA:=hid (show wr.heap[P0+1+1]? = some (.cells (aF T) 268 (0,0)) by rw [← aaL]; exact hA);have HR1:=hid (show wr.heap[P0+1]? = some (.cells (aF (aC 240)) 268 (0,0)) from HR.out.below hb (by omega));have SH:=hid (zh T kZ.out);have SE:=hid (show (aF (aC 240)).size=(aF T).size by rw [aN,aN,kZ.out]; simp [aC]);have HB2:=hid (HB.out.trans (hb.mono (by omega)));clear hlt hA hb Eo hMT aaL h8 h60;go_wp2_with (first
    | (with_reducible refine wpList_load_row (o:=⟨some 49,_,_,_,_,_⟩) rfl 268 _ rfl (P0+1+1) rfl 268 (aF T) (0,0) _ HA.out Tryz.underlying268 rfl SH.out ?_)
    | (with_reducible refine wpList_store_row (o:=⟨none,.store _ (.tmp 2) _,_,_,_,_⟩) rfl 268 _ _ rfl (P0+1) (aF T) rfl rfl 268 (aF (aC 240)) HR1.out SH.out SE.out (dJ _) ?_))
   refine bodyPost_ret (v := .agg (aF T)) (results_cell_row Tryz.results173 _ _ (P0+1) 268 (aF T) (0,0) _ rfl (setRow_heap _ (P0+1) _ (aF T) _ _ HR1.out) Tryz.underlying268 rfl SH.out) rfl ⟨rfl, ?_⟩;rw [yS.out];exact aG HB2.out (by omega) _
end
section
open Go.RowKit
theorem sV {P:Program}{ops:Array Oper}{o:Oper}{a:Act}{w:World}{K:Act→World→Prop}{Q:Exit→Act→World→Prop}{E:Prop}(hgd:o.guard=none)(d s:Operand)(dT sT:TypeId)
 (ho:o.op = .call { callee := .builtin .copy,args:=#[d,s],argTypes:=#[dT,sT] }) (elem:TypeId) (hu:P.underlying dT=some (.slice elem)) (hsz:(P.info? elem).map (·.size)=some 1)
 (g off dLen dCap:Nat) (ad:Addr) (sLen sCap:Nat) (hd:a.eval d = .slice (some ⟨g,off,none⟩) dLen dCap) (hs:a.eval s = .slice (some ad) sLen sCap)
 (cur:List Value) (t:TypeId) (hg:w.heap[g]? = some (.cells cur.toArray t (0,0))) (cs:List Value) (hn:cs.length=Nat.min sLen dLen)
 (hsrc:∀ j v,cs[j]? = some v→w.cell? (ad.add j)=some v) (hfit:off+cs.length≤cur.length) (h1:∀ v ∈ cs,v.oneCell'=true)
 (h:K (a.put o.dst (goInt cs.length)) (w.setRow g (List.take off cur++(cs++List.drop (off+cs.length) cur)).toArray)) :
 if Region.wanted o (yielded ops a.tmps)=true then Oper.wp P o a w K Q else E:=by
 have hw:Region.wanted o (yielded ops a.tmps)=true:=by simp [Region.wanted,hgd]
 rw [if_pos hw]
 have hrun:=run_copy_row (P:=P) w dT sT o.type elem g off dLen dCap ad sLen sCap cur.toArray t cs hu hsz hg hn hsrc (by simpa using hfit) h1
 unfold Oper.wp
 simp [execOp,ho,resolve,invoke,builtin,hd,hs,hrun,Result.andThen]
 exact h
theorem Xz (M:bY)(o:Nat)(a b c d:BitVec 8)(h:o+4≤M.length):uJ M o a b c d=fK M o [a,b,c,d]:=by
 unfold uJ;rw [← ru _ _ _ _ (by omega),← ru _ _ _ _ (by simp; omega),← ru _ _ _ _ (by simp; omega),← ru _ _ _ _ (by simp; omega)];simp [fK]
theorem zi (M:bY)(o:Nat)(ys:bY):(List.take o (aF M).toList++((aF ys).toList++List.drop (o+(aF ys).toList.length) (aF M).toList)).toArray=aF (fK M o ys):=by
 simp [aF,fK,List.map_take,List.map_drop]
theorem BR (g d r:Nat)(hr:r<16)(W:World):(Instr.sliceAt 252 (.pointer (some ⟨g,d * 16,none⟩)) (some (.int .i64 (r:Int))) none none).run Tryz.prog W = .ok (.slice (some ⟨g,d * 16+r,none⟩) (16 - r) (16 - r)) W:=by
 obtain ⟨i0,hi0,hs⟩:=Option.map_eq_some_iff.1 sQ;have b:=fG r 16 .sliceB (by omega) W;have h2:¬ 16=r:=by omega
 simp [Instr.sliceAt,run_underlying Tryz.underlying252,Instr.sureAddr,Instr.sliceBounds,sizeOf,typeInfo,hi0,hs,Addr.add_mid,b,h2]
theorem SC (g o:Nat)(W:World):(Instr.sliceAt 267 (.pointer (some ⟨g,o,none⟩)) none none none).run Tryz.prog W = .ok (.slice (some ⟨g,o,none⟩) 4 4) W:=by
 obtain ⟨i0,hi0,_⟩:=Option.map_eq_some_iff.1 sQ;simp [Instr.sliceAt,run_underlying Tryz.underlying267,Instr.sureAddr,Instr.sliceBounds,sizeOf,typeInfo,hi0,Addr.add_mid]
theorem SI {P:Program}{c:Code}{Q:Exit→Act→World→Prop}{a:Act}{w:World}{old cs:Array Value}{T:TypeId}{B:Obj}
 (h:∀ W:World,W.heap[w.heap.size]? = some (.cells cs T (0,0))∧W.heap[w.heap.size+1]? = some B∧W.heap.size=w.heap.size+2∧Below w.heap.size w W→c.wp P Q a W) :
 c.wp P Q a (((w.alloc (.cells old T)).setRow w.heap.size cs).alloc B):=by
 have e1:=setRow_heap (w.alloc (.cells old T)) w.heap.size _ cs _ _ (heap_alloc_new w _)
 refine h _ ⟨?_, ?_,by simp,(aG ((Below.refl w.heap.size w).alloc (Nat.le_refl _) _) (Nat.le_refl _) cs).alloc (by simp) _⟩
 ·rw [Below.heap_alloc _ _ _ (by simp)]; exact e1
 ·have:=heap_alloc_new ((w.alloc (.cells old T)).setRow w.heap.size cs) B
  simpa using this
theorem SV (k:bY)(w:World)(hk:k.length=32) :
 Calls Tryz.prog 168 #[.agg (aF k)] w fun e w'=>e = .returned (.agg (aF (keysL k)))∧Below w.heap.size w w':=by
 have Ap:=hid hk
 have SK:=hid (rC k hk)
 have HW:=hid (fun w=>Xy k w hk)
 have hz:=BQ
 have hz2:=EK
 have kZ:=hid (lF k hk)
 generalize keysL k=T at *
 have ST:=hid (zh T kZ.out)
 clear hk
 go_in
 go_wp2_with (first
  | (with_reducible refine wpList_load_row (o:=⟨some 7,_,_,_,_,_⟩) rfl 58 _ rfl w.heap.size rfl 58 (aF k) (0,0) _ (rE w _ _).1 Tryz.underlying58 rfl SK.out ?_))
 obtain ⟨_,h1,hsz,hbel⟩:=rE w (.cells (aF k) 58) (.cells (aF (aC 240)) 261)
 refine (HW.out _).mono ?_
 rintro e w1 ⟨rfl,hb1⟩
 replace hb1:Below (w.heap.size+2) ((w.alloc (.cells (aF k) 58)).alloc (.cells (aF (aC 240)) 261)) w1:=by rw [← hsz]; exact hb1
 have HR1:=hid (show aU w1 (w.heap.size+1) 261 (aC 240) from (hb1.block _ (by omega)).trans h1)
 have HB1:=hid (hbel.trans (hb1.mono (by omega)))
 have HZ1:=hid (show w.heap.size+2≤w1.heap.size by rw [← hsz]; exact hb1.size)
 clear h1 hsz hbel hb1
 go_wp2_with (first
  | (with_reducible refine wpList_store_row (o:=⟨none,.store _ (.tmp 3) _,_,_,_,_⟩) rfl 268 _ _ rfl w1.heap.size (aF T) rfl rfl 268 _ (heap_alloc_new w1 _) ST.out ?c1 (dJ _) ?_))
 case c1=>rw [aN,aN,kZ.out]; simp [aC]
 clear hz hz2
 refine SI fun W0 hW=>?_
 obtain ⟨h0,h1,hsz,hbel⟩:=hW
 have HX:=hid (show aU W0 w1.heap.size 268 T from h0)
 have HM:=hid (show aU W0 (w1.heap.size+1) 261 (aC 240) from h1)
 have HR:=hid (HR1.out.below hbel (by have:=HZ1.out; omega))
 have HB:=hid (HB1.out.trans (hbel.mono (by have:=HZ1.out; omega)))
 have HP:=hid (show w.heap.size+1<w1.heap.size from HZ1.out)
 clear h0 h1 hsz hbel
 generalize hPW:w1.heap.size=PW at *
 clear hPW HB1 HR1 HZ1
 go_loopw [9] (fun v9 wr=>∃ (i:Nat) (R:bY),i≤60∧v9 = .int .i64 (i:Nat)∧R.length=240∧(∀ j,j<4 * i→R.getD j 0=T.getD j 0)∧aU wr (PW+1) 261 R∧Below (PW+1) W0 wr) (fun v _=>60 - (intOf v).toNat)
 case atStart=>exact ⟨0,aC 240,by omega,rfl,by simp [aC],fun j hj=>by omega,HM.out,Below.refl _ _⟩
 case round =>
  obtain ⟨i,R,hi,rfl,hRL,hRT,hA,hb⟩:=hrel;by_cases hlt:i<60
  ·obtain ⟨d,hd,hd2⟩:∃ d:Nat,(i:Int) * 4 / 16=(d:Int)∧i * 4 / 16=d:=⟨i * 4 / 16,by omega,rfl⟩
   obtain ⟨r,hr,hr2⟩:∃ r:Nat,(i:Int) * 4 % 16=(r:Int)∧i * 4 % 16=r:=⟨i * 4 % 16,by omega,rfl⟩
   have eo:d * 16+r=i * 4:=by omega
   have hX:=HX.out.below hb (show PW<PW+1 by omega);have hsl:=BR (PW+1) d r (by omega);rw [eo] at hsl;have hsw:=SC PW (i * 4);obtain ⟨ys,hys⟩:∃ ys,(T.drop (i * 4)).take 4=ys:=⟨_,rfl⟩
   have hyl:ys.length=4:=by rw [← hys]; simp [kZ.out]; omega
   have hrg:=hX.range (i * 4) 4;rw [hys] at hrg;have lW:=hid (show ∀ j v,(aF ys).toList[j]? = some v→wr.drew.cell? ((⟨PW,i * 4,none⟩:Addr).add j)=some v from fun j v hv=>by rw [Addr.add_mid]; exact hrg j v hv);have Il:=hid (show (aF ys).toList.length=Nat.min 4 (16 - r)∧i * 4+(aF ys).toList.length≤(aF R).toList.length∧∀ v ∈ (aF ys).toList,v.oneCell'=true from
    ⟨by rw [Array.length_toList,aN,hyl]; exact (Nat.min_eq_left (by omega)).symm,by rw [Array.length_toList,Array.length_toList,aN,aN,hyl,hRL]; omega,fun v hv=>Array.all_eq_true_iff_forall_mem.1 (dJ ys) v (by simpa using hv)⟩)
   have hyT:∀ j,j<4→ys.getD j 0=T.getD (i * 4+j) 0:=by
    intro j hj;rw [← hys];have:i * 4+j<T.length:=by rw [kZ.out]; omega
    simp [List.getD,hj,this]
   have HY:=hid (And.intro hyl hyT);have HRL:=hid hRL;have HRT:=hid hRT;have HA:=hid hA;have VB:=hid (show wr.drew.heap[PW+1]? = some (.cells (aF R).toList.toArray 261 (0,0)) from hA);have HB2:=hid hb;have bn:=hid hlt;have iI:(i:Int)<60:=by omega
   have i0:(0:Int)≤(i:Int):=by omega
   have dI:(d:Int)<15:=by omega
   have d0:(0:Int)≤(d:Int):=by omega
   have rI:(r:Int)<16:=by omega
   have r0:(0:Int)≤(r:Int):=by omega
   have hwm:IntKind.i64.wrap ((i:Int) * 4)=(i:Int) * 4:=IntWalk.i64_in _ (by omega);have Rj:((i:Int) * 4).tmod 16=(r:Int):=by rw [Int.tmod_eq_emod_of_nonneg (by omega)]; exact hr
   clear hi hlt hRL hRT hA hb hX hd2 hr2 eo hys hyl hrg hyT;go_wp2_with fail;go_region_held3 (fun _=>True) (exact trivial)
    ((refine sV rfl (.tmp 21) (.tmp 24) 62 62 (by rfl) 5 Tryz.underlying62 sQ (PW+1) (i * 4) (16 - r) (16 - r) ⟨PW,i * 4,none⟩ 4 4 (by rfl) (by rfl) (aF R).toList 261 VB.out (aF ys).toList Il.out.1 lW.out Il.out.2.1 Il.out.2.2 ?_))
   rw [zi];go_wp2_with fail;go_roundw
   case rel =>
    have hY:=HY.out;have hL:=HRL.out;have hI:=bn.out;obtain ⟨y0,y1,y2,y3,e4⟩:=aaH ys hY.1;have ep:fK R (i * 4) ys=uJ R (i * 4) y0 y1 y2 y3:=by rw [e4,Xz _ _ _ _ _ _ (by omega)]
    refine ⟨i+1,fK R (i * 4) ys,by omega,by go_num,by rw [ep,ik]; exact hL, ?_,setRow_heap wr.drew (PW+1) _ _ _ (0,0) HA.out,aG HB2.out.drew (Nat.le_refl _) _⟩;intro j hj;rw [ep];by_cases h:j<4 * i
    ·rw [sU _ _ _ _ _ _ _ (by omega)]; exact HRT.out j h
    obtain ⟨t,rfl⟩:∃ t,j=i * 4+t:=⟨j - i * 4,by omega⟩
    rw [KQ _ _ _ _ _ _ _ (by omega) (by omega),← e4];exact hY.2 t (by omega)
   case measure=>simp [intOf]; omega
  have hge:(60:Int)≤(i:Int):=by omega
  have aaL:R=T:=by
   apply List.ext_getElem (by rw [hRL,kZ.out]);intro j h1 h2;have:=hRT j (by omega);simpa [List.getD,h1,h2] using this
  have HA:=hid (show wr.heap[PW+1]? = some (.cells (aF T) 261 (0,0)) by rw [← aaL]; exact hA);have HR1:=hid (show wr.heap[w.heap.size+1]? = some (.cells (aF (aC 240)) 261 (0,0)) from HR.out.below hb (by have:=HP.out; omega));have SH:=hid (BP T kZ.out);have SE:=hid (show (aF (aC 240)).size=(aF T).size by rw [aN,aN,kZ.out]; simp [aC]);have HB2:=hid (HB.out.trans (hb.mono (by have:=HP.out; omega)));clear hlt hA hb hRL hRT aaL hi;go_wp2_with (first
   | (with_reducible refine wpList_load_row (o:=⟨some 27,_,_,_,_,_⟩) rfl 261 _ rfl (PW+1) rfl 261 (aF T) (0,0) _ HA.out Tryz.underlying261 rfl SH.out ?_)
   | (with_reducible refine wpList_store_row (o:=⟨none,.store _ (.tmp 2) _,_,_,_,_⟩) rfl 261 _ _ rfl (w.heap.size+1) (aF T) rfl rfl 261 (aF (aC 240)) HR1.out SH.out SE.out (dJ _) ?_))
  refine bodyPost_ret (v := .agg (aF T)) (results_cell_row Tryz.results168 _ _ (w.heap.size+1) 261 (aF T) (0,0) _ rfl (setRow_heap _ (w.heap.size+1) _ (aF T) _ _ HR1.out) Tryz.underlying261 rfl SH.out) rfl ⟨rfl, ?_⟩;exact aG HB2.out (by omega) _
end
section
open Go.RowKit
structure SW (w W:World)(PR:Nat)(x T:bY):Prop where
 blk:W.heap[w.heap.size+1]? = some (.cells (aF x) 252 (0,0))
 ret:W.heap[w.heap.size+1+1]? = some (.cells (aF (aC 16)) 252 (0,0))
 rds:W.heap[PR]? = some (.cells (aF T) 261 (0,0))
 bel:Below w.heap.size w W
 lo:w.heap.size+1+1<PR
 hi:PR<W.heap.size
theorem SW.below {w W W':World}{PR:Nat}{x T:bY}(h:SW w W PR x T)(hb:Below W.heap.size W W'):SW w W' PR x T :=
 ⟨(hb.block _ (by have:=h.lo; have:=h.hi; omega)).trans h.blk,(hb.block _ (by have:=h.lo; have:=h.hi; omega)).trans h.ret,(hb.block _ h.hi).trans h.rds,h.bel.trans (hb.mono (by have:=h.lo; have:=h.hi; omega)),h.lo,Nat.lt_of_lt_of_le h.hi hb.size⟩
theorem SW.drew {w W:World}{PR:Nat}{x T:bY}(h:SW w W PR x T):SW w W.drew PR x T:=h.below (Below.refl _ W).drew
theorem SW.store {w W:World}{PR:Nat}{x T:bY}(h:SW w W PR x T)(y:bY):SW w (W.setRow (w.heap.size+1) (aF y)) PR y T :=
 ⟨setRow_heap W _ _ (aF y) _ _ h.blk,(setRow_other W _ _ _ (by omega)).trans h.ret,(setRow_other W _ _ _ (by have:=h.lo; omega)).trans h.rds,aG h.bel (by omega) _,h.lo,by simpa using h.hi⟩
theorem SW.range {w W:World}{PR:Nat}{x T:bY}(h:SW w W PR x T)(i:Nat):W.rangeAt PR (16 * i) (aF (jA T i)).toList:=aU.range (show aU W PR 261 T from h.rds) (16 * i) 16
def SX (w W:World)(PR P7:Nat)(x T y:bY):Prop:=SW w W PR x T∧aU W P7 252 y∧w.heap.size+1+1<P7∧P7<W.heap.size
theorem SX.below {w W W':World}{PR P7:Nat}{x T y:bY}(h:SX w W PR P7 x T y)(hb:Below W.heap.size W W'):SX w W' PR P7 x T y :=
 ⟨h.1.below hb,h.2.1.below hb h.2.2.2,h.2.2.1,Nat.lt_of_lt_of_le h.2.2.2 hb.size⟩
theorem SX.drew {w W:World}{PR P7:Nat}{x T y:bY}(h:SX w W PR P7 x T y):SX w W.drew PR P7 x T y:=h.below (Below.refl _ W).drew
theorem SX.store {w W:World}{PR P7:Nat}{x T y:bY}(h:SX w W PR P7 x T y)(z:bY):SX w (W.setRow (w.heap.size+1) (aF z)) PR P7 z T y :=
 ⟨h.1.store z,(setRow_other W _ _ _ (by have:=h.2.2.1; omega)).trans h.2.1,h.2.2.1,by simpa using h.2.2.2⟩
theorem SW.aeJ {w W:World}{PR:Nat}{x T:bY}(h:SW w W PR x T)(y:bY):aU (W.setRow (w.heap.size+1+1) (aF y)) PR 261 T:=(setRow_other W _ _ _ (by have:=h.lo; omega)).trans h.rds
theorem wF (T:bY)(h:T.length=240)(i:Nat)(hi:i<15):(Tryz.prog.info? 252).map (·.size)=some (aF (jA T i)).toList.length:=by rw [Array.length_toList]; exact dE _ (fZ T h i hi)
theorem KR (g:Nat)(W:World):(Instr.sliceAt 261 (.pointer (some ⟨g,0,none⟩)) (some (.int .i64 1)) (some (.int .i64 14)) none).run Tryz.prog W = .ok (.slice (some ⟨g,16,none⟩) 13 14) W:=by
 obtain ⟨i0,hi0,hs⟩:=Option.map_eq_some_iff.1 EG;have b1:(Instr.sliceBound (.int .i64 14) 15 .sliceAlen).run Tryz.prog W = .ok 14 W:=fG 14 15 _ (by omega) W;have b2:(Instr.sliceBound (.int .i64 1) 14 .sliceB).run Tryz.prog W = .ok 1 W:=fG 1 14 _ (by omega) W;simp [Instr.sliceAt,run_underlying Tryz.underlying261,Instr.sureAddr,Instr.sliceBounds,sizeOf,typeInfo,hi0,hs,Addr.add_mid,b1,b2]
theorem uV {w:World}{old cs:Array Value}{T:TypeId}:((w.alloc (.cells old T)).setRow w.heap.size cs).heap[w.heap.size]? = some (.cells cs T (0,0))∧((w.alloc (.cells old T)).setRow w.heap.size cs).heap.size=w.heap.size+1 ∧
 Below w.heap.size w ((w.alloc (.cells old T)).setRow w.heap.size cs) :=
 ⟨setRow_heap (w.alloc (.cells old T)) w.heap.size _ cs _ _ (heap_alloc_new w _),by simp,aG ((Below.refl w.heap.size w).alloc (Nat.le_refl _) _) (Nat.le_refl _) cs⟩
theorem aaM (k b:bY)(w:World)(hk:k.length=32)(hb:b.length=16) :
 Calls Tryz.prog 165 #[.agg (aF k),.agg (aF b)] w fun e w'=>e = .returned (.agg (aF (ry (keysL k) b)))∧Below w.heap.size w w':=by
 have Ap:=hid hk
 have EH:=hid hb
 have SK:=hid (rC k hk)
 have SB:=hid (dE b hb)
 have nZ:=hid (fun w=>SV k w hk)
 have hz:=BQ
 have kZ:=hid (lF k hk)
 generalize keysL k=T at *
 have ST:=hid (BP T kZ.out)
 clear hk hb
 go_in
 go_wp2_with (first
  | (with_reducible refine wpList_load_row (o:=⟨some 8,_,_,_,_,_⟩) rfl 58 _ rfl w.heap.size rfl 58 (aF k) (0,0) _ (AQ w _ _ _).1 Tryz.underlying58 rfl SK.out ?_))
 obtain ⟨_,h1,h2,hsz,hbel⟩:=AQ w (.cells (aF k) 58) (.cells (aF b) 252) (.cells (aF (aC 16)) 252)
 refine (nZ.out _).mono ?_
 rintro e w1 ⟨rfl,hb1⟩
 replace hb1:Below (w.heap.size+3) (((w.alloc (.cells (aF k) 58)).alloc (.cells (aF b) 252)).alloc (.cells (aF (aC 16)) 252)) w1:=by rw [← hsz]; exact hb1
 have hz1:w.heap.size+3≤w1.heap.size:=by rw [← hsz]; exact hb1.size
 have h1':=(hb1.block _ (by omega)).trans h1
 have h2':=(hb1.block _ (by omega)).trans h2
 have hB1:=hbel.trans (hb1.mono (by omega))
 have H1:=hid (And.intro hz1 (And.intro h1' (And.intro h2' hB1)))
 clear h1 h2 hsz hbel hb1 hz1 h1' h2' hB1
 go_upto_region 2 with (first
  | (with_reducible refine wpList_store_row (o:=⟨none,.store _ (.tmp 5) _,_,_,_,_⟩) rfl 261 _ _ rfl w1.heap.size (aF T) rfl rfl 261 _ (heap_alloc_new w1 _) ST.out ?c1 (dJ _) ?_))
 case c1=>rw [aN,aN,kZ.out]; simp [aC]
 clear hz
 generalize hW0:World.setRow _ w1.heap.size _=W0
 have hSW:SW w W0 w1.heap.size b T:=by
  obtain ⟨e1,e2,e3⟩:=uV (w:=w1) (old:=aF (aC 240)) (cs:=aF T) (T:=261);obtain ⟨z1,f1,f2,g1⟩:=H1.out;rw [← hW0];exact ⟨(e3.block _ (by omega)).trans f1,(e3.block _ (by omega)).trans f2,e1,g1.trans (e3.mono (by omega)),by omega,by rw [e2]; omega⟩
 have HS:=hid hSW
 clear hW0 hSW H1
 generalize w1.heap.size=PR at *
 have hK0:=hid (show W0.rangeAt PR 0 (aF (jA T 0)).toList from HS.out.range 0)
 have SK0:=hid (wF T kZ.out 0 (by omega))
 have hB0:=hid HS.out.blk
 go_wp2_with (first
  | (with_reducible refine wpList_load_row (o:=⟨some 10,_,_,_,_,_⟩) rfl 252 _ rfl (w.heap.size+1) rfl 252 (aF b) (0,0) _ hB0.out Tryz.underlying252 rfl SB.out ?_)
  | (with_reducible refine wpList_load_mid (op:=⟨some 12,_,_,_,_,_⟩) rfl 252 _ rfl PR 0 rfl (aF (jA T 0)).toList _ hK0.out Tryz.underlying252 rfl SK0.out ?_))
 refine (xZ b (jA T 0) _ EH.out (fZ T kZ.out 0 (by omega))).mono ?_
 rintro e w2 ⟨rfl,hb2⟩
 have HS2:=hid (HS.out.below hb2)
 have hl0:=oH T b kZ.out EH.out 0 (by omega)
 have S0:=hid (dE (jT T b 0) hl0)
 have SE0:=hid (show (aF b).size=(aF (jT T b 0)).size by rw [aN,aN,hl0,EH.out])
 have hB2:=hid HS2.out.blk
 clear hb2 hl0
 go_upto_region 3 with (first
  | (with_reducible refine wpList_store_row (o:=⟨none,.store _ (.tmp 3) _,_,_,_,_⟩) rfl 252 _ _ rfl (w.heap.size+1) (aF (jT T b 0)) rfl rfl 252 _ hB2.out S0.out SE0.out (dJ _) ?_))
 generalize hW3:World.setRow _ (w.heap.size+1) _=W3
 have NS:=hid (show SW w W3 PR (jT T b 0) T by rw [← hW3]; exact HS2.out.store _)
 clear hW3 HS HS2 hB2 hB0 hK0
 have hsl:=KR PR
 go_wp2_with fail
 clear hsl
 go_loopw [16] (fun v16 wr=>∃ i:Nat,i≤13∧v16 = .int .i64 (i:Nat)∧SW w wr PR (jT T b i) T) (fun v _=>13 - (intOf v).toNat)
 case atStart=>exact ⟨0,by omega,rfl,NS.out⟩
 case round =>
  obtain ⟨i,hi,rfl,hS⟩:=hrel;by_cases hlt:i<13
  ·have bn:=hid hlt
   have HS:=hid hS;have HKY:=hid (hS.range (i+1));have SKY:=hid (wF T kZ.out (i+1) (by omega));have SKB:=hid (dE (jA T (i+1)) (fZ T kZ.out _ (by omega)));have SE1:=hid (show (aF (aC 16)).size=(aF (jA T (i+1))).size by rw [aN,aN,fZ T kZ.out _ (by omega)]; simp [aC]);have eo:16+i * 16=16 * (i+1):=by omega
   have iI:(i:Int)<13:=by omega
   have i0:(0:Int)≤(i:Int):=by omega
   clear hi hlt hS;go_upto_region 6 with (first
    | (with_reducible refine wpList_load_mid (op:=⟨some 19,_,_,_,_,_⟩) rfl 252 _ rfl PR (16 * (i+1)) rfl (aF (jA T (i+1))).toList _ HKY.out Tryz.underlying252 rfl SKY.out ?_)
    | (with_reducible refine wpList_store_row (o:=⟨none,.store _ (.tmp 7) _,_,_,_,_⟩) rfl 252 _ _ rfl wr.heap.size (aF (jA T (i+1))) rfl rfl 252 _ (heap_alloc_new wr _) SKB.out ?c1 (dJ _) ?_))
   case c1=>exact SE1.out
   generalize hW7:World.setRow _ wr.heap.size _=W7;have h7:SX w W7 PR wr.heap.size (jT T b i) T (jA T (i+1)):=by
    obtain ⟨e1,e2,e3⟩:=uV (w:=wr) (old:=aF (aC 16)) (cs:=aF (jA T (i+1))) (T:=252);have hS:=HS.out;rw [← hW7];exact ⟨hS.below e3,e1,by have:=hS.lo; have:=hS.hi; omega,Nat.lt_of_lt_of_eq (Nat.lt_succ_self _) e2.symm⟩
   have H7:=hid h7;clear hW7 h7 HS HKY SKY SKB SE1 eo;generalize wr.heap.size=P7 at *;have LX:=hid (oH T b kZ.out EH.out i (by have:=bn.out; omega));have LX1:=hid (oH T b kZ.out EH.out (i+1) (by have:=bn.out; omega));have LK:=hid (fZ T kZ.out (i+1) (by have:=bn.out; omega));have SX0:=hid (dE _ LX.out);have SX1:=hid (dE _ LX1.out);have SE1:=hid (show (aF (jT T b i)).size=(aF (jT T b (i+1))).size by rw [aN,aN,LX.out,LX1.out]);have SKL:=hid (wF T kZ.out (i+1) (by have:=bn.out; omega));simp only [Act.put];refine wp_region_noPanic ?_;refine wp_region_held_drew (S:=fun w'=>w'.rangeAt P7 0 (aF (jA T (i+1))).toList) (by kernel_rfl) H7.out.drew.2.1.all (fun hHeld=>?_);refine tK 4 24 _ rfl (yieldsIf_load_mid (by rfl) _ _ rfl (P7) (0) rfl (aF (jA T (i+1))).toList _ (fun w' h=>h) Tryz.underlying252 rfl SKL.out) ?_;try simp only [Act.put,pZ,Array.toArray_toList]
   clear hHeld;refine rD 0 rfl fun K hK=>?_;rw [if_pos (by kernel_rfl)];refine wp_load_row (o:=⟨some 20,_,_,_,_,_⟩) 252 _ rfl (w.heap.size+1) rfl 252 (aF (jT T b i)) (0,0) _ (H7.out.drew.1.blk) Tryz.underlying252 rfl (SX0.out) ?_;refine hK.out _ _ (H7.out.drew.2.1.all) (fun hHeld=>?_);clear hK K hHeld;try simp only [Act.put,pZ]
   refine rD 1 rfl fun K hK=>?_;go_simp;go_at_call 172
   refine (Ja (jT T b i) _ LX.out).mono ?_;rintro e w8 ⟨rfl,hb⟩;have X8:=hid (H7.out.drew.below hb);clear hb;go_wp2_with fail;refine hK.out _ _ (X8.out.2.1.all) (fun hHeld=>?_);clear hK K hHeld;try simp only [Act.put,pZ]
   refine rD 2 rfl fun K hK=>?_;go_simp;go_at_call 171
   refine (EI (uI (jT T b i)) _ ((qm _).trans LX.out)).mono ?_;rintro e w9 ⟨rfl,hb⟩;have X9:=hid (X8.out.below hb);clear hb;go_wp2_with fail;refine hK.out _ _ (X9.out.2.1.all) (fun hHeld=>?_);clear hK K hHeld;try simp only [Act.put,pZ]
   refine rD 3 rfl fun K hK=>?_;go_simp;go_at_call 170
   refine (Xt (oz (uI (jT T b i))) _ (lC _)).mono ?_;rintro e w10 ⟨rfl,hb⟩;have X10:=hid (X9.out.below hb);clear hb;go_wp2_with fail;refine hK.out _ _ (X10.out.2.1.all) (fun hHeld=>?_);clear hK K hHeld;try simp only [Act.put,pZ]
   refine rD 5 rfl fun K hK=>?_;go_simp;go_at_call 169
   refine (xZ (AP (oz (uI (jT T b i)))) (jA T (i+1)) _ (qo _) LK.out).mono ?_;rintro e w11 ⟨rfl,hb⟩;have X11:=hid (X10.out.below hb);clear hb;go_wp2_with fail;refine hK.out _ _ (X11.out.2.1.all) (fun hHeld=>?_);clear hK K hHeld;try simp only [Act.put,pZ]
   refine rD 6 rfl fun K hK=>?_;rw [if_pos (by kernel_rfl)];refine wp_store_row (o:=⟨none,.store _ (.tmp 3) _,_,_,_,_⟩) 252 _ _ rfl (w.heap.size+1) (aF (jT T b (i+1))) rfl rfl 252 _ (X11.out.1.blk) (SX1.out) (SE1.out) (dJ _) ?_;refine hK.out _ _ ((X11.out.store _).2.1.all) (fun hHeld=>?_);clear hK K hHeld;simp only [Act.put];refine wpAnyH_done (by decide +kernel) ?_ _;refine NoPanic.normal ?_;go_wp2_with fail;go_roundw
   case rel=>exact ⟨i+1,by have:=bn.out; omega,by go_num,(X11.out.store _).1⟩
   case measure=>simp [intOf]; omega
  have HI:=hid (show i=13 by omega);have hge:(13:Int)≤(i:Int):=by omega
  have al9:SW w wr PR (jT T b 13) T:=by rw [← HI.out]; exact hS
  have SY:=hid al9;have LX:=hid (oH T b kZ.out EH.out 13 (by omega));have LK:=hid (fZ T kZ.out 14 (by omega));have LF:=hid (sO T b kZ.out);have SX0:=hid (dE _ LX.out);have SXF:=hid (dE _ LF.out);have SE1:=hid (show (aF (aC 16)).size=(aF (ry T b)).size by rw [aN,aN,LF.out]; simp [aC]);have SKL:=hid (wF T kZ.out 14 (by omega));have hRG:∀ W x,SW w W PR x T→W.rangeAt PR 224 (aF (jA T 14)).toList:=fun W x h=>h.range 14;have lW:=hid hRG;clear al9 hS hlt hi hRG;go_wp2_with fail;refine wp_region_noPanic ?_;refine wp_region_held_drew (S:=fun w'=>w'.rangeAt PR 224 (aF (jA T 14)).toList) (by kernel_rfl) (lW.out _ _ SY.out.drew) (fun hHeld=>?_);refine tR 3 30 (h:=?_);refine tK 4 31 _ rfl (yieldsIf_load_mid (by rfl) _ _ rfl (PR) (224) rfl (aF (jA T 14)).toList _ (fun w' h=>h) Tryz.underlying252 rfl SKL.out) ?_;try simp only [Act.put,pZ,Array.toArray_toList]
  clear hHeld;refine rD 0 rfl fun K hK=>?_;rw [if_pos (by kernel_rfl)];refine wp_load_row (o:=⟨some 27,_,_,_,_,_⟩) 252 _ rfl (w.heap.size+1) rfl 252 (aF (jT T b 13)) (0,0) _ (SY.out.drew.blk) Tryz.underlying252 rfl (SX0.out) ?_;refine hK.out _ _ (lW.out _ _ SY.out.drew) (fun hHeld=>?_);clear hK K hHeld;try simp only [Act.put,pZ]
  refine rD 1 rfl fun K hK=>?_;go_simp;go_at_call 172
  refine (Ja (jT T b 13) _ LX.out).mono ?_;rintro e w8 ⟨rfl,hb⟩;have X8:=hid (SY.out.drew.below hb);clear hb;go_wp2_with fail;refine hK.out _ _ (lW.out _ _ X8.out) (fun hHeld=>?_);clear hK K hHeld;try simp only [Act.put,pZ]
  refine rD 2 rfl fun K hK=>?_;go_simp;go_at_call 171
  refine (EI (uI (jT T b 13)) _ ((qm _).trans LX.out)).mono ?_;rintro e w9 ⟨rfl,hb⟩;have X9:=hid (X8.out.below hb);clear hb;go_wp2_with fail;refine hK.out _ _ (lW.out _ _ X9.out) (fun hHeld=>?_);clear hK K hHeld;try simp only [Act.put,pZ]
  refine rD 5 rfl fun K hK=>?_;go_simp;go_at_call 169
  refine (xZ (oz (uI (jT T b 13))) (jA T 14) _ (lC _) LK.out).mono ?_;rintro e w10 ⟨rfl,hb⟩;have X10:=hid (X9.out.below hb);clear hb;go_wp2_with fail;refine hK.out _ _ (lW.out _ _ X10.out) (fun hHeld=>?_);clear hK K hHeld;try simp only [Act.put,pZ]
  refine rD 6 rfl fun K hK=>?_;rw [if_pos (by kernel_rfl)];refine wp_store_row (o:=⟨none,.store _ (.tmp 4) _,_,_,_,_⟩) 252 _ _ rfl (w.heap.size+1+1) (aF (ry T b)) rfl rfl 252 _ (X10.out.ret) (SXF.out) (SE1.out) (dJ _) ?_;refine hK.out _ _ ((X10.out.aeJ _).range 224 16) (fun hHeld=>?_);clear hK K hHeld;simp only [Act.put];refine wpAnyH_done (by decide +kernel) ?_ _;refine NoPanic.normal ?_;go_wp2_with fail;refine bodyPost_ret (v := .agg (aF (ry T b))) (results_cell_row Tryz.results165 _ _ (w.heap.size+1+1) 252 (aF (ry T b)) (0,0) _ rfl (setRow_heap _ (w.heap.size+1+1) _ (aF (ry T b)) _ _ X10.out.ret) Tryz.underlying252 rfl SXF.out) rfl ⟨rfl, ?_⟩;exact aG X10.out.bel (by omega) _
end
section
open Go.ChangeShapes Go.WideShapes Go.ChangeAt Go.RowKit
theorem own:ownKnob Tryz.prog.godebug=none:=by kernel_rfl
theorem laidOut:laidOutB Tryz.prog=true:=by kernel_rfl
section
variable {H:Type} {enc:TypeId×Value→H}
end
end
end Go.Proofs.YtljjcbmkbmloaaaGreatDoor
