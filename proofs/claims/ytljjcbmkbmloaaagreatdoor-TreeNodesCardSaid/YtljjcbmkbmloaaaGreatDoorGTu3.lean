import Derived.Test.YtljjcbmkbmloaaaGreatDoorGTu2
import Derived.Deep.MidRow
import Derived.Deep.QuietTactic
import Derived.BigQuiet
import Derived.Deep.RegionHeld3
import Derived.Deep.RegionLaw
import Derived.Laws.CopyOwn
import Derived.Test.YtljjcbmkbmloaaaGreatDoorGTuA
namespace Go.Proofs.YtljjcbmkbmloaaaGreatDoor
set_option maxHeartbeats 3200000
set_option maxRecDepth 100000
set_option linter.unusedVariables false
open Lib (hid)
section
open Go.RowKit
def Ie (x:BitVec 32)(n:Int):BitVec 32:=x.rotateLeft (n % 32).toNat
def Kv (x:BitVec 32)(a b c:Int):BitVec 32:=Ie x (-a) ^^^ Ie x (-b) ^^^ Ie x (-c)
def NJ (x:BitVec 32)(a b:Int)(c:Nat):BitVec 32:=Ie x (-a) ^^^ Ie x (-b) ^^^ (x >>> c)
def wordAt (b:bI)(i:Nat):BitVec 32:=BitVec.ofNat 32 (num ((b.drop (4 * i)).take 4)).toNat
def Vs (b:bI)(l:List (BitVec 32)):BitVec 32 :=
 if l.length<16 then wordAt b l.length
 else l.getD (l.length - 16) 0+NJ (l.getD (l.length - 15) 0) 7 18 3+l.getD (l.length - 7) 0+NJ (l.getD (l.length - 2) 0) 17 19 10
def Hy (b:bI):Nat→List (BitVec 32)
 | 0=>[]
 | n+1=>Hy b n++[Vs b (Hy b n)]
theorem o7 (b:bI)(n:Nat):(Hy b n).length=n:=by
 induction n with
 | zero=>rfl
 | succ n ih=>simp [Hy,ih]
def round (k w:BitVec 32)(x:List (BitVec 32)):List (BitVec 32) :=
 match x with
 | [a,b,c,d,e,f,g,h] =>
   let t1:=h+Kv e 6 11 25+(e &&& f ||| ~~~e &&& g)+k+w
   let t2:=Kv a 2 13 22+(a &&& b ||| a &&& c ||| b &&& c)
   [t1+t2,a,b,c,d+t1,e,f,g]
 | _=>[]
def rounds (ks ws:List (BitVec 32)):Nat→List (BitVec 32)→List (BitVec 32)
 | 0,x=>x
 | n+1,x=>round (ks.getD n 0) (ws.getD n 0) (rounds ks ws n x)
def jV (ks:List (BitVec 32))(s:List (BitVec 32))(b:bI):List (BitVec 32):=List.zipWith (· + ·) (rounds ks (Hy b 64) 64 s) s
theorem Ig {α:Type}(l:List α)(i:Nat)(x:α)(h:i<l.length):(l.set i x).take (i+1)=l.take i++[x]:=by
 rw [List.take_succ_eq_append_getElem (by simpa using h)];simp [List.take_set_of_le]
theorem getD_take {α:Type}(l:List α)(i j:Nat)(d:α)(h:j<i):(l.take i).getD j d=l.getD j d:=by
 simp [List.getD,h]
end
section
open Go.RowKit
def kY (xs:List (BitVec 32)):Array Value:=(xs.map fun b=>Value.int .u32 (wv b)).toArray
def bg (l:bI):Array Value:=(l.map (Value.int .u8)).toArray
theorem dw (xs:List (BitVec 32)):(kY xs).size=xs.length:=by simp [kY]
theorem aT (l:bI):(bg l).size=l.length:=by simp [bg]
theorem Rw (xs:List (BitVec 32))(k:Nat)(h:k<xs.length):(kY xs)[k]? = some (.int .u32 (wv (xs.getD k 0))):=by simp [kY,h]
theorem Az (l:bI)(k:Nat)(h:k<l.length):(bg l)[k]? = some (.int .u8 (l.getD k 0)):=by simp [bg,h]
theorem wz (xs:List (BitVec 32)):(kY xs).all (·.oneCell')=true:=by
 rw [Array.all_eq_true_iff_forall_mem];intro v hv;simp only [kY,List.mem_toArray,List.mem_map] at hv;obtain ⟨n,_,rfl⟩:=hv;rfl
theorem gK (l:bI):(bg l).all (·.oneCell')=true:=by
 rw [Array.all_eq_true_iff_forall_mem];intro v hv;simp only [bg,List.mem_toArray,List.mem_map] at hv;obtain ⟨n,_,rfl⟩:=hv;rfl
def jZ (w:World)(g t:Nat)(xs:List (BitVec 32)):Prop:=w.heap[g]? = some (.cells (kY xs) t (0,0))
theorem jZ.cell {w:World}{g t:Nat}{xs:List (BitVec 32)}(h:jZ w g t xs){k:Nat}(hk:k<xs.length):w.cell? ⟨g,k,none⟩=some (.int .u32 (wv (xs.getD k 0))):=by
 rw [cell_of_row w g k _ _ _ h]; exact Rw xs k hk
theorem jZ.free {w:World}{g t:Nat}{xs:List (BitVec 32)}(h:jZ w g t xs)(k:Nat):w.frozen? ⟨g,k,none⟩=false:=frozen_of_row w g k _ _ h
theorem jZ.set {w:World}{g t:Nat}{xs:List (BitVec 32)}(h:jZ w g t xs)(k:Nat)(v:BitVec 32):jZ (w.setCell ⟨g,k,none⟩ (.int .u32 (wv v))) g t (xs.set k v):=by
 unfold jZ;rw [heap_setCell_same w g k _ _ _ h];congr 2;simp only [kY,List.setIfInBounds_toArray,List.map_set]
theorem jZ.below {w' w:World}{g t B:Nat}{xs:List (BitVec 32)}(h:jZ w g t xs)(hb:Below B w w')(hg:g<B):jZ w' g t xs:=(hb.block g hg).trans h
def iU (w:World)(g t:Nat)(l:bI):Prop:=w.heap[g]? = some (.cells (bg l) t (0,0))
theorem iU.cell {w:World}{g t:Nat}{l:bI}(h:iU w g t l){k:Nat}(hk:k<l.length):w.cell? ⟨g,k,none⟩=some (.int .u8 (l.getD k 0)):=by
 rw [cell_of_row w g k _ _ _ h]; exact Az l k hk
theorem iU.free {w:World}{g t:Nat}{l:bI}(h:iU w g t l)(k:Nat):w.frozen? ⟨g,k,none⟩=false:=frozen_of_row w g k _ _ h
theorem iU.set {w:World}{g t:Nat}{l:bI}(h:iU w g t l)(k:Nat)(v:Int):iU (w.setCell ⟨g,k,none⟩ (.int .u8 v)) g t (l.set k v):=by
 unfold iU;rw [heap_setCell_same w g k _ _ _ h];congr 2;simp only [bg,List.setIfInBounds_toArray,List.map_set]
theorem iU.below {w' w:World}{g t B:Nat}{l:bI}(h:iU w g t l)(hb:Below B w w')(hg:g<B):iU w' g t l:=(hb.block g hg).trans h
theorem IZ {P:Program}(T E:TypeId)(n:Nat)(cs:Array Value)(k:Nat)(v:Value)(i0:TypeInfo)(d:TypeDesc)(hu:P.underlying T=some (.array n E))(hE:P.underlying E=some d)
 (hd:(match d with | .struct _ | .array _ _=>true | _=>false)=false) (hi:P.info? E=some i0) (hs:i0.size=1) (hk:k<n) (hv:cs[k]? = some v) (w:World) :
 (Instr.index T (.agg cs) (.int .i64 (k:Int))).run P w = .ok v w:=by
 have hagg:(isAgg E).run P w = .ok false w:=by
  unfold isAgg;rw [Sem.run_bind,run_underlying hE w];cases d <;> simp_all
 have hpart:(part E cs k).run P w = .ok v w:=by
  unfold part;rw [Sem.run_bind,hagg];simp [hv]
 simp [Instr.index,asIntOf,run_underlying hu,hk,sizeOf,typeInfo,hi,hs,hpart]
theorem oD (w:World)(A B C:Obj):(((w.alloc A).alloc B).alloc C).heap[w.heap.size]? = some A∧(((w.alloc A).alloc B).alloc C).heap[w.heap.size+1]? = some B ∧
 (((w.alloc A).alloc B).alloc C).heap[w.heap.size+1+1]? = some C∧(((w.alloc A).alloc B).alloc C).heap.size=w.heap.size+3∧Below w.heap.size w (((w.alloc A).alloc B).alloc C):=by
 refine ⟨?_, ?_, ?_,by simp,(((Below.refl w.heap.size w).alloc (Nat.le_refl _) A).alloc (by simp) B).alloc (by simp; omega) C⟩
 ·rw [Below.heap_alloc _ _ _ (by simp; omega),Below.heap_alloc _ _ _ (by simp)]; exact heap_alloc_new w A
 ·rw [Below.heap_alloc _ _ _ (by simp)]
  have:=heap_alloc_new (w.alloc A) B;simpa using this
 ·have:=heap_alloc_new ((w.alloc A).alloc B) C
  simpa using this
theorem alN {P:Program}{c:Code}{Q:Exit→Act→World→Prop}{a:Act}{w:World}{A B C:Obj}
 (h:∀ W0:World,W0.heap[w.heap.size]? = some A∧W0.heap[w.heap.size+1]? = some B∧W0.heap[w.heap.size+1+1]? = some C∧W0.heap.size=w.heap.size+3∧Below w.heap.size w W0→c.wp P Q a W0) :
 c.wp P Q a (((w.alloc A).alloc B).alloc C):=h _ (oD w A B C)
def zeros (n:Nat):List (BitVec 32):=List.replicate n 0
theorem below_drewN {B:Nat}{a w:World}(h:Below B a w)(n:Nat):Below B a (w.drewN n):=⟨h.os,h.tape,h.output,h.size,h.block⟩
theorem Xb {P:Program}{c:Code}{Q:Exit→Act→World→Prop}{a:Act}{w:World}{old cs:Array Value}{T:TypeId}
 (h:∀ W:World,W.heap[w.heap.size]? = some (.cells cs T (0,0))∧W.heap.size=w.heap.size+1∧Below w.heap.size w W→c.wp P Q a W) :
 c.wp P Q a ((w.alloc (.cells old T)).setRow w.heap.size cs) :=
 h _ ⟨setRow_heap _ _ _ cs _ _ (heap_alloc_new w _),by simp,((Below.refl w.heap.size w).alloc (Nat.le_refl _) _).trans ⟨rfl,rfl,rfl,by simp,fun k hk=>setRow_other _ _ k cs (by omega)⟩⟩
theorem AA {P:Program}{c:Code}{Q:Exit→Act→World→Prop}{a:Act}{w:World}{n:Nat}(h:∀ W:World,(∀ k:Nat,W.heap[k]? = w.heap[k]?)∧W.heap.size=w.heap.size∧(∀ B a,Below B a w→Below B a W)→c.wp P Q a W):c.wp P Q a (w.drewN n) :=
 h _ ⟨fun _=>rfl,rfl,fun _ _ hb=>below_drewN hb n⟩
end
section
open Go.RowKit
theorem yY (x:BitVec 32)(n:Int)(w:World) :
 Calls Tryz.prog 164 #[.int .u32 (wv x),.int .i64 n] w fun e w'=>e = .returned (.int .u32 (wv (Ie x n)))∧w'=w:=by
 have h:=aag (x.toNat:Int) n w
 rw [Xa] at h
 exact h
theorem I4 (x:BitVec 32)(a b c:Int)(w:World)(a0:0≤a)(a1:a≤32)(b0:0≤b)(b1:b≤32)(c0:0≤c)(c1:c≤32) :
 Calls Tryz.prog 154 #[.int .u32 (wv x),.int .i64 a,.int .i64 b,.int .i64 c] w fun e w'=>e = .returned (.int .u32 (wv (Kv x a b c)))∧w'=w:=by
 have hx:=Em
 go_in
 go_wp2_with fail
 refine (yY x (-a) _).mono ?_
 rintro e w1 ⟨rfl,rfl⟩
 go_wp2_with fail
 refine (yY x (-b) _).mono ?_
 rintro e w2 ⟨rfl,rfl⟩
 go_wp2_with fail
 refine (yY x (-c) _).mono ?_
 rintro e w3 ⟨rfl,rfl⟩
 go_wp2_with fail
 go_ret
 exact ⟨rfl,rfl⟩
def I5 (x y z:BitVec 32):BitVec 32:=x &&& y ||| ~~~x &&& z
def aaj (x y z:BitVec 32):BitVec 32:=x &&& y ||| x &&& z ||| y &&& z
theorem aew (x y z:BitVec 32):bits BinOp.or IntKind.u32 (bits BinOp.and IntKind.u32 (wv x) (wv y)) (bits BinOp.and IntKind.u32 (bits BinOp.xor IntKind.u32 IntKind.u32.max (wv x)) (wv z))=wv (I5 x y z):=by
 rw [aev,Rq,Rq,agO]; rfl
theorem Rx (x y z:BitVec 32)(w:World) :
 Calls Tryz.prog 155 #[.int .u32 (wv x),.int .u32 (wv y),.int .u32 (wv z)] w fun e w'=>e = .returned (.int .u32 (wv (I5 x y z)))∧w'=w:=by
 have HP:=hid (aew x y z)
 go_in
 go_wp2_with fail
 go_ret
 exact ⟨congrArg (fun v=>Ending.returned (.int .u32 v)) HP.out,rfl⟩
theorem aak (x y z:BitVec 32)(w:World) :
 Calls Tryz.prog 156 #[.int .u32 (wv x),.int .u32 (wv y),.int .u32 (wv z)] w fun e w'=>e = .returned (.int .u32 (wv (aaj x y z)))∧w'=w:=by
 have hand:=Rq
 have hor:=agO
 go_in
 go_wp2_with fail
 go_ret
 exact ⟨rfl,rfl⟩
end
section
open Go.RowKit
def nG (l:bI)(i j:Nat):BitVec 32:=BitVec.ofNat 32 (num ((l.drop (4 * j)).take (min 4 (i - 4 * j)))).toNat
def Nw (l:bI)(i:Nat):List (BitVec 32):=(List.range 64).map (nG l i)
theorem En (l:bI)(i:Nat):(Nw l i).length=64:=by simp [Nw]
theorem ahY (l:bI)(i j:Nat)(h:j<64):(Nw l i).getD j 0=nG l i j:=by simp [Nw,h]
theorem aal (l:bI):Nw l 0=List.replicate 64 0:=by
 rw [List.eq_replicate_iff];refine ⟨by simp [Nw],fun b hb=>?_⟩;simp only [Nw,List.mem_map] at hb;obtain ⟨j,_,rfl⟩:=hb;simp [nG,num]
theorem NK (l:bI)(i j:Nat)(h:j ≠ i / 4):nG l (i+1) j=nG l i j:=by
 unfold nG;rw [show min 4 (i+1 - 4 * j)=min 4 (i - 4 * j) by omega]
theorem I7 (l:bI)(hy:gm l)(i k:Nat):0≤num ((l.drop i).take k)∧num ((l.drop i).take k)<256 ^ k:=by
 have hb:gm ((l.drop i).take k):=fun z hz=>hy z (List.mem_of_mem_drop (List.mem_of_mem_take hz))
 have h1:=Aw _ hb;have h2:((l.drop i).take k).length≤k:=List.length_take_le _ _;have h3:(256:Int) ^ ((l.drop i).take k).length≤256 ^ k:=by
  have:((256 ^ ((l.drop i).take k).length:Nat):Int)≤((256 ^ k:Nat):Int):=Int.ofNat_le.2 (Nat.pow_le_pow_right (by decide) h2);simpa using this
 omega
theorem Kw (l:bI)(hy:gm l)(i j:Nat):wv (nG l i j)=num ((l.drop (4 * j)).take (min 4 (i - 4 * j))):=by
 obtain ⟨h0,h1⟩:=I7 l hy (4 * j) (min 4 (i - 4 * j));have h2:(256:Int) ^ (min 4 (i - 4 * j))≤256 ^ 4:=by
  have:((256 ^ (min 4 (i - 4 * j)):Nat):Int)≤((256 ^ 4:Nat):Int):=Int.ofNat_le.2 (Nat.pow_le_pow_right (by decide) (by omega));simpa using this
 have h4:(256:Int) ^ 4=4294967296:=by decide
 unfold wv nG;rw [BitVec.toNat_ofNat,Nat.mod_eq_of_lt (by omega)];omega
theorem BH (l:bI)(hy:gm l)(i:Nat):wv (nG l i (i / 4))<16777216:=by
 rw [Kw l hy];obtain ⟨h0,h1⟩:=I7 l hy (4 * (i / 4)) (min 4 (i - 4 * (i / 4)));have h2:(256:Int) ^ (min 4 (i - 4 * (i / 4)))≤256 ^ 3:=by
  have:((256 ^ (min 4 (i - 4 * (i / 4))):Nat):Int)≤((256 ^ 3:Nat):Int):=Int.ofNat_le.2 (Nat.pow_le_pow_right (by decide) (by omega));simpa using this
 have h4:(256:Int) ^ 3=16777216:=by decide
 omega
theorem Xc (l:bI)(hy:gm l)(i:Nat)(hi:i<l.length):wv (nG l (i+1) (i / 4))=wv (nG l i (i / 4)) * 256+l[i]?.getD 0:=by
 rw [Kw l hy,Kw l hy];obtain ⟨m,hm⟩:∃ m,m=i - 4 * (i / 4):=⟨_,rfl⟩
 rw [show min 4 (i+1 - 4 * (i / 4))=m+1 by omega,show min 4 (i - 4 * (i / 4))=m by omega];have hlen:m<(l.drop (4 * (i / 4))).length:=by rw [List.length_drop]; omega
 rw [IY _ _ hlen,yU,List.getElem?_drop,show 4 * (i / 4)+m=i by omega]
theorem ahZ (x:BitVec 32)(c:Int)(hx:wv x<16777216)(c0:0≤c)(c1:c≤255):bits BinOp.or IntKind.u32 (wv x * 256) c=wv x * 256+c:=by
 obtain ⟨n,hn⟩:∃ n:Nat,wv x=n:=⟨x.toNat,rfl⟩
 obtain ⟨m,rfl⟩:=Int.eq_ofNat_of_zero_le c0;rw [hn] at hx ⊢;have e:((n:Int) * 256)=((n * 256:Nat):Int):=by simp
 rw [e,uP _ _ (by omega) (by omega)];have:=Z9 n m 8 (by omega);rw [show (2:Nat) ^ 8=256 by decide] at this;rw [this]; simp
theorem Ry (l:bI)(hy:gm l)(i:Nat)(hi:i<l.length):bits BinOp.or IntKind.u32 (wv (nG l i (i / 4)) * 256) (l[i]?.getD 0)=wv (nG l (i+1) (i / 4)):=by
 obtain ⟨c0,c1⟩:=Ko l hy i;rw [ahZ _ _ (BH l hy i) c0 c1,Xc l hy i hi]
theorem aex (l:bI)(i:Nat):(Nw l i).set (i / 4) (nG l (i+1) (i / 4))=Nw l (i+1):=by
 apply List.ext_getElem (by simp [Nw]);intro j h1 h2;simp only [Nw,List.length_set,List.length_map,List.length_range] at h1;rw [List.getElem_set];by_cases hj:i / 4=j
 ·subst hj; simp [Nw]
 rw [if_neg hj];simp only [Nw,List.getElem_map,List.getElem_range];exact (NK l i j (fun e=>hj e.symm)).symm
theorem Xd (l:bI)(n:Nat)(hn:n≤16):Hy l n=(List.range n).map (wordAt l):=by
 induction n with
 | zero=>rfl
 | succ n ih =>
   have hlen:=o7 l n;rw [Hy,List.range_succ,List.map_append,ih (by omega)];congr 1;rw [← ih (by omega)];simp only [Vs,hlen];rw [if_pos (by omega)];rfl
theorem aam (l:bI):(Nw l 64).take 16=Hy l 16:=by
 rw [Xd l 16 (Nat.le_refl _)];apply List.ext_getElem (by simp [Nw]);intro j h1 h2;simp at h2;simp only [Nw,List.getElem_take,List.getElem_map,List.getElem_range,nG,wordAt];rw [show min 4 (64 - 4 * j)=4 by omega]
end
section
open Go.RowKit
theorem NM:(Tryz.prog.info? 196).map (·.size)=some 64:=by kernel_rfl
theorem aan:(Tryz.prog.info? 247).map (·.size)=some 64:=by kernel_rfl
theorem uQ (l:bI)(h:l.length=64):(Tryz.prog.info? 196).map (·.size)=some (bg l).size:=by rw [NM,aT,h]
theorem NP (l:List (BitVec 32))(h:l.length=64):(Tryz.prog.info? 247).map (·.size)=some (kY l).size:=by rw [aan,dw,h]
theorem xR:(Tryz.prog.info? 5).map (·.size)=some 1:=by kernel_rfl
theorem Xe (l:bI)(hl:l.length=64)(k:Nat)(h:k<64)(w:World):(Instr.index 196 (.agg (bg l)) (.int .i64 (k:Int))).run Tryz.prog w = .ok (.int .u8 (l[k]?.getD 0)) w:=by
 obtain ⟨i0,hi,hs⟩:=Option.map_eq_some_iff.1 xR;exact IZ _ _ _ _ k _ i0 _ Tryz.underlying196 Tryz.underlying5 rfl hi hs h (by rw [Az l k (by omega)]; rfl) w
theorem aoT (y:BitVec 32):bits BinOp.xor IntKind.u32 (wv (Ie y (-7) ^^^ Ie y (-18))) (wv y / 8)=wv (NJ y 7 18 3):=by
 have h:(2:Int) ^ 3=8:=by decide
 have e:=aai y 3;rw [h] at e;rw [e,Em]; rfl
theorem aoU (y:BitVec 32):bits BinOp.xor IntKind.u32 (wv (Ie y (-17) ^^^ Ie y (-19))) (wv y / 1024)=wv (NJ y 17 19 10):=by
 have h:(2:Int) ^ 10=1024:=by decide
 have e:=aai y 10;rw [h] at e;rw [e,Em]; rfl
theorem Rz (l:bI)(w:World)(hl:l.length=64)(hy:gm l) :
 Calls Tryz.prog 153 #[.agg (bg l)] w fun e w'=>e = .returned (.agg (kY (Hy l 64)))∧Below w.heap.size w w':=by
 have HL:=hid hl
 have HS:=hid (uQ l hl)
 have HIX:=hid (Xe l hl)
 clear hl
 go_in
 go_wp2_with (first
  | (with_reducible refine wpList_load_row (o:=⟨some 9,_,_,_,_,_⟩) rfl 196 _ rfl w.heap.size rfl 196 (bg l) (0,0) _ (oD w _ _ _).1 Tryz.underlying196 rfl HS.out ?_))
 refine alN fun W0 hW=>?_
 obtain ⟨_,hR,hM,hsz,hbel⟩:=hW
 have HR:=hid (show jZ W0 (w.heap.size+1) 247 (zeros 64) from hR)
 have HM:=hid (show jZ W0 (w.heap.size+1+1) 247 (zeros 64) from hM)
 have HZ:=hid hsz
 clear hR hM hsz
 generalize Ky:w.heap.size+1=PR at *
 generalize hPM:PR+1=PM at *
 have Dq:=hid Ky
 have HPM:=hid hPM
 clear Ky hPM
 go_loopw [10] (fun v10 wr=>∃ i:Nat,i≤64∧v10 = .int .i64 (i:Nat)∧jZ wr PM 247 (Nw l i)∧Below PM W0 wr) (fun v _=>64 - (intOf v).toNat)
 case atStart=>exact ⟨0,by omega,rfl,by rw [aal]; exact HM.out,Below.refl _ _⟩
 case round =>
  obtain ⟨i,hi,rfl,hA,hb⟩:=hrel;by_cases hlt:i<64
  ·obtain ⟨j,hj,hj2⟩:∃ j:Nat,(i:Int) / 4=(j:Int)∧i / 4=j:=⟨i / 4,by omega,rfl⟩
   have hjl:j<16:=by omega
   have cj:=hA.cell (k:=j) (by rw [En]; omega);rw [ahY _ _ _ (by omega)] at cj;have fj:=hA.free j;have hix:=HIX.out i hlt;have hstep:=Ry l hy i (by rw [HL.out]; omega);have hset:=aex l i;have hsm:=BH l hy i;rw [hj2] at hstep hset hsm;obtain ⟨c0,c1⟩:=Ko l hy i;generalize l[i]?.getD 0=c at *;generalize nG l i j=x at *;generalize nG l (i+1) j=y at *;have x0:=Kr x;have HA:=hid hA;have HST:=hid hstep;have ZM:=hid hset;have HJ2:=hid hj2;have atc:(i:Int)<64:=by omega
   have hjI:(j:Int)<16:=by omega
   have hj0:(0:Int)≤(j:Int):=by omega
   have bn:=hid hlt;clear hA hstep hset hj2 hy hlt hi hjl;go_wp2_with fail;go_roundw
   case rel=>exact ⟨i+1,by have:=bn.out; omega,by go_num,by have e:=HA.out.set j y; rw [ZM.out] at e; rw [HST.out]; exact e,hb.setCell (p:=⟨PM,j,none⟩) (Nat.le_refl _) _⟩
   case measure=>simp [intOf]; omega
  have hge:(64:Int)≤(i:Int):=by omega
  have HI:=hid (show i=64 by omega);have HA:=hid hA;clear hA hlt hi;go_wp2_with fail;go_loopw [6] (fun v6 wr=>∃ (i:Nat) (M:List (BitVec 32)),16≤i∧i≤64∧v6 = .int .i64 (i:Nat)∧M.length=64∧M.take i=Hy l i∧jZ wr PM 247 M∧Below PM W0 wr) (fun v _=>64 - (intOf v).toNat)
  case atStart=>exact ⟨16,Nw l 64,by omega,by omega,rfl,En l 64,aam l,by have:=HA.out; rwa [HI.out] at this,hb⟩
  case round =>
   obtain ⟨i,M,ah0,hi64,rfl,Eo,hMS,hA2,hb2⟩:=hrel;clear hge HA;by_cases hlt:i<64
   ·have hn:=o7 l i
    obtain ⟨j16,e16,n16⟩:∃ j:Nat,IntKind.i64.wrap ((i:Int) - 16)=(j:Int)∧i - 16=j:=⟨i - 16,by rw [IntWalk.i64_in _ (by omega)]; omega,rfl⟩
    obtain ⟨j15,e15,n15⟩:∃ j:Nat,IntKind.i64.wrap ((i:Int) - 15)=(j:Int)∧i - 15=j:=⟨i - 15,by rw [IntWalk.i64_in _ (by omega)]; omega,rfl⟩
    obtain ⟨j7,e7,n7⟩:∃ j:Nat,IntKind.i64.wrap ((i:Int) - 7)=(j:Int)∧i - 7=j:=⟨i - 7,by rw [IntWalk.i64_in _ (by omega)]; omega,rfl⟩
    obtain ⟨j2,e2,n2⟩:∃ j:Nat,IntKind.i64.wrap ((i:Int) - 2)=(j:Int)∧i - 2=j:=⟨i - 2,by rw [IntWalk.i64_in _ (by omega)]; omega,rfl⟩
    have HN:=hid (And.intro n16 (And.intro n15 (And.intro n7 n2)));have i16:(j16:Int)<64:=by omega
    have i15:(j15:Int)<64:=by omega
    have i7:(j7:Int)<64:=by omega
    have i2:(j2:Int)<64:=by omega
    have p16:(0:Int)≤(j16:Int):=by omega
    have p15:(0:Int)≤(j15:Int):=by omega
    have p7:(0:Int)≤(j7:Int):=by omega
    have p2:(0:Int)≤(j2:Int):=by omega
    have pi:(16:Int)≤(i:Int):=by omega
    have pi2:(i:Int)<64:=by omega
    have ate:i ≠ j16:=by omega
    have ne7:i ≠ j7:=by omega
    have hnx:Vs l (Hy l i)=M.getD j16 0+NJ (M.getD j15 0) 7 18 3+M.getD j7 0+NJ (M.getD j2 0) 17 19 10:=by
     unfold Vs;rw [hn,if_neg (by omega),← hMS,getD_take _ _ _ _ (by omega),getD_take _ _ _ _ (by omega),getD_take _ _ _ _ (by omega),getD_take _ _ _ _ (by omega),n16,n15,n7,n2]
    have C16:=hid (fun (W:World) (h:jZ W PM 247 M)=>h.cell (k:=j16) (by omega));have C15:=hid (fun (W:World) (h:jZ W PM 247 M)=>h.cell (k:=j15) (by omega));have C7:=hid (fun (W:World) (h:jZ W PM 247 M)=>h.cell (k:=j7) (by omega));have C2:=hid (fun (W:World) (h:jZ W PM 247 M)=>h.cell (k:=j2) (by omega));have C0:=hid (fun (W:World) (h:jZ W PM 247 M)=>h.cell (k:=i) (by omega));have F0:=hid (fun (W:World) (h:jZ W PM 247 M)=>h.free i);generalize M.getD i 0=y0 at *;generalize M.getD j16 0=y16 at *;generalize M.getD j15 0=y15 at *;generalize M.getD j7 0=y7 at *;generalize M.getD j2 0=y2 at *;have xB:=hid hnx;have HA2:=hid hA2;have HMS:=hid hMS;have NQ:=hid Eo;have bn:=hid (And.intro hlt ah0);have HHN:=hid hn;have aap:=Em;have aoV:=Kr y15;have y2p:=Kr y2;have c15:=C15.out wr HA2.out;clear hnx hA2 hMS Eo hlt ah0 hi64 hn n16 n15 n7 n2 hb hbel hy;go_wp2_with fail;go_quiet ((go_at_call 164; exact Calls.quiet_of_same (yY _ _ _)));go_wp2_with fail;refine AA fun W1 hW1=>?_;obtain ⟨hw1,hz1,hk1⟩:=hW1;have Am:=hid (show jZ W1 PM 247 M from (hw1 PM).trans HA2.out);have HB3:=hid (hk1 _ _ hb2);clear hw1 hz1 hk1 hb2 c15;have c2:=C2.out W1 Am.out;go_quiet ((go_at_call 164; exact Calls.quiet_of_same (yY _ _ _)));go_wp2_with fail;refine AA fun W2 hW2=>?_;obtain ⟨hw2,hz2,hk2⟩:=hW2;have BI:=hid (show jZ W2 PM 247 M from (hw2 PM).trans Am.out);have HB4:=hid (hk2 _ _ HB3.out);clear hw2 hz2 hk2 c2;have c16:=C16.out W2 BI.out;have c7:=C7.out W2 BI.out;have c0:=C0.out W2 BI.out;have f0:=F0.out W2 BI.out;have hadd:=Ru;have agP:=Ku;rw [aoT,aoU];clear aap aoV y2p;generalize NJ y15 7 18 3=r1 at *;generalize NJ y2 17 19 10=r2 at *;go_region_held3 (fun w'=>w'.cell? ⟨PM,j16,none⟩=some (.int .u32 (wv y16))∧w'.cell? ⟨PM,j7,none⟩=some (.int .u32 (wv y7)))
     (first
       | exact ⟨c16,c7⟩
       | exact ⟨(World.cell?_setCell_other _ _ _ _ (by intro h; injection h; omega)).trans c16,(World.cell?_setCell_other _ _ _ _ (by intro h; injection h; omega)).trans c7⟩)
     (fail)
    go_wp2_with fail;go_roundw
    case rel =>
     have hst:=(show jZ W2.drew PM 247 M from BI.out).set i (y16+r1+y7+r2);exact ⟨i+1,_,by omega,by omega,by go_num,by simpa using NQ.out,by rw [Ig _ _ _ (by rw [NQ.out]; exact bn.out.1),HMS.out,Hy,xB.out],hst,((HB4.out).drew).setCell (p:=⟨PM,i,none⟩) (Nat.le_refl _) _⟩
    case measure=>simp [intOf]; omega
   have atj:(64:Int)≤(i:Int):=by omega
   have hM:M=Hy l 64:=by rw [← show i=64 by omega,← hMS,List.take_of_length_le (by omega)]
   have HM2:=hid hM;have agQ:PR<PM:=by have:=HPM.out; omega
   have HA2:=hid (show wr.heap[PM]? = some (.cells (kY M) 247 (0,0)) from hA2);have hRw:=HR.out.below hb2 agQ;have HRW:=hid (show wr.heap[PR]? = some (.cells (kY (zeros 64)) 247 (0,0)) from hRw);have SM:=hid (NP M Eo);have SE:=hid (show (kY (zeros 64)).size=(kY M).size by rw [dw,dw,Eo]; simp [zeros]);have HB2:=hid (And.intro hbel hb2);clear hM hMS Eo hlt ah0 hi64 hb hbel hy hA2 hb2 agQ hRw;go_wp2_with (first
    | (with_reducible refine wpList_load_row (o:=⟨some 79,_,_,_,_,_⟩) rfl 247 _ rfl PM rfl 247 (kY M) (0,0) _ HA2.out Tryz.underlying247 rfl SM.out ?_)
    | (with_reducible refine wpList_store_row (o:=⟨none,.store _ (.tmp 2) _,_,_,_,_⟩) rfl 247 _ _ rfl PR (kY M) rfl rfl 247 (kY (zeros 64)) HRW.out SM.out SE.out (wz M) ?_))
   refine bodyPost_ret (v := .agg (kY M)) (results_cell_row Tryz.results153 _ _ PR 247 (kY M) (0,0) _ rfl (setRow_heap _ PR _ (kY M) _ _ HRW.out) Tryz.underlying247 rfl SM.out) rfl ⟨by rw [HM2.out], ?_⟩;exact (HB2.out.1.trans (HB2.out.2.mono (by have:=Dq.out; have:=HPM.out; omega))).trans ⟨rfl,rfl,rfl,by simp,fun k hk=>setRow_other _ PR k (kY M) (by have:=Dq.out; omega)⟩
end
section
open Go.RowKit
def KS:List (BitVec 32):=[
 0x428a2f98,0x71374491,0xb5c0fbcf,0xe9b5dba5,0x3956c25b,0x59f111f1,0x923f82a4,0xab1c5ed5,
 0xd807aa98,0x12835b01,0x243185be,0x550c7dc3,0x72be5d74,0x80deb1fe,0x9bdc06a7,0xc19bf174,
 0xe49b69c1,0xefbe4786,0x0fc19dc6,0x240ca1cc,0x2de92c6f,0x4a7484aa,0x5cb0a9dc,0x76f988da,
 0x983e5152,0xa831c66d,0xb00327c8,0xbf597fc7,0xc6e00bf3,0xd5a79147,0x06ca6351,0x14292967,
 0x27b70a85,0x2e1b2138,0x4d2c6dfc,0x53380d13,0x650a7354,0x766a0abb,0x81c2c92e,0x92722c85,
 0xa2bfe8a1,0xa81a664b,0xc24b8b70,0xc76c51a3,0xd192e819,0xd6990624,0xf40e3585,0x106aa070,
 0x19a4c116,0x1e376c08,0x2748774c,0x34b0bcb5,0x391c0cb3,0x4ed8aa4a,0x5b9cca4f,0x682e6ff3,
 0x748f82ee,0x78a5636f,0x84c87814,0x8cc70208,0x90befffa,0xa4506ceb,0xbef9a3f7,0xc67178f2]
theorem I8:KS.length=64:=by decide
def KT (w:World):Prop:=2<w.heap.size∧∀ i,i<64→w.cell? ⟨2,i,none⟩=some (.int .u32 (wv (KS.getD i 0)))
theorem KT.below {w w':World}{B:Nat}(h:KT w)(hb:Below B w w')(hB:2<B):KT w':=⟨Nat.lt_of_lt_of_le h.1 hb.size,fun i hi=>(hb.cell (p:=⟨2,i,none⟩) hB).trans (h.2 i hi)⟩
theorem KT.pos {w:World}(h:KT w):2<w.heap.size:=h.1
def Kz (w w':World):Prop:=∀ B,Below B w w'
theorem Kz.row {w w':World}(h:Kz w w')(k:Nat):w'.heap[k]? = w.heap[k]? := (h (k+1)).block k (by omega)
theorem aey:(Tryz.prog.info? 232).map (·.size)=some 8:=by kernel_rfl
theorem yZ (l:List (BitVec 32))(h:l.length=8):(Tryz.prog.info? 232).map (·.size)=some (kY l).size:=by rw [aey,dw,h]
theorem aez:(Tryz.prog.info? 46).map (·.size)=some 1:=by kernel_rfl
theorem aar (l:List (BitVec 32))(hl:l.length=8)(k:Nat)(h:k<8)(w:World):(Instr.index 232 (.agg (kY l)) (.int .i64 (k:Int))).run Tryz.prog w = .ok (.int .u32 (wv (l.getD k 0))) w:=by
 obtain ⟨i0,hi,hs⟩:=Option.map_eq_some_iff.1 aez;exact IZ _ _ _ _ k _ i0 _ Tryz.underlying232 Tryz.underlying46 rfl hi hs h (Rw l k (by omega)) w
def sumP (x y:List (BitVec 32))(i:Nat):List (BitVec 32):=(List.range 8).map fun j=>if j<i then x.getD j 0+y.getD j 0 else x.getD j 0
theorem uS (x y:List (BitVec 32))(i:Nat):(sumP x y i).length=8:=by simp [sumP]
theorem Xf (x y:List (BitVec 32))(h:x.length=8):sumP x y 0=x:=by
 apply List.ext_getElem (by simp [sumP,h]);intro j h1 h2;simp [sumP,h2]
theorem aeA (x y:List (BitVec 32))(i:Nat)(h:i<8):(sumP x y i).getD i 0=x.getD i 0:=by simp [sumP,h]
theorem aas (x y:List (BitVec 32))(i:Nat):(sumP x y i).set i (x.getD i 0+y.getD i 0)=sumP x y (i+1):=by
 apply List.ext_getElem (by simp [sumP]);intro j h1 h2;rw [List.getElem_set];simp only [sumP,List.getElem_map,List.getElem_range];by_cases hj:i=j
 ·subst hj; simp
 rw [if_neg hj];by_cases hl:j<i
 ·rw [if_pos hl,if_pos (by omega)]
 rw [if_neg hl,if_neg (by omega)]
theorem Xg (x y:List (BitVec 32))(hx:x.length=8)(hy:y.length=8):sumP x y 8=List.zipWith (· + ·) y x:=by
 apply List.ext_getElem (by simp [sumP,hx,hy]);intro j h1 h2;simp only [sumP,List.length_map,List.length_range] at h1;simp only [sumP,List.getElem_map,List.getElem_range,List.getElem_zipWith,if_pos h1];rw [BitVec.add_comm];simp [hx,hy,h1]
theorem round_eq (k w a b c d e f g h:BitVec 32):round k w [a,b,c,d,e,f,g,h] =
 [h+Kv e 6 11 25+I5 e f g+k+w+(Kv a 2 13 22+aaj a b c),a,b,c,d+(h+Kv e 6 11 25+I5 e f g+k+w),e,f,g]:=rfl
theorem RF (x:List (BitVec 32))(l:bI)(w:World)(hx:x.length=8)(hl:l.length=64)(hy:gm l)(hK:KT w) :
 Calls Tryz.prog 139 #[.agg (kY x),.agg (bg l)] w fun e w'=>e = .returned (.agg (kY (jV KS x l)))∧Below w.heap.size w w':=by
 have HX:=hid hx
 have HSB:=hid (uQ l hl)
 have Vt:=hid (fun W=>Rz l W hl hy)
 have RG:=hid hK
 clear hx hl hy hK
 go_in
 go_wp2_with (first
  | (with_reducible refine wpList_load_row (o:=⟨some 19,_,_,_,_,_⟩) rfl 196 _ rfl (w.heap.size+1) rfl 196 (bg l) (0,0) _ (oD w _ _ _).2.1 Tryz.underlying196 rfl HSB.out ?_))
 refine (Vt.out _).mono ?_
 rintro e w1 ⟨rfl,hb1⟩
 obtain ⟨r0,r1,r2,rz,rb⟩:=oD w (.cells (kY x) 232) (.cells (bg l) 196) (.cells (kY (zeros 8)) 232)
 have hb1':Below (w.heap.size+3) (((w.alloc (.cells (kY x) 232)).alloc (.cells (bg l) 196)).alloc (.cells (kY (zeros 8)) 232)) w1:=by rw [← rz]; exact hb1
 have HR0:=hid (show jZ w1 w.heap.size 232 x from (hb1'.block _ (by omega)).trans r0)
 have HR2:=hid (show jZ w1 (w.heap.size+1+1) 232 (zeros 8) from (hb1'.block _ (by omega)).trans r2)
 have HB1:=hid (rb.trans (hb1'.mono (by omega)))
 have HZ1:=hid (show w.heap.size+3≤w1.heap.size by rw [← rz]; exact hb1.size)
 clear r0 r1 r2 rz rb hb1' hb1
 have SW:=hid (NP (Hy l 64) (o7 l 64))
 go_wp2_with (first
  | (with_reducible refine wpList_store_row (o:=⟨none,.store _ (.tmp 5) _,_,_,_,_⟩) rfl 247 _ _ rfl w1.heap.size (kY (Hy l 64)) rfl rfl 247 _ (heap_alloc_new w1 _) SW.out ?c1 (wz (Hy l 64)) ?_))
 case c1=>rw [dw,o7]; rfl
 refine Xb fun W2 hW=>?_
 obtain ⟨g1,gz,gb⟩:=hW
 have HW2:=hid (show jZ W2 w1.heap.size 247 (Hy l 64) from g1)
 have hR0:=HR0.out.below gb (by have:=HZ1.out; omega)
 have aoX:=hid hR0
 have aoY:=hid (HR2.out.below gb (by have:=HZ1.out; omega))
 have HB2:=hid (HB1.out.trans (gb.mono (by have:=HZ1.out; omega)))
 have HK2:=hid (RG.out.below HB2.out RG.out.pos)
 have HZ2:=hid gz
 clear g1 gz gb
 obtain ⟨x0,x1,x2,x3,x4,x5,x6,x7,hxe⟩:∃ x0 x1 x2 x3 x4 x5 x6 x7,x=[x0,x1,x2,x3,x4,x5,x6,x7]:=by
  match x,HX.out with
  | [a,b,c,d,e,f,g,h],_=>exact ⟨_,_,_,_,_,_,_,_,rfl⟩
 rw [hxe] at hR0
 have HXE:=hid hxe
 have s0:W2.cell? ⟨w.heap.size,0,none⟩=some (.int .u32 (wv x0)):=cell_of_row W2 _ 0 _ _ _ hR0
 have s1:W2.cell? ⟨w.heap.size,1,none⟩=some (.int .u32 (wv x1)):=cell_of_row W2 _ 1 _ _ _ hR0
 have s2:W2.cell? ⟨w.heap.size,2,none⟩=some (.int .u32 (wv x2)):=cell_of_row W2 _ 2 _ _ _ hR0
 have s3:W2.cell? ⟨w.heap.size,3,none⟩=some (.int .u32 (wv x3)):=cell_of_row W2 _ 3 _ _ _ hR0
 have s4:W2.cell? ⟨w.heap.size,4,none⟩=some (.int .u32 (wv x4)):=cell_of_row W2 _ 4 _ _ _ hR0
 have s5:W2.cell? ⟨w.heap.size,5,none⟩=some (.int .u32 (wv x5)):=cell_of_row W2 _ 5 _ _ _ hR0
 have s6:W2.cell? ⟨w.heap.size,6,none⟩=some (.int .u32 (wv x6)):=cell_of_row W2 _ 6 _ _ _ hR0
 have s7:W2.cell? ⟨w.heap.size,7,none⟩=some (.int .u32 (wv x7)):=cell_of_row W2 _ 7 _ _ _ hR0
 clear hR0 hxe
 generalize hP5:w1.heap.size=P5 at *
 generalize hP2:w.heap.size=P2 at *
 have RH:=hid hP5
 have HP2:=hid hP2
 clear hP5 hP2
 go_quiet (fail)
 go_wp2_with fail
 refine AA fun W3 hW3=>?_
 have NS:=hid (show Kz W2 W3 from fun B=>hW3.2.2 B W2 (Below.refl B W2))
 clear hW3 s0 s1 s2 s3 s4 s5 s6 s7
 go_loopw [37,6,7,8,9,10,11,12,13] (fun v37 v6 v7 v8 v9 v10 v11 v12 v13 wr=>∃ (i:Nat) (a b c d e f g h:BitVec 32),i≤64∧v37 = .int .i64 (i:Nat)∧v6 = .int .u32 (wv a)∧v7 = .int .u32 (wv b)∧v8 = .int .u32 (wv c)∧v9 = .int .u32 (wv d)∧v10 = .int .u32 (wv e)∧v11 = .int .u32 (wv f)∧v12 = .int .u32 (wv g)∧v13 = .int .u32 (wv h)∧Hid (rounds KS (Hy l 64) i x=[a,b,c,d,e,f,g,h])∧Kz W2 wr) (fun v37 _ _ _ _ _ _ _ _ _=>64 - (intOf v37).toNat)
 case atStart=>exact ⟨0,x0,x1,x2,x3,x4,x5,x6,x7,by omega,rfl,rfl,rfl,rfl,rfl,rfl,rfl,rfl,rfl,HXE.out,NS.out⟩
 case round =>
  obtain ⟨i,a,b,c,d,e,f,g,h,hi,rfl,rfl,rfl,rfl,rfl,rfl,rfl,rfl,rfl,HR,hst⟩:=hrel;by_cases hlt:i<64
  ·have hiI:(i:Int)<64:=by omega
   have hi0:(0:Int)≤(i:Int):=by omega
   have ck:wr.cell? ⟨2,i,none⟩=some (.int .u32 (wv (KS.getD i 0))):=((hst (2+1)).cell (p:=⟨2,i,none⟩) (Nat.lt_succ_self _)).trans (HK2.out.2 i hlt);have cw:wr.cell? ⟨P5,i,none⟩=some (.int .u32 (wv ((Hy l 64).getD i 0))):=((hst (P5+1)).cell (p:=⟨P5,i,none⟩) (Nat.lt_succ_self _)).trans (HW2.out.cell (by rw [o7]; exact hlt));have xB:=hid (show rounds KS (Hy l 64) (i+1) x=round (KS.getD i 0) ((Hy l 64).getD i 0) [a,b,c,d,e,f,g,h] by rw [rounds,HR.out]);generalize KS.getD i 0=kj at *;generalize (Hy l 64).getD i 0=wj at *;have HST:=hid hst;have bn:=hid hlt;have hadd:=Ru;have agP:=Ku;clear hst hlt hi;go_wp2_with fail;go_quiet ((first | (go_at_call 154; exact Calls.quiet_of_same (I4 e 6 11 25 _ (by omega) (by omega) (by omega) (by omega) (by omega) (by omega))) | (go_at_call 155; exact Calls.quiet_of_same (Rx _ _ _ _))));go_wp2_with fail;refine (I4 a 2 13 22 _ (by omega) (by omega) (by omega) (by omega) (by omega) (by omega)).mono ?_;rintro e' w5 ⟨rfl,rfl⟩;go_wp2_with fail;refine (aak a b c _).mono ?_;rintro e' w6 ⟨rfl,rfl⟩;go_wp2_with fail;go_roundw
   case rel=>exact ⟨i+1,h+Kv e 6 11 25+I5 e f g+kj+wj+(Kv a 2 13 22+aaj a b c),a,b,c,d+(h+Kv e 6 11 25+I5 e f g+kj+wj),e,f,g,by have:=bn.out; omega,by go_num,rfl,rfl,rfl,rfl,rfl,rfl,rfl,rfl,by rw [← round_eq]; exact xB.out,fun B=>below_drewN (HST.out B) _⟩
   case measure=>simp [intOf]; omega
  have hge:(64:Int)≤(i:Int):=by omega
  have HI:=hid (show i=64 by omega);have HST:=hid hst;have hd:decide ((i:Int)<64)=false:=by simpa using hge
  clear hlt hi hst;go_wp2_with fail;have HIX:=hid (fun (k:Nat) (hk:k<8) (w:World)=>(show (Instr.index 232 (.agg #[.int .u32 (wv a),.int .u32 (wv b),.int .u32 (wv c),.int .u32 (wv d),.int .u32 (wv e),.int .u32 (wv f),.int .u32 (wv g),.int .u32 (wv h)]) (.int .i64 (k:Int))).run Tryz.prog w = .ok (.int .u32 (wv ([a,b,c,d,e,f,g,h].getD k 0))) w from aar [a,b,c,d,e,f,g,h] rfl k hk w));obtain ⟨Y,hY⟩:∃ Y,Y=[a,b,c,d,e,f,g,h]:=⟨_,rfl⟩
  rw [← hY] at HIX;have HY:=hid hY;clear hY hge hd;have HB3:=hid (HST.out P2);have HR3:=hid (show jZ wr P2 232 x from (HST.out.row P2).trans aoX.out);have HR4:=hid (show jZ wr (P2+1+1) 232 (zeros 8) from (HST.out.row _).trans aoY.out);clear HST;go_loopw [86] (fun v86 wx=>∃ k:Nat,k≤8∧v86 = .int .i64 (k:Nat)∧jZ wx P2 232 (sumP x Y k)∧jZ wx (P2+1+1) 232 (zeros 8)∧Below P2 w wx) (fun v _=>8 - (intOf v).toNat)
  case atStart=>exact ⟨0,by omega,rfl,by rw [Xf _ _ HX.out]; exact HR3.out,HR4.out,HB2.out.trans HB3.out⟩
  case round =>
   obtain ⟨k,hk,rfl,hA,hC,hb⟩:=hrel;by_cases hlt:k<8
   ·have hkI:(k:Int)<8:=by omega
    have hk0:(0:Int)≤(k:Int):=by omega
    have hix:=HIX.out k hlt;have ck:=hA.cell (k:=k) (by rw [uS]; exact hlt);rw [aeA _ _ _ hlt] at ck;have fk:=hA.free k;have hset:=aas x Y k;generalize x.getD k 0=p at *;generalize Y.getD k 0=q at *;have aat:=hid hset;have bn:=hid hlt;have HA:=hid hA;have HC:=hid hC;have HB:=hid hb;have hadd:=Ru;have agP:=Ku;clear hset hlt hA hb hk hC;go_wp2_with fail;go_roundw
    case rel=>exact ⟨k+1,by have:=bn.out; omega,by go_num,by have e:=HA.out.set k (p+q); rw [aat.out] at e; exact e,(Below.heap_setCell _ _ _ _ (show P2+1+1 ≠ P2 by omega)).trans HC.out,HB.out.setCell (p:=⟨P2,k,none⟩) (Nat.le_refl _) _⟩
    case measure=>simp [intOf]; omega
   have hge:(8:Int)≤(k:Int):=by omega
   have hfin:sumP x Y k=jV KS x l:=by
    have hYl:Y.length=8:=by rw [HY.out]; rfl
    rw [show k=8 by omega,Xg x Y HX.out hYl];unfold jV;have e:=HR.out;rw [HI.out] at e;rw [e,← HY.out]
   rw [hfin] at hA;have HA:=hid (show wr.heap[P2]? = some (.cells (kY (jV KS x l)) 232 (0,0)) from hA);have HC:=hid (show wr.heap[P2+1+1]? = some (.cells (kY (zeros 8)) 232 (0,0)) from hC);have SN:=hid (yZ (jV KS x l) (by rw [← hfin,uS]));have SE:=hid (show (kY (zeros 8)).size=(kY (jV KS x l)).size by rw [dw,dw,← hfin,uS]; rfl);have HB:=hid hb;clear hlt hA hb hk hC hfin;go_wp2_with (first
    | (with_reducible refine wpList_load_row (o:=⟨some 97,_,_,_,_,_⟩) rfl 232 _ rfl P2 rfl 232 (kY (jV KS x l)) (0,0) _ HA.out Tryz.underlying232 rfl SN.out ?_)
    | (with_reducible refine wpList_store_row (o:=⟨none,.store _ (.tmp 4) _,_,_,_,_⟩) rfl 232 _ _ rfl (P2+1+1) (kY (jV KS x l)) rfl rfl 232 (kY (zeros 8)) HC.out SN.out SE.out (wz _) ?_))
   refine bodyPost_ret (v := .agg (kY (jV KS x l))) (results_cell_row Tryz.results139 _ _ (P2+1+1) 232 (kY (jV KS x l)) (0,0) _ rfl (setRow_heap _ (P2+1+1) _ (kY (jV KS x l)) _ _ HC.out) Tryz.underlying232 rfl SN.out) rfl ⟨rfl, ?_⟩;rw [HP2.out];exact HB.out.trans ⟨rfl,rfl,rfl,by simp,fun k hk=>setRow_other _ _ k _ (by omega)⟩
end
section
open Go.RowKit
def H0:List (BitVec 32):=[0x6a09e667,0xbb67ae85,0x3c6ef372,0xa54ff53a,0x510e527f,0x9b05688c,0x1f83d9ab,0x5be0cd19]
theorem oN:H0.length=8:=by decide
theorem Xh (w:World):Calls Tryz.prog 138 #[] w fun e w'=>e = .returned (.agg (kY H0))∧Below w.heap.size w w':=by
 go_in;go_wp2_with (first
  | (with_reducible refine wpList_store_row (o:=⟨none,.store _ (.tmp 0) _,_,_,_,_⟩) rfl 232 _ _ rfl w.heap.size (kY H0) rfl ?c2 232 _ (heap_alloc_new w _) (yZ H0 oN) ?c1 (wz H0) ?_))
 case c1=>rfl
 case c2=>rfl
 refine bodyPost_ret (v := .agg (kY H0)) (results_cell_row Tryz.results138 _ _ w.heap.size 232 (kY H0) (0,0) _ rfl (setRow_heap _ w.heap.size _ (kY H0) _ _ (heap_alloc_new w _)) Tryz.underlying232 rfl (yZ H0 oN)) rfl ⟨rfl, ?_⟩;exact ((Below.refl w.heap.size w).alloc (Nat.le_refl _) _).trans ⟨rfl,rfl,rfl,by simp,fun k hk=>setRow_other _ _ k _ (by omega)⟩
def fV (x:List (BitVec 32)):bI:=(List.range 32).map fun i=>wv (x.getD (i / 4) 0) / 2 ^ (8 * (3 - i % 4)) % 256
def qj (x:List (BitVec 32))(n:Nat):bI:=(List.range 32).map fun i=>if i<n then wv (x.getD (i / 4) 0) / 2 ^ (8 * (3 - i % 4)) % 256 else 0
theorem ji (x:List (BitVec 32)):(fV x).length=32:=by simp [fV]
theorem KC (x:List (BitVec 32))(n:Nat):(qj x n).length=32:=by simp [qj]
theorem RI (x:List (BitVec 32)):qj x 0=List.replicate 32 0:=by
 rw [List.eq_replicate_iff];refine ⟨by simp [qj],fun b hb=>?_⟩;simp only [qj,List.mem_map] at hb;obtain ⟨j,_,rfl⟩:=hb;simp
theorem RJ (x:List (BitVec 32)):qj x 32=fV x:=by
 apply List.ext_getElem (by simp [qj,fV]);intro j h1 h2;rw [ji] at h2;simp [qj,fV,h2]
theorem Xi (x:List (BitVec 32))(i:Nat):(qj x i).set i (wv (x.getD (i / 4) 0) / 2 ^ (8 * (3 - i % 4)) % 256)=qj x (i+1):=by
 apply List.ext_getElem (by simp [qj]);intro j h1 h2;rw [List.getElem_set];simp only [qj,List.getElem_map,List.getElem_range];by_cases hj:i=j
 ·subst hj; simp
 rw [if_neg hj];by_cases hl:j<i
 ·rw [if_pos hl,if_pos (by omega)]
 rw [if_neg hl,if_neg (by omega)]
theorem RN (x:List (BitVec 32)):gm (fV x):=by
 intro z hz;simp only [fV,List.mem_map] at hz;obtain ⟨i,_,rfl⟩:=hz;omega
theorem aau:(Tryz.prog.info? 49).map (·.size)=some 32:=by kernel_rfl
theorem lh (l:bI)(h:l.length=32):(Tryz.prog.info? 49).map (·.size)=some (bg l).size:=by rw [aau,aT,h]
theorem aav (x:List (BitVec 32))(w:World)(hx:x.length=8) :
 Calls Tryz.prog 141 #[.agg (kY x)] w fun e w'=>e = .returned (.agg (bg (fV x)))∧Below w.heap.size w w':=by
 have HX:=hid hx
 clear hx
 go_in
 go_wp2_with fail
 refine alN fun W0 hW=>?_
 obtain ⟨h0,h1,h2,hsz,hbel⟩:=hW
 have HX0:=hid (show jZ W0 w.heap.size 232 x from h0)
 have HR:=hid (show iU W0 (w.heap.size+1) 49 (List.replicate 32 0) from h1)
 have HM:=hid (show iU W0 (w.heap.size+1+1) 49 (List.replicate 32 0) from h2)
 have HB:=hid hbel
 clear h0 h1 h2 hsz hbel
 generalize hP0:w.heap.size=P0 at *
 have yS:=hid hP0
 clear hP0
 go_loopw [5] (fun v5 wr=>∃ i:Nat,i≤32∧v5 = .int .i64 (i:Nat)∧iU wr (P0+1+1) 49 (qj x i)∧Below (P0+1+1) W0 wr) (fun v _=>32 - (intOf v).toNat)
 case atStart=>exact ⟨0,by omega,rfl,by rw [RI]; exact HM.out,Below.refl _ _⟩
 case round =>
  obtain ⟨i,hi,rfl,hA,hb⟩:=hrel;by_cases hlt:i<32
  ·obtain ⟨j,hj,hj2⟩:∃ j:Nat,(i:Int) / 4=(j:Int)∧i / 4=j:=⟨i / 4,by omega,rfl⟩
   have cj:wr.cell? ⟨P0,j,none⟩=some (.int .u32 (wv (x.getD j 0))):=(hb.cell (p:=⟨P0,j,none⟩) (show P0<P0+1+1 by omega)).trans (HX0.out.cell (by rw [HX.out]; omega));have hset:=Xi x i;rw [hj2] at hset;have ci:=hA.cell (k:=i) (by rw [KC]; exact hlt);have fi:=hA.free i;generalize (qj x i).getD i 0=old at *;generalize x.getD j 0=y at *;have hiI:(i:Int)<32:=by omega
   have hi0:(0:Int)≤(i:Int):=by omega
   have hjI:(j:Int)<8:=by omega
   have hj0:(0:Int)≤(j:Int):=by omega
   have r0:0≤(i:Int) % 4:=by omega
   have r1:(i:Int) % 4≤3:=by omega
   have y0:=Kr y;have aat:=hid hset;have HE:=hid (show (8 * (3 - (i:Int) % 4)).toNat=8 * (3 - i % 4) by omega);have bn:=hid hlt;have HA:=hid hA;have HB2:=hid hb;clear hset hlt hi hA hb hj2;go_wp2_with fail;go_roundw
   case rel=>exact ⟨i+1,by have:=bn.out; omega,by go_num,by rw [← aat.out]; exact HA.out.set i _,HB2.out.setCell (p:=⟨P0+1+1,i,none⟩) (Nat.le_refl _) _⟩
   case measure=>simp [intOf]; omega
  have hge:(32:Int)≤(i:Int):=by omega
  have e:i=32:=by omega
  rw [e,RJ] at hA;have HA:=hid (show wr.heap[P0+1+1]? = some (.cells (bg (fV x)) 49 (0,0)) from hA);have HR1:=hid (show wr.heap[P0+1]? = some (.cells (bg (List.replicate 32 0)) 49 (0,0)) from HR.out.below hb (by omega));have SH:=hid (lh (fV x) (ji x));have SE:=hid (show (bg (List.replicate 32 0)).size=(bg (fV x)).size by rw [aT,aT,ji]; rfl);have HB2:=hid hb;clear hlt hi hA hb e;go_wp2_with (first
   | (with_reducible refine wpList_load_row (o:=⟨some 21,_,_,_,_,_⟩) rfl 49 _ rfl (P0+1+1) rfl 49 (bg (fV x)) (0,0) _ HA.out Tryz.underlying49 rfl SH.out ?_)
   | (with_reducible refine wpList_store_row (o:=⟨none,.store _ (.tmp 2) _,_,_,_,_⟩) rfl 49 _ _ rfl (P0+1) (bg (fV x)) rfl rfl 49 (bg (List.replicate 32 0)) HR1.out SH.out SE.out (gK _) ?_))
  refine bodyPost_ret (v := .agg (bg (fV x))) (results_cell_row Tryz.results141 _ _ (P0+1) 49 (bg (fV x)) (0,0) _ rfl (setRow_heap _ (P0+1) _ (bg (fV x)) _ _ HR1.out) Tryz.underlying49 rfl SH.out) rfl ⟨rfl, ?_⟩;rw [yS.out];exact (HB.out.trans (HB2.out.mono (by omega))).trans ⟨rfl,rfl,rfl,by simp,fun k hk=>setRow_other _ _ k _ (by omega)⟩
end
end Go.Proofs.YtljjcbmkbmloaaaGreatDoor
