import Derived.Test.YtljjcbmkbmloaaaGreatDoorGTu1
import Derived.Lib.TrailingZeros
import Derived.Test.YtljjcbmkbmloaaaGreatDoorGTu8
import Derived.StillTailTactics
import Derived.ShutString
namespace Go.Proofs.YtljjcbmkbmloaaaGreatDoor
set_option maxHeartbeats 1600000
set_option maxRecDepth 100000
set_option linter.unusedVariables false
open Lib (hid)
section
set_option linter.unusedVariables false
open Go.RowKit
def xv (b:BitVec 64):Int:=b.toNat
theorem ah9 (b:BitVec 64):0≤xv b:=by unfold xv; omega
theorem amf (b:BitVec 64):xv b<18446744073709551616:=by unfold xv; have:=b.isLt; omega
theorem Lc:xv 0#64=0:=rfl
theorem amg (a b:BitVec 64):xv a=xv b↔a=b:=by
 unfold xv; constructor
 ·intro h; exact BitVec.eq_of_toNat_eq (by omega)
 intro h; rw [h]
theorem agW (a:BitVec 64):(xv a != 0) = !decide (a=0#64):=by
 by_cases h:a=0#64
 ·subst h; rfl
 have:xv a ≠ 0:=fun e=>h ((amg _ _).1 (e.trans Lc.symm))
 rw [decide_eq_false h,bne_iff_ne.2 this]; rfl
theorem agX (a b:BitVec 64):bits .or .u64 (xv a) (xv b)=xv (a ||| b):=by
 unfold xv;rw [bits_or_u64_nat _ _ a.isLt b.isLt,BitVec.toNat_or]
theorem aia (a b:BitVec 64):bits .and .u64 (xv a) (xv b)=xv (a &&& b):=by
 unfold xv;rw [bits_and_u64_nat _ _ a.isLt b.isLt,BitVec.toNat_and]
theorem XP (a b:BitVec 64):bits .andNot .u64 (xv a) (xv b)=xv (a &&& ~~~b):=by
 unfold xv;rw [u64_andNot_nat _ _ a.isLt b.isLt,BitVec.toNat_and,BitVec.toNat_not]
theorem Dv (n:Nat)(h:n<18446744073709551616):bits .and .i64 (IntKind.i64.wrap (n:Int)) 127=((n % 128:Nat):Int):=by
 have h1:BitVec.ofInt 64 (IntKind.i64.wrap (n:Int))=BitVec.ofNat 64 n:=by
  apply BitVec.eq_of_toNat_eq;rw [BitVec.toNat_ofInt,BitVec.toNat_ofNat,IntKind.wrap_i64];omega
 have h2:BitVec.ofInt 64 127=BitVec.ofNat 64 127:=rfl;show IntKind.i64.wrap ((BitVec.ofInt 64 (IntKind.i64.wrap (n:Int)) &&& BitVec.ofInt 64 127).toNat:Int)=_;rw [h1,h2,BitVec.toNat_and,BitVec.toNat_ofNat,BitVec.toNat_ofNat,Nat.mod_eq_of_lt h,show 127 % 2 ^ 64=2 ^ 7 - 1 from rfl,Nat.and_two_pow_sub_one_eq_mod];rw [IntWalk.i64_in _ (by omega)]
def pq (k:Nat):BitVec 64:=BitVec.twoPow 64 k
theorem EU (k j:Nat):(pq k).getLsbD j=(decide (j<64) && decide (k=j)):=by
 unfold pq;rw [BitVec.getLsbD_twoPow];by_cases h:k=j <;> by_cases h2:j<64 <;> simp_all
theorem aib (k:Nat)(h:k<64):xv (pq k)=2 ^ k:=by
 unfold xv pq;rw [BitVec.toNat_twoPow,Nat.mod_eq_of_lt (Nat.pow_lt_pow_right (by decide) h)];simp
def Ot (F:Nat→Bool)(i:Nat):Nat→Nat
 | 0=>0
 | k+1=>Ot F i k ||| (if F (64 * i+k) then 2 ^ k else 0)
theorem Jg (F:Nat→Bool)(i j:Nat):∀ k,(Ot F i k).testBit j=(decide (j<k) && F (64 * i+j))
 | 0=>by simp [Ot]
 | k+1=>by
   rw [Ot,Nat.testBit_or,Jg F i j k];by_cases h:F (64 * i+k)=true
   ·rw [if_pos h,Nat.testBit_two_pow]
    by_cases e:k=j
    ·subst e; simp [h]
    have:decide (j<k+1)=decide (j<k):=by congr 1; apply propext; omega
    rw [this]; simp [e]
   rw [if_neg h,Nat.zero_testBit];by_cases e:k=j
   ·subst e; simp at h; simp [h]
   have:decide (j<k+1)=decide (j<k):=by congr 1; apply propext; omega
   rw [this]; simp
def bU (F:Nat→Bool)(i:Nat):BitVec 64:=BitVec.ofNat 64 (Ot F i 64)
theorem gY (F:Nat→Bool)(i j:Nat):(bU F i).getLsbD j=(decide (j<64) && F (64 * i+j)):=by
 unfold bU;rw [BitVec.getLsbD_ofNat,Jg];cases h:decide (j<64) <;> simp
def eG (F:Nat→Bool)(a:Nat)(b:Bool):Nat→Bool:=fun x=>if x=a then b else F x
theorem XQ (F:Nat→Bool)(a:Nat)(b:Bool):eG F a b a=b:=by simp [eG]
theorem EX (F:Nat→Bool)(a x:Nat)(b:Bool)(h:x ≠ a):eG F a b x=F x:=by simp [eG,h]
theorem Jh (F:Nat→Bool)(a:Nat):bU F (a / 64) ||| pq (a % 64)=bU (eG F a true) (a / 64):=by
 apply BitVec.eq_of_getLsbD_eq;intro j hj;rw [BitVec.getLsbD_or,gY,gY,EU];unfold eG;by_cases e:a % 64=j
 ·have:64 * (a / 64)+j=a:=by omega
  simp [this,e,hj]
 have:64 * (a / 64)+j ≠ a:=by omega
 simp [this,e,hj]
theorem Tq (F:Nat→Bool)(a:Nat):bU F (a / 64) &&& ~~~(pq (a % 64))=bU (eG F a false) (a / 64):=by
 apply BitVec.eq_of_getLsbD_eq;intro j hj;rw [BitVec.getLsbD_and,BitVec.getLsbD_not,gY,gY,EU];unfold eG;by_cases e:a % 64=j
 ·have:64 * (a / 64)+j=a:=by omega
  simp [this,e,hj]
 have:64 * (a / 64)+j ≠ a:=by omega
 simp [this,e,hj]
theorem Ou (F:Nat→Bool)(a i:Nat)(b:Bool)(h:i ≠ a / 64):bU (eG F a b) i=bU F i:=by
 apply BitVec.eq_of_getLsbD_eq;intro j hj;rw [gY,gY];have:64 * i+j ≠ a:=by omega
 rw [EX _ _ _ _ this]
theorem XR (F:Nat→Bool)(a:Nat):decide (bU F (a / 64) &&& pq (a % 64)=0#64) = !F a:=by
 have hb:∀ j,j<64→(bU F (a / 64) &&& pq (a % 64)).getLsbD j=(F (64 * (a / 64)+j) && decide (a % 64=j)):=fun j hj=>by
  rw [BitVec.getLsbD_and,gY,EU]; simp [hj]
 have ha:64 * (a / 64)+a % 64=a:=by omega
 by_cases h:F a=true
 ·have:¬ (bU F (a / 64) &&& pq (a % 64)=0#64):=fun e=>by
   have:=hb (a % 64) (by omega);rw [e,ha,h] at this;simp at this
  rw [decide_eq_false this,h]; rfl
 have:bU F (a / 64) &&& pq (a % 64)=0#64:=by
  apply BitVec.eq_of_getLsbD_eq;intro j hj;rw [hb j hj];by_cases e:a % 64=j
  ·rw [← e,ha]; simp at h; simp [h]
  simp [e]
 simp at h;rw [decide_eq_true this,h]; rfl
theorem oI (F:Nat→Bool)(i:Nat):bU F i=0#64↔∀ j,j<64→F (64 * i+j)=false:=by
 constructor
 ·intro h j hj
  have:=gY F i j;rw [h] at this;simpa [hj] using this.symm
 intro h;apply BitVec.eq_of_getLsbD_eq;intro j hj;rw [gY,h j hj]; simp
def bQ (F:Nat→Bool):List Value:=(List.range 64).map fun i => .int .u64 (xv (bU F i))
theorem aZ (F:Nat→Bool):(bQ F).length=64:=by simp [bQ]
theorem mD (F:Nat→Bool)(i:Nat)(h:i<64):(bQ F)[i]? = some (.int .u64 (xv (bU F i))):=by simp [bQ,h]
theorem EY (F:Nat→Bool)(a:Nat)(b:Bool)(ha:a<4096):(bQ F).set (a / 64) (.int .u64 (xv (bU (eG F a b) (a / 64))))=bQ (eG F a b):=by
 apply List.ext_getElem?;intro i;rw [List.getElem?_set,aZ];by_cases e:a / 64=i
 ·subst e
  rw [if_pos rfl,if_pos (by omega),mD _ _ (by omega)]
 rw [if_neg e];by_cases hi:i<64
 ·rw [mD _ _ hi,mD _ _ hi,Ou _ _ _ _ (Ne.symm e)]
 rw [List.getElem?_eq_none (by rw [aZ]; omega),List.getElem?_eq_none (by rw [aZ]; omega)]
theorem yf (F:Nat→Bool):∀ v ∈ bQ F,v.oneCell'=true:=by
 intro v hv;simp only [bQ,List.mem_map] at hv;obtain ⟨i,_,rfl⟩:=hv;rfl
theorem Tt (i:Nat):bU (fun _=>false) i=0#64:=(oI _ _).2 fun _ _=>rfl
theorem BV:bQ (fun _=>false)=List.replicate 64 (.int .u64 0):=by
 apply List.ext_getElem?;intro i;by_cases hi:i<64
 ·rw [mD _ _ hi,Tt,List.getElem?_replicate,if_pos hi]; rfl
 rw [List.getElem?_eq_none (by rw [aZ]; omega),List.getElem?_eq_none (by simp; omega)]
theorem aeP (x:BitVec 64)(h:x ≠ 0#64):∃ k,k<64∧Lib.ctz 64 x.toNat=k∧x.getLsbD k=true∧∀ j,j<k→x.getLsbD j=false:=by
 have h0:x.toNat ≠ 0:=fun e=>h (BitVec.eq_of_toNat_eq (by simpa using e))
 obtain ⟨m,hm,hk⟩:=Lib.ctzFrom_spec 64 x.toNat (by omega) x.isLt;have e:Lib.ctz 64 x.toNat=Lib.ctzFrom 64 x.toNat:=by simp [Lib.ctz,h0]
 generalize Lib.ctzFrom 64 x.toNat=k at *;refine ⟨k,hk,e, ?_,fun j hj=>?_⟩
 ·rw [← BitVec.testBit_toNat,hm,Nat.mul_comm,Nat.testBit_mul_two_pow]
  simp
 rw [← BitVec.testBit_toNat,hm,Nat.mul_comm,Nat.testBit_mul_two_pow];simp; omega
theorem aaY (F:Nat→Bool)(i:Nat)(h:bU F i ≠ 0#64):∃ k,k<64∧Lib.ctz 64 (bU F i).toNat=k∧F (64 * i+k)=true∧∀ j,j<k→F (64 * i+j)=false:=by
 obtain ⟨k,hk,e,h1,h2⟩:=aeP _ h;rw [gY] at h1;refine ⟨k,hk,e,by simpa [hk] using h1,fun j hj=>?_⟩;have:=h2 j hj;rw [gY] at this;simpa [show j<64 by omega] using this
def cnt (F:Nat→Bool):Nat→Nat
 | 0=>0
 | k+1=>cnt F k+(if F k then 1 else 0)
theorem cnt_le (F:Nat→Bool):∀ k,cnt F k≤k
 | 0=>Nat.le_refl _
 | k+1=>by have:=cnt_le F k; rw [cnt]; split <;> omega
theorem DU (F:Nat→Bool)(a:Nat):∀ b,cnt F (a+b)=cnt F a+cnt (fun j=>F (a+j)) b
 | 0=>rfl
 | b+1=>by rw [← Nat.add_assoc,cnt,cnt,DU F a b]; omega
theorem wH {F G:Nat→Bool}:∀ (k:Nat),(∀ j,j<k→F j=G j)→cnt F k=cnt G k
 | 0,_=>rfl
 | k+1,h=>by rw [cnt,cnt,wH k (fun j hj=>h j (by omega)),h k (by omega)]
theorem VI (F:Nat→Bool)(a:Nat)(b:Bool):∀ k,cnt (eG F a b) k+(if a<k∧F a=true then 1 else 0)=cnt F k+(if a<k∧b=true then 1 else 0)
 | 0=>by simp [cnt]
 | k+1=>by
   have ih:=VI F a b k;rw [cnt,cnt];by_cases e:k=a
   ·subst e
    rw [XQ];simp at ih;simp [ih];omega
   rw [EX _ _ _ _ e];have:(a<k+1)=(a<k):=by apply propext; omega
   simp only [this]; omega
theorem E5 (F:Nat→Bool):∀ k,(∀ j,j<k→F j=false)→cnt F k=0
 | 0,_=>rfl
 | k+1,h=>by rw [cnt,E5 F k (fun j hj=>h j (by omega)),h k (by omega)]; rfl
def iW:List Nat→Nat
 | []=>0
 | b::r=>b+256 * iW r
def ve (m:Nat):Nat→Nat
 | 0=>0
 | k+1=>m+256 * ve m k
theorem and_split (a c m M:Nat)(ha:a<256)(hm:m<256):(a+256 * c) &&& (m+256 * M)=(a &&& m)+256 * (c &&& M):=by
 have h1:((a+256 * c) &&& (m+256 * M)) % 2 ^ 8=a &&& m:=by
  rw [Nat.and_mod_two_pow,show (a+256 * c) % 2 ^ 8=a by omega,show (m+256 * M) % 2 ^ 8=m by omega]
 have h2:((a+256 * c) &&& (m+256 * M)) / 2 ^ 8=c &&& M:=by
  rw [Nat.and_div_two_pow,show (a+256 * c) / 2 ^ 8=c by omega,show (m+256 * M) / 2 ^ 8=M by omega]
 omega
def y1 (b:Nat):Nat:=((b / 2) &&& 85)+(b &&& 85)
def y2 (b:Nat):Nat:=((y1 b / 4) &&& 51)+(y1 b &&& 51)
def y3 (b:Nat):Nat:=(y2 b / 16+y2 b) &&& 15
theorem aaZ:∀ b,b<256→∀ t,t<2→((b / 2+128 * t) &&& 85)+(b &&& 85)=y1 b∧y1 b<256∧((b / 2+128 * t) &&& 85)=(b / 2) &&& 85:=by decide +kernel
theorem aa0:∀ b,b<256→∀ t,t<4→((y1 b / 4+64 * t) &&& 51)=(y1 b / 4) &&& 51∧y2 b<256∧y2 b % 16≤4∧y2 b / 16≤4:=by decide +kernel
theorem agY:∀ b,b<256→∀ t,t<5→y2 b / 16+16 * t+y2 b<256∧(y2 b / 16+16 * t+y2 b) &&& 15=y3 b∧y3 b≤8:=by decide +kernel
def Ld (l:List Nat):Prop:=∀ b ∈ l,b<256
theorem st1:∀ l:List Nat,Ld l→((iW l / 2) &&& ve 85 l.length)+(iW l &&& ve 85 l.length)=iW (l.map y1)
 | [],_=>by simp [iW]
 | b::r,h=>by
   have hb:=h b (by simp);have ih:=st1 r (fun x hx=>h x (by simp [hx]));obtain ⟨q1,q2,q3⟩:=aaZ b hb (iW r % 2) (by omega);have e1:(iW (b::r) / 2) &&& ve 85 (b::r).length=((b / 2) &&& 85)+256 * ((iW r / 2) &&& ve 85 r.length):=by
    rw [iW,List.length_cons,ve,show (b+256 * iW r) / 2=(b / 2+128 * (iW r % 2))+256 * (iW r / 2) by omega,and_split _ _ _ _ (by omega) (by decide),q3]
   have e2:iW (b::r) &&& ve 85 (b::r).length=(b &&& 85)+256 * (iW r &&& ve 85 r.length):=by
    rw [iW,List.length_cons,ve,and_split _ _ _ _ hb (by decide)]
   rw [e1,e2,List.map_cons,iW,← ih];unfold y1;omega
theorem st2:∀ l:List Nat,Ld l→((iW (l.map y1) / 4) &&& ve 51 l.length)+(iW (l.map y1) &&& ve 51 l.length)=iW (l.map y2)
 | [],_=>by simp [iW]
 | b::r,h=>by
   have hb:=h b (by simp);have ih:=st2 r (fun x hx=>h x (by simp [hx]));have hy:=(aaZ b hb 0 (by decide)).2.1;rw [List.map_cons,iW,List.length_cons,ve,List.map_cons,iW,← ih];generalize iW (r.map y1)=c;obtain ⟨q3,q4,_⟩:=aa0 b hb (c % 4) (by omega);rw [show (y1 b+256 * c) / 4=(y1 b / 4+64 * (c % 4))+256 * (c / 4) by omega,and_split _ _ _ _ (by omega) (by decide),and_split _ _ _ _ hy (by decide),q3];show _=((y1 b / 4) &&& 51)+(y1 b &&& 51)+_;omega
theorem RZ:∀ l:List Nat,Ld l→((iW (l.map y2) / 16+iW (l.map y2)) &&& ve 15 l.length)=iW (l.map y3)∧iW (l.map y2) % 16≤4
 | [],_=>by simp [iW]
 | b::r,h=>by
   have hb:=h b (by simp);obtain ⟨ih,i2⟩:=RZ r (fun x hx=>h x (by simp [hx]));rw [List.map_cons,iW,List.length_cons,ve,List.map_cons,iW,← ih];generalize iW (r.map y2)=c at *;obtain ⟨_,q4,q5,_⟩:=aa0 b hb 0 (by decide);obtain ⟨r1,r2,_⟩:=agY b hb (c % 16) (by omega);refine ⟨?_,by omega⟩;rw [show (y2 b+256 * c) / 16+(y2 b+256 * c)=(y2 b / 16+16 * (c % 16)+y2 b)+256 * (c / 16+c) by omega,and_split _ _ _ _ r1 (by decide),r2]
theorem Le {x low q m:Nat}(h:x=low+m * q)(hl:low<m):x / m=q:=by
 rw [h,Nat.add_mul_div_left _ _ (by omega),Nat.div_eq_of_lt hl,Nat.zero_add]
theorem VJ (m:Nat):∀ l:List Nat,(∀ b ∈ l,b≤m)→255 * iW l+m≤m * 256 ^ l.length
 | [],_=>by simp [iW]
 | b::r,h=>by
   have hb:=h b (by simp);have ih:=VJ m r (fun x hx=>h x (by simp [hx]));rw [iW,List.length_cons,Nat.pow_succ,← Nat.mul_assoc];generalize m * 256 ^ r.length=z at *;omega
theorem amh (p0 p1 p2 p3 v1 v2 v3 v4 v5 v6 p4 p5 p6 p7:Nat)(e1:p1+256 * v2=v1)(e2:p2+256 * v3=v2)(e3:p3+256 * v4=v3)(e4:p4+256 * v5=v4)(e5:p5+256 * v6=v5)(e6:p6+256 * p7=v6) :
 (p0+256 * v1+v1)=((p0+p1)+256 * (p1+p2))+65536 * (v2+v3)∧(p0+256 * v1+v1+(v2+v3))=((p0+p1+p2+p3)+256 * (p1+p2+p3+p4)+65536 * (p2+p3+p4+p5)+16777216 * (p3+p4+p5+p6))+4294967296 * (v4+v5+(v6+p7)) ∧
 p0+256 * v1+v1+(v2+v3)+(v4+v5+(v6+p7))=(p0+p1+p2+p3+p4+p5+p6+p7)+256 * (v1+v2+v3+v4+v5+v6+p7):=by
 subst e6 e5 e4 e3 e2 e1
 refine ⟨by omega,by omega,by omega⟩
theorem ami {p0 p1 p2:Nat}(h0:p0≤8)(h1:p1≤8)(h2:p2≤8):(p0+p1)+256 * (p1+p2)<65536:=by omega
theorem amj {a b c d:Nat}(h0:a≤32)(h1:b≤32)(h2:c≤32)(h3:d≤32):a+256 * b+65536 * c+16777216 * d<4294967296:=by omega
theorem VK {a b c d:Nat}(h0:a≤8)(h1:b≤8)(h2:c≤8)(h3:d≤8):a+b+c+d≤32:=by omega
theorem amk {S R:Nat}(h:S≤64):(S+256 * R) % 128=S:=by omega
theorem aml {v a b c:Nat}(hv:v≤578721382704613384)(ha:a=v+v / 256)(hb:b=a+a / 65536)(hc:c=b+b / 4294967296):v<18446744073709551616∧a<18446744073709551616∧b<18446744073709551616∧c<18446744073709551616:=by omega
theorem st4 (p0 p1 p2 p3 p4 p5 p6 p7 v a b c:Nat)(h0:p0≤8)(h1:p1≤8)(h2:p2≤8)(h3:p3≤8)(h4:p4≤8)(h5:p5≤8)(h6:p6≤8)(h7:p7≤8)
 (hv:v=iW [p0,p1,p2,p3,p4,p5,p6,p7]) (ha:a=v+v / 256) (hb:b=a+a / 65536) (hc:c=b+b / 4294967296) :
 c % 128=p0+p1+p2+p3+p4+p5+p6+p7:=by
 simp only [iW,Nat.mul_zero,Nat.add_zero] at hv
 obtain ⟨v6,e6⟩:∃ v6,p6+256 * p7=v6:=⟨_,rfl⟩
 obtain ⟨v5,e5⟩:∃ v5,p5+256 * v6=v5:=⟨_,rfl⟩
 obtain ⟨v4,e4⟩:∃ v4,p4+256 * v5=v4:=⟨_,rfl⟩
 obtain ⟨v3,e3⟩:∃ v3,p3+256 * v4=v3:=⟨_,rfl⟩
 obtain ⟨v2,e2⟩:∃ v2,p2+256 * v3=v2:=⟨_,rfl⟩
 obtain ⟨v1,e1⟩:∃ v1,p1+256 * v2=v1:=⟨_,rfl⟩
 rw [e6,e5,e4,e3,e2,e1] at hv
 obtain ⟨q1,q2,q3⟩:=amh p0 p1 p2 p3 v1 v2 v3 v4 v5 v6 p4 p5 p6 p7 e1 e2 e3 e4 e5 e6
 have f1:v / 256=v1:=Le hv (Nat.lt_of_le_of_lt h0 (by decide))
 rw [f1,hv] at ha
 have f2:a / 65536=v2+v3:=Le (ha.trans q1) (ami h0 h1 h2)
 rw [f2,ha] at hb
 have f3:b / 4294967296=v4+v5+(v6+p7):=Le (hb.trans q2) (amj (VK h0 h1 h2 h3) (VK h1 h2 h3 h4) (VK h2 h3 h4 h5) (VK h3 h4 h5 h6))
 rw [f3,hb,q3] at hc
 rw [hc]
 exact amk (by clear f1 f2 f3 q1 q2 q3 ha hb hc hv e1 e2 e3 e4 e5 e6; omega)
theorem aa1:∀ b,b<256→y3 b=cnt (fun j=>b.testBit j) 8:=by decide +kernel
def Ir (x:Nat):List Nat:=[x % 256,x / 256 % 256,x / 65536 % 256,x / 16777216 % 256,x / 4294967296 % 256,x / 1099511627776 % 256,x / 281474976710656 % 256,x / 72057594037927936 % 256]
theorem aa2 (x:Nat)(h:x<18446744073709551616):iW (Ir x)=x:=by
 simp only [Ir,iW]; omega
theorem aa3 (x k:Nat):cnt (fun j=>x.testBit (8 * k+j)) 8=y3 (x / 2 ^ (8 * k) % 256):=by
 rw [aa1 _ (Nat.mod_lt _ (by decide))];apply wH;intro j hj;rw [show (256:Nat)=2 ^ 8 from rfl,Nat.testBit_mod_two_pow,Nat.testBit_div_two_pow,Nat.add_comm];simp [hj]
theorem aic (x:Nat):cnt (fun j=>x.testBit j) 64=y3 (x % 256)+y3 (x / 256 % 256)+y3 (x / 65536 % 256)+y3 (x / 16777216 % 256)+y3 (x / 4294967296 % 256)+y3 (x / 1099511627776 % 256)+y3 (x / 281474976710656 % 256)+y3 (x / 72057594037927936 % 256):=by
 have e:∀ k,cnt (fun j=>x.testBit j) (8 * (k+1))=cnt (fun j=>x.testBit j) (8 * k)+y3 (x / 2 ^ (8 * k) % 256):=fun k=>by
  rw [show 8 * (k+1)=8 * k+8 by omega,DU,aa3]
 have e0:=e 0; have e1:=e 1; have e2:=e 2; have e3:=e 3; have e4:=e 4; have e5:=e 5; have e6:=e 6; have e7:=e 7;simp only [Nat.reduceAdd,Nat.reduceMul,Nat.reducePow,Nat.div_one] at e0 e1 e2 e3 e4 e5 e6 e7;rw [e7,e6,e5,e4,e3,e2,e1,e0];simp [cnt]
theorem Tu (x s1 s2 s3 s4 s5 s6:Nat)(hx:x<18446744073709551616)
 (h1:s1=(x / 2 &&& 6148914691236517205)+(x &&& 6148914691236517205)) (h2:s2=(s1 / 4 &&& 3689348814741910323)+(s1 &&& 3689348814741910323)) (h3:s3=(s2 / 16+s2) &&& 1085102592571150095)
 (h4:s4=s3+s3 / 256) (h5:s5=s4+s4 / 65536) (h6:s6=s5+s5 / 4294967296) :
 s1<18446744073709551616∧s2<18446744073709551616∧s2 / 16+s2<18446744073709551616∧s3<18446744073709551616∧s4<18446744073709551616∧s5<18446744073709551616∧s6<18446744073709551616∧s6 % 128=cnt (fun j=>x.testBit j) 64:=by
 have hs:Ld (Ir x):=by
  intro b hb;simp only [Ir,List.mem_cons,List.not_mem_nil,or_false] at hb;omega
 have t1:=st1 _ hs
 have t2:=st2 _ hs
 have t3:=(RZ _ hs).1
 rw [aa2 x hx] at t1
 rw [show (Ir x).length=8 from rfl,show ve 85 8=6148914691236517205 from rfl] at t1
 rw [show (Ir x).length=8 from rfl,show ve 51 8=3689348814741910323 from rfl] at t2
 rw [show (Ir x).length=8 from rfl,show ve 15 8=1085102592571150095 from rfl] at t3
 rw [t1] at h1
 rw [← h1] at t2
 rw [t2] at h2
 rw [← h2] at t3
 rw [t3] at h3
 have hy:∀ k,k<256→y3 k≤8:=fun k hk=>(agY k hk 0 (by decide)).2.2
 have hb1:∀ k,k<256→y1 k≤255:=fun k hk=>by have:=(aaZ k hk 0 (by decide)).2.1; omega
 have hb2:∀ k,k<256→y2 k≤68:=fun k hk=>by obtain ⟨_,_,h1,h2⟩:=aa0 k hk 0 (by decide); omega
 have m:∀ z,z % 256<256:=fun z=>Nat.mod_lt _ (by decide)
 have hall:∀ (f:Nat→Nat) (u:Nat),(∀ k,k<256→f k≤u)→255 * iW ((Ir x).map f)+u≤u * 256 ^ 8:=fun f u hf=>by
  have:=VJ u ((Ir x).map f) (fun b hb=>by
   obtain ⟨z,hz,rfl⟩:=List.mem_map.1 hb;exact hf z (hs z hz))
  rwa [show ((Ir x).map f).length=8 from rfl] at this
 have n1:=hall y1 255 hb1
 have n2:=hall y2 68 hb2
 have n3:=hall y3 8 hy
 rw [← h1] at n1
 rw [← h2] at n2
 rw [← h3] at n3
 have hc:=aic x
 have q5:=st4 _ _ _ _ _ _ _ _ s3 s4 s5 s6 (hy _ (m x)) (hy _ (m (x / 256))) (hy _ (m (x / 65536))) (hy _ (m (x / 16777216))) (hy _ (m (x / 4294967296))) (hy _ (m (x / 1099511627776))) (hy _ (m (x / 281474976710656))) (hy _ (m (x / 72057594037927936))) h3 h4 h5 h6
 have q:=aml (v:=s3) (by clear n1 n2 q5 hc h4 h5 h6 h3 h2 h1 hx; omega) h4 h5 h6
 rw [← hc] at q5
 exact ⟨by clear n2 n3 q q5 hc h4 h5 h6 h3 h2 h1 hx; omega,by clear n1 n3 q q5 hc h4 h5 h6 h3 h2 h1 hx; omega,by clear n1 n3 q q5 hc h4 h5 h6 h3 h2 h1 hx; omega,q.1,q.2.1,q.2.2.1,q.2.2.2,q5⟩
theorem aa4 (x:BitVec 64):cnt (fun j=>x.toNat.testBit j) 64=cnt (fun j=>x.getLsbD j) 64:=wH 64 fun j _=>by rw [BitVec.testBit_toNat]
theorem aa5 (F:Nat→Bool)(i:Nat):cnt F (64 * (i+1))=cnt F (64 * i)+cnt (fun j=>(bU F i).getLsbD j) 64:=by
 rw [show 64 * (i+1)=64 * i+64 by omega,DU];congr 1;apply wH;intro j hj;rw [gY]; simp [hj]
end
section
set_option linter.unusedVariables false
open Go.RowKit
def TZ (w:World):Prop:=∀ j,j<64→w.cell? ⟨1,j,none⟩=some (.int .u8 (Lib.deBruijn64tab.getD j 0:Nat))
theorem TZ.lt {w:World}(h:TZ w):1<w.heap.size:=block_lt_of_cell (h 0 (by decide))
theorem TZ.below {w w':World}(h:TZ w)(b:Below w.heap.size w w'):TZ w':=fun j hj=>(b.cell h.lt).trans (h j hj)
theorem aeQ (w:World):Calls Tryz.prog 134 #[.int .u64 0] w fun e w'=>e = .returned (.int .i64 64)∧w'=w:=by
 go_in;go_wp2
 go_ret;exact ⟨rfl,rfl⟩
theorem aeR (x k idx:Nat)(w:World)(hx0:((x:Int) == 0)=false)
 (key:IntKind.u64.wrap (bits BinOp.and IntKind.u64 (x:Int) (IntKind.u64.wrap (-(x:Int))) * 285870213051353865) / 288230376151711744=(idx:Int))
 (hi:idx<64) (hk:k<64) (hcell:w.cell? ⟨1,idx,none⟩=some (.int .u8 k)) :
 Calls Tryz.prog 134 #[.int .u64 x] w fun e w'=>e = .returned (.int .i64 k)∧w'=w:=by
 go_in
 go_wp2_with (simp only [key])
 go_ret
 exact ⟨rfl,rfl⟩
theorem aid (x a:Nat)(hx:x<18446744073709551616)(hx0:x ≠ 0)(hlow:x &&& (18446744073709551616 - x)=a) :
 IntKind.u64.wrap (bits BinOp.and IntKind.u64 (x:Int) (IntKind.u64.wrap (-(x:Int))) * 285870213051353865) / 288230376151711744=((a * 285870213051353865 % 18446744073709551616 / 288230376151711744:Nat):Int):=by
 have e1:IntKind.u64.wrap (-(x:Int))=((18446744073709551616 - x:Nat):Int):=by rw [IntKind.wrap_u64]; omega
 rw [e1,bits_and_u64_nat x _ hx (by omega),hlow,IntKind.wrap_u64]
 omega
theorem aie (x:BitVec 64)(w:World)(hT:TZ w):Calls Tryz.prog 134 #[.int .u64 (xv x)] w fun e w'=>e = .returned (.int .i64 (Lib.ctz 64 x.toNat:Nat))∧w'=w:=by
 unfold xv;have hx:=x.isLt;generalize x.toNat=n at *;by_cases h0:n=0
 ·subst h0; exact aeQ w
 obtain ⟨hlow,hk⟩:=Lib.lowest_bit 64 n h0 hx;obtain ⟨hi,htab⟩:=Lib.deBruijn64_at _ hk;have hcell:=hT _ hi;rw [htab] at hcell;exact aeR n _ _ w (by simp; omega) (aid n _ hx h0 hlow) hi hk hcell
theorem aa6 (x:BitVec 64)(w:World):Calls Tryz.prog 68 #[.int .u64 (xv x)] w fun e w'=>e = .returned (.int .i64 (cnt (fun j=>x.getLsbD j) 64:Nat))∧w'=w:=by
 rw [← aa4];have hx:=x.isLt;unfold xv;generalize x.toNat=n at *;obtain ⟨b1,b2,b3,b4,b5,b6,b7,hc⟩:=Tu n _ _ _ _ _ _ hx rfl rfl rfl rfl rfl rfl;generalize cnt (fun j=>n.testBit j) 64=c at *;have a1:bits .and .u64 ((n:Int) / 2) 6148914691236517205=((n / 2 &&& 6148914691236517205:Nat):Int):=bits_and_u64_nat (n / 2) 6148914691236517205 (by omega) (by omega);have a2:bits .and .u64 (n:Int) 6148914691236517205=((n &&& 6148914691236517205:Nat):Int):=bits_and_u64_nat n 6148914691236517205 (by omega) (by omega);generalize n / 2 &&& 6148914691236517205=u1 at *;generalize n &&& 6148914691236517205=u2 at *;have a3:IntKind.u64.wrap ((u1:Int)+(u2:Int))=((u1+u2:Nat):Int):=jw _ b1;generalize u1+u2=s1 at *;have a4:bits .and .u64 ((s1:Int) / 4) 3689348814741910323=((s1 / 4 &&& 3689348814741910323:Nat):Int):=bits_and_u64_nat (s1 / 4) 3689348814741910323 (by omega) (by omega);have a5:bits .and .u64 (s1:Int) 3689348814741910323=((s1 &&& 3689348814741910323:Nat):Int):=bits_and_u64_nat s1 3689348814741910323 (by omega) (by omega);generalize s1 / 4 &&& 3689348814741910323=u3 at *;generalize s1 &&& 3689348814741910323=u4 at *;have a6:IntKind.u64.wrap ((u3:Int)+(u4:Int))=((u3+u4:Nat):Int):=jw _ b2;generalize u3+u4=s2 at *;have a7:IntKind.u64.wrap ((s2:Int) / 16+(s2:Int))=((s2 / 16+s2:Nat):Int):=jw _ b3;generalize s2 / 16+s2=u5 at *;have a8:bits .and .u64 (u5:Int) 1085102592571150095=((u5 &&& 1085102592571150095:Nat):Int):=bits_and_u64_nat u5 1085102592571150095 (by omega) (by omega);generalize u5 &&& 1085102592571150095=s3 at *;have a9:IntKind.u64.wrap ((s3:Int)+(s3:Int) / 256)=((s3+s3 / 256:Nat):Int):=jw _ b5;generalize s3+s3 / 256=s4 at *;have a10:IntKind.u64.wrap ((s4:Int)+(s4:Int) / 65536)=((s4+s4 / 65536:Nat):Int):=jw _ b6;generalize s4+s4 / 65536=s5 at *;have a11:IntKind.u64.wrap ((s5:Int)+(s5:Int) / 4294967296)=((s5+s5 / 4294967296:Nat):Int):=jw _ b7;generalize s5+s5 / 4294967296=s6 at *;have a12:bits .and .i64 (wrap64 (s6:Int)) 127=(c:Int):=by
  rw [show wrap64 (s6:Int)=IntKind.i64.wrap (s6:Int) from (by rw [IntKind.wrap_i64,wrap64]),Dv s6 b7,hc]
 clear b1 b2 b3 b4 b5 b6 b7 hc hx;go_in;go_wp2
 go_ret;exact ⟨rfl,rfl⟩
def SA (w:World)(b t:Nat)(pre:List Value)(F:Nat→Bool):Prop:=w.heap[b]? = some (.cells (pre++bQ F).toArray t (0,0))
theorem SA.cell {w:World}{b t o:Nat}{pre:List Value}{F:Nat→Bool}(h:SA w b t pre F)(ho:pre.length=o)(i:Nat)(hi:i<64):w.cell? ⟨b,o+i,none⟩=some (.int .u64 (xv (bU F i))):=by
 subst ho;rw [cell_of_row w b _ _ _ _ h,List.getElem?_toArray,List.getElem?_append_right (by omega),Nat.add_sub_cancel_left,mD _ _ hi]
theorem SA.free {w:World}{b t:Nat}{pre:List Value}{F:Nat→Bool}(h:SA w b t pre F)(k:Nat):w.frozen? ⟨b,k,none⟩=false:=frozen_of_row w b k _ _ h
theorem SA.set {w:World}{b t o:Nat}{pre:List Value}{F:Nat→Bool}(h:SA w b t pre F)(ho:pre.length=o)(a:Nat)(v:Bool)(ha:a<4096):SA (w.setCell ⟨b,o+a / 64,none⟩ (.int .u64 (xv (bU (eG F a v) (a / 64))))) b t pre (eG F a v):=by
 subst ho;unfold SA;rw [heap_setCell_same w b _ _ _ _ h];congr 2;rw [List.setIfInBounds_toArray,List.set_append_right _ _ (by omega),Nat.add_sub_cancel_left,EY _ _ _ ha]
theorem DV (a:Nat)(w:World)(ha:a<4294967296):Calls Tryz.prog 89 #[.int .u32 (a:Int)] w fun e w'=>e = .returned (.int .u64 (xv (pq (a % 64))))∧w'=w:=by
 have h1:xv (pq (a % 64))=2 ^ (a % 64):=aib _ (Nat.mod_lt _ (by decide));have h2:IntKind.u64.wrap (2 ^ (a % 64))=xv (pq (a % 64)):=by
  rw [h1];exact IntWalk.u64_in _ ⟨by rw [← h1]; exact ah9 _,by rw [← h1]; have:=amf (pq (a % 64)); omega⟩
 have h3:((a:Int) % 64).toNat=a % 64:=by omega
 rw [← h3] at h2 ⊢;clear h1 h3;generalize pq (((a:Int) % 64).toNat)=z at *;go_in;go_wp2
 go_ret;exact ⟨rfl,rfl⟩
theorem XT (b t o a:Nat)(pre:List Value)(F:Nat→Bool)(w:World)(h:SA w b t pre F)(ho:pre.length=o)(ha:a<4096) :
 Calls Tryz.prog 80 #[.pointer (some ⟨b,o,none⟩),.int .u32 (a:Int)] w fun e w'=>e = .returned (.tuple #[])∧SA w' b t pre (eG F a true)∧Touch [b] w w':=by
 have hc:=h.cell ho (a / 64) (by omega)
 have hf:=h.free (o+a / 64)
 have hbit:=fun W=>DV a W (by omega)
 have hop:bits .or .u64 (xv (bU F (a / 64))) (xv (pq (a % 64)))=xv (bU (eG F a true) (a / 64)):=by
  rw [agX,Jh]
 have hidx:((a:Int) / 64).toNat=a / 64:=by omega
 have hlt:(a:Int) / 64<64:=by omega
 have hge:(0:Int)≤(a:Int) / 64:=by omega
 have HST:=hid (show SA (w.setCell ⟨b,o+a / 64,none⟩ (.int .u64 (xv (bU (eG F a true) (a / 64))))) b t pre (eG F a true)∧Touch [b] w (w.setCell ⟨b,o+a / 64,none⟩ (.int .u64 (xv (bU (eG F a true) (a / 64))))) from
  ⟨h.set ho a true ha,Touch.dC ((Only.refl b w).setCell _ _) (by simp)⟩)
 generalize xv (bU (eG F a true) (a / 64))=z at *
 generalize xv (bU F (a / 64))=x at *
 generalize xv (pq (a % 64))=y at *
 rw [← hidx] at hc hf HST
 have HB:=hid hbit
 clear h hidx hbit ha
 go_in
 go_wp2_with fail
 refine wp_region_still_tail 11 (by kernel_rfl) (by kernel_rfl) ?_
 simp only [List.take_succ_cons,List.take_zero,List.drop_succ_cons,List.drop_zero]
 iterate 7 still_step
 still_call (HB.out _)
 iterate 3 still_step
 refine wpStill_nil ?_
 change wpList _ _ _ _ _ w.drew
 go_wp2_with fail
 go_end0
 exact ⟨rfl,HST.out.1,HST.out.2.trans (Touch.of_below (Below.refl _ _).drew)⟩
end
section
set_option linter.unusedVariables false
open Go.RowKit
theorem xE {b t:Nat}:∀ (new old pre:List Value) (w:World) (o:Nat),pre.length=o→old.length=new.length→w.heap[b]? = some (.cells (pre++old).toArray t (0,0)) →
 (w.setCells b o new).heap[b]? = some (.cells (pre++new).toArray t (0,0))∧Only b w (w.setCells b o new)
 | [],old,pre,w,o,_,hl,h=>by
   obtain rfl:old=[]:=List.eq_nil_of_length_eq_zero hl;exact ⟨h,Only.refl b w⟩
 | v::vs,u::us,pre,w,o,ho,hl,h=>by
   subst ho;have h1:(w.setCell ⟨b,pre.length,none⟩ v).heap[b]? = some (.cells ((pre++[v])++us).toArray t (0,0)):=by
    rw [heap_setCell_same w b _ _ _ _ h];congr 2;rw [List.setIfInBounds_toArray,List.set_append_right _ _ (by omega),Nat.sub_self,List.set_cons_zero,List.append_assoc]; rfl
   obtain ⟨h2,h3⟩:=xE vs us (pre++[v]) _ (pre.length+1) (by simp) (by simpa using hl) h1;refine ⟨?_, ?_⟩
   ·rw [List.append_assoc] at h2; exact h2
   have q:=(Only.refl b w).setCell pre.length v;exact ⟨h3.size.trans q.size,fun k hk=>(h3.rest k hk).trans (q.rest k hk),fun B hB=>(q.bel B hB).trans (h3.bel B hB)⟩
def eX (n:Nat):Nat→Bool:=fun a=>decide (2≤a) && decide (a<n)
theorem XU:eX 2=fun _=>false:=by
 funext a; unfold eX
 by_cases h:2≤a
 ·simp [h]
 simp [h]
theorem XV (a:Nat)(h:2≤a):eG (eX a) a true=eX (a+1):=by
 funext x; unfold eG eX
 by_cases e:x=a
 ·subst e; simp [h]
 rw [if_neg e];have:(x<a+1)=(x<a):=by apply propext; omega
 simp [this]
structure SP (w:World)(S n:Nat)(F:Nat→Bool):Prop where
 arr:SA w S 108 [.int .u32 (n:Int)] F
 lo:16≤n
 hi:n≤4096
 own:∀ a,F a=true→2≤a∧a<n
theorem SP.drop {F:Nat→Bool}{n a:Nat}(h:∀ a,F a=true→2≤a∧a<n):∀ x,eG F a false x=true→2≤x∧x<n:=fun x hx=>by
 unfold eG at hx;split at hx
 ·cases hx
 exact h x hx
theorem SP.add {F:Nat→Bool}{n a:Nat}(h:∀ a,F a=true→2≤a∧a<n)(ha:2≤a∧a<n):∀ x,eG F a true x=true→2≤x∧x<n:=fun x hx=>by
 unfold eG at hx;split at hx
 ·rename_i e; subst e; exact ha
 exact h x hx
def Ji (n a:Nat):Int:=if a<2∨n≤a then 2 else 0
theorem sW (F:Nat→Bool):(Tryz.prog.info? 106).map (·.size)=some (bQ F).toArray.size:=by
 rw [show (Tryz.prog.info? 106).map (·.size)=some 64 by kernel_rfl,List.size_toArray,aZ]
theorem aeS (S n:Nat)(w:World)(hc:w.cell? ⟨S,0,none⟩=some (.int .u32 (n:Int)))(hlo:16≤n)(hhi:n≤4096) :
 Calls Tryz.prog 60 #[.pointer (some ⟨S,0,none⟩)] w fun e w'=>e = .returned (.agg (bQ (eX n)).toArray)∧Below w.heap.size w w':=by
 have HC:=hid hc
 have DN:=hid (show S<w.heap.size from block_lt_of_cell hc)
 clear hc
 go_in
 go_wp2_with fail
 refine aaG fun W0 hW=>?_
 obtain ⟨h0,h1,hsz,hbel⟩:=hW
 have HR:=hid (show W0.heap[w.heap.size]? = some (.cells (List.replicate 64 (.int .u64 0)).toArray 106 (0,0)) from h0)
 have HX0:=hid (show SA W0 (w.heap.size+1) 106 [] (eX 2) by
  unfold SA;rw [XU,BV];exact h1)
 have HB:=hid hbel
 clear h0 h1 hsz hbel
 generalize hP0:w.heap.size=P0 at *
 have yS:=hid hP0
 clear hP0
 go_loopw [4] (fun v4 wr=>∃ a:Nat,2≤a∧a≤n∧v4 = .int .u32 (a:Int)∧SA wr (P0+1) 106 [] (eX a)∧wr.heap[P0]? = some (.cells (List.replicate 64 (.int .u64 0)).toArray 106 (0,0))∧Below P0 w wr) (fun v _=>n - (intOf v).toNat)
 case atStart=>exact ⟨2,by omega,by omega,rfl,HX0.out,HR.out,HB.out⟩
 case round =>
  clear HX0 HR HB;obtain ⟨a,ha2,Lh,rfl,hA,hR,hb⟩:=hrel;have hc:=(hb.cell (p:=⟨S,0,none⟩) DN.out).trans HC.out;by_cases hlt:a<n
  ·have amm:=hid (XT (P0+1) 106 0 a [] (eX a) wr hA rfl (by omega))
   have HR2:=hid hR;have HB2:=hid hb;have bn:=hid (And.intro ha2 (And.intro hlt hhi));have iI:(a:Int)<(n:Int):=by omega
   have i0:(0:Int)≤(a:Int):=by omega
   have nI:(n:Int)≤4096:=by omega
   clear hA hR hb ha2 Lh hlt;go_wp2_with fail;refine amm.out.mono ?_;rintro e w2 ⟨rfl,hA2,hT⟩;have HA2:=hid hA2;have HT:=hid hT;clear hA2 hT amm hc;go_wp2_with fail;go_roundw
   case rel =>
    have q:=bn.out;refine ⟨a+1,by omega,by omega,by go_num,by rw [← XV a q.1]; exact HA2.out, ?_, ?_⟩
    ·exact (HT.out.block P0 (Array.getElem?_eq_some_iff.1 HR2.out).1 (by simp)).trans HR2.out
    exact HB2.out.trans (HT.out.below (by have:=HB2.out.size; have:=yS.out; omega) (by simp))
   case measure=>simp [intOf]; have:=bn.out; omega
  obtain rfl:n=a:=by omega
  have HA:=hid (show wr.heap[P0+1]? = some (.cells (bQ (eX n)).toArray 106 (0,0)) from hA);have HR2:=hid hR;have HB2:=hid hb;have SH:=hid (sW (eX n));have SE:=hid (show (List.replicate 64 (Value.int .u64 0)).toArray.size=(bQ (eX n)).toArray.size by rw [List.size_toArray,List.size_toArray,aZ,List.length_replicate]);have ONE:=hid (show (bQ (eX n)).toArray.all (·.oneCell')=true from all_oneCell_toArray (yf _));clear hA hR hb hlt;obtain ⟨R,hRR⟩:∃ R,(bQ (eX n)).toArray=R:=⟨_,rfl⟩
  rw [hRR] at HA SH SE ONE;have HRR:=hid hRR;clear hRR;go_wp2_with (first
   | (with_reducible refine wpList_load_row (o:=⟨some 15,_,_,_,_,_⟩) rfl 106 _ rfl (P0+1) rfl 106 R (0,0) _ HA.out Tryz.underlying106 rfl SH.out ?_)
   | (with_reducible refine wpList_store_row (o:=⟨none,.store _ (.tmp 2) _,_,_,_,_⟩) rfl 106 _ _ rfl P0 R rfl rfl 106 (List.replicate 64 (.int .u64 0)).toArray HR2.out SH.out SE.out ONE.out ?_))
  refine bodyPost_ret (v := .agg R) (results_cell_row Tryz.results60 _ _ P0 106 R (0,0) _ rfl (setRow_heap _ P0 _ R _ _ HR2.out) Tryz.underlying106 rfl SH.out) rfl ⟨by rw [HRR.out], ?_⟩;rw [yS.out];exact aG HB2.out (by omega) _
theorem Tv (W:World):(zeroValue 108).run Tryz.prog W = .ok (.agg #[.int .u32 0,.int .u64 0,.int .u64 0,.int .u64 0,.int .u64 0,.int .u64 0,.int .u64 0,.int .u64 0,.int .u64 0,.int .u64 0,.int .u64 0,.int .u64 0,.int .u64 0,.int .u64 0,.int .u64 0,.int .u64 0,.int .u64 0,.int .u64 0,.int .u64 0,.int .u64 0,.int .u64 0,.int .u64 0,.int .u64 0,.int .u64 0,.int .u64 0,.int .u64 0,.int .u64 0,.int .u64 0,.int .u64 0,.int .u64 0,.int .u64 0,.int .u64 0,.int .u64 0,.int .u64 0,.int .u64 0,.int .u64 0,.int .u64 0,.int .u64 0,.int .u64 0,.int .u64 0,.int .u64 0,.int .u64 0,.int .u64 0,.int .u64 0,.int .u64 0,.int .u64 0,.int .u64 0,.int .u64 0,.int .u64 0,.int .u64 0,.int .u64 0,.int .u64 0,.int .u64 0,.int .u64 0,.int .u64 0,.int .u64 0,.int .u64 0,.int .u64 0,.int .u64 0,.int .u64 0,.int .u64 0,.int .u64 0,.int .u64 0,.int .u64 0,.int .u64 0]) W:=by kernel_rfl
theorem XW (n:Nat)(w:World)(h0:16≤n)(h1:n≤4096):Calls Tryz.prog 42 #[.int .i64 (n:Int)] w fun e w'=>e = .returned (.tuple #[.pointer (some ⟨w.heap.size,0,none⟩),.int .i64 0])∧SP w' w.heap.size n (eX n)∧Below w.heap.size w w':=by
 have nI0:(16:Int)≤(n:Int):=by omega
 have nI1:(n:Int)≤4096:=by omega
 have HN:=hid (And.intro h0 h1);clear h0 h1;have hz:=Tv;go_in;go_upto_region 4 with fail
 clear hz;have hs:=heap_alloc_new w (.cells (#[Value.int .u32 (n:Int),.int .u64 0,.int .u64 0,.int .u64 0,.int .u64 0,.int .u64 0,.int .u64 0,.int .u64 0,.int .u64 0,.int .u64 0,.int .u64 0,.int .u64 0,.int .u64 0,.int .u64 0,.int .u64 0,.int .u64 0,.int .u64 0,.int .u64 0,.int .u64 0,.int .u64 0,.int .u64 0,.int .u64 0,.int .u64 0,.int .u64 0,.int .u64 0,.int .u64 0,.int .u64 0,.int .u64 0,.int .u64 0,.int .u64 0,.int .u64 0,.int .u64 0,.int .u64 0,.int .u64 0,.int .u64 0,.int .u64 0,.int .u64 0,.int .u64 0,.int .u64 0,.int .u64 0,.int .u64 0,.int .u64 0,.int .u64 0,.int .u64 0,.int .u64 0,.int .u64 0,.int .u64 0,.int .u64 0,.int .u64 0,.int .u64 0,.int .u64 0,.int .u64 0,.int .u64 0,.int .u64 0,.int .u64 0,.int .u64 0,.int .u64 0,.int .u64 0,.int .u64 0,.int .u64 0,.int .u64 0,.int .u64 0,.int .u64 0,.int .u64 0,.int .u64 0]) 108);have hb:=(Below.refl w.heap.size w).alloc (Nat.le_refl _) (.cells (#[Value.int .u32 (n:Int),.int .u64 0,.int .u64 0,.int .u64 0,.int .u64 0,.int .u64 0,.int .u64 0,.int .u64 0,.int .u64 0,.int .u64 0,.int .u64 0,.int .u64 0,.int .u64 0,.int .u64 0,.int .u64 0,.int .u64 0,.int .u64 0,.int .u64 0,.int .u64 0,.int .u64 0,.int .u64 0,.int .u64 0,.int .u64 0,.int .u64 0,.int .u64 0,.int .u64 0,.int .u64 0,.int .u64 0,.int .u64 0,.int .u64 0,.int .u64 0,.int .u64 0,.int .u64 0,.int .u64 0,.int .u64 0,.int .u64 0,.int .u64 0,.int .u64 0,.int .u64 0,.int .u64 0,.int .u64 0,.int .u64 0,.int .u64 0,.int .u64 0,.int .u64 0,.int .u64 0,.int .u64 0,.int .u64 0,.int .u64 0,.int .u64 0,.int .u64 0,.int .u64 0,.int .u64 0,.int .u64 0,.int .u64 0,.int .u64 0,.int .u64 0,.int .u64 0,.int .u64 0,.int .u64 0,.int .u64 0,.int .u64 0,.int .u64 0,.int .u64 0,.int .u64 0]) 108);have hlt:w.heap.size<(w.alloc (.cells (#[Value.int .u32 (n:Int),.int .u64 0,.int .u64 0,.int .u64 0,.int .u64 0,.int .u64 0,.int .u64 0,.int .u64 0,.int .u64 0,.int .u64 0,.int .u64 0,.int .u64 0,.int .u64 0,.int .u64 0,.int .u64 0,.int .u64 0,.int .u64 0,.int .u64 0,.int .u64 0,.int .u64 0,.int .u64 0,.int .u64 0,.int .u64 0,.int .u64 0,.int .u64 0,.int .u64 0,.int .u64 0,.int .u64 0,.int .u64 0,.int .u64 0,.int .u64 0,.int .u64 0,.int .u64 0,.int .u64 0,.int .u64 0,.int .u64 0,.int .u64 0,.int .u64 0,.int .u64 0,.int .u64 0,.int .u64 0,.int .u64 0,.int .u64 0,.int .u64 0,.int .u64 0,.int .u64 0,.int .u64 0,.int .u64 0,.int .u64 0,.int .u64 0,.int .u64 0,.int .u64 0,.int .u64 0,.int .u64 0,.int .u64 0,.int .u64 0,.int .u64 0,.int .u64 0,.int .u64 0,.int .u64 0,.int .u64 0,.int .u64 0,.int .u64 0,.int .u64 0,.int .u64 0]) 108)).heap.size:=by simp
 generalize w.alloc (.cells (#[Value.int .u32 (n:Int),.int .u64 0,.int .u64 0,.int .u64 0,.int .u64 0,.int .u64 0,.int .u64 0,.int .u64 0,.int .u64 0,.int .u64 0,.int .u64 0,.int .u64 0,.int .u64 0,.int .u64 0,.int .u64 0,.int .u64 0,.int .u64 0,.int .u64 0,.int .u64 0,.int .u64 0,.int .u64 0,.int .u64 0,.int .u64 0,.int .u64 0,.int .u64 0,.int .u64 0,.int .u64 0,.int .u64 0,.int .u64 0,.int .u64 0,.int .u64 0,.int .u64 0,.int .u64 0,.int .u64 0,.int .u64 0,.int .u64 0,.int .u64 0,.int .u64 0,.int .u64 0,.int .u64 0,.int .u64 0,.int .u64 0,.int .u64 0,.int .u64 0,.int .u64 0,.int .u64 0,.int .u64 0,.int .u64 0,.int .u64 0,.int .u64 0,.int .u64 0,.int .u64 0,.int .u64 0,.int .u64 0,.int .u64 0,.int .u64 0,.int .u64 0,.int .u64 0,.int .u64 0,.int .u64 0,.int .u64 0,.int .u64 0,.int .u64 0,.int .u64 0,.int .u64 0]) 108)=w1 at *;have HS:=hid (show w1.heap[w.heap.size]? = some (.cells ([Value.int .u32 (n:Int)]++List.replicate 64 (Value.int .u64 0)).toArray 108 (0,0)) from hs);have HB:=hid hb;clear hs hb;generalize hS:w.heap.size=S at *;have ZM:=hid hS;clear hS;have amn:=hid (aeS S n w1 (by rw [cell_of_row w1 S _ _ _ _ HS.out]; rfl) HN.out.1 HN.out.2);go_wp2_with fail;refine amn.out.mono ?_;rintro e w2 ⟨rfl,hb2⟩;have hs2:=(hb2.block S hlt).trans HS.out;obtain ⟨q1,q2⟩:=xE (bQ (eX n)) (List.replicate 64 (Value.int .u64 0)) [Value.int .u32 (n:Int)] w2 1 rfl (by rw [aZ,List.length_replicate]) hs2;have TH:=hid (show w2.there S 1 (bQ (eX n)).toArray.size from fun j hj=>by
  rw [List.size_toArray,aZ] at hj;refine ⟨?_,frozen_of_row w2 S _ _ _ hs2⟩;rw [cell_of_row w2 S _ _ _ _ hs2,List.getElem?_toArray,List.getElem?_append_right (by simp),List.getElem?_replicate,if_pos (by simp; omega)];rfl)
 have SZ:=hid (sW (eX n));have ONE:=hid (show (bQ (eX n)).toArray.all (·.oneCell')=true from all_oneCell_toArray (yf _));have jM:=hid (show SP (w2.setCells S 1 (bQ (eX n)).toArray.toList) S n (eX n)∧Below S w (w2.setCells S 1 (bQ (eX n)).toArray.toList) from by
  refine ⟨⟨q1,HN.out.1,HN.out.2,fun a ha=>by unfold eX at ha; simpa using ha⟩, ?_⟩;have e:=ZM.out;exact (HB.out.trans (hb2.mono (by omega))).trans (q2.bel S (Nat.le_refl _)))
 clear hb2 hs2 q1 q2 amn HS HB hlt;obtain ⟨R,hRR⟩:∃ R,(bQ (eX n)).toArray=R:=⟨_,rfl⟩
 rw [hRR] at TH SZ ONE jM ⊢;clear hRR;go_wp2_with (first
  | (with_reducible refine wpList_store_mid (op:=⟨none,.store _ (.tmp 19) _,_,_,_,_⟩) rfl 106 _ _ rfl S 1 R rfl rfl TH.out SZ.out ONE.out ?_))
 go_ret2;exact ⟨by rw [ZM.out]; rfl,by rw [ZM.out]; exact jM.out.1,by rw [ZM.out]; exact jM.out.2⟩
theorem XX {n a:Nat}(h:a<2∨n≤a):Ji n a=2:=by unfold Ji; rw [if_pos h]
theorem aa7 {n a:Nat}(h:¬ (a<2∨n≤a)):Ji n a=0:=by unfold Ji; rw [if_neg h]
def E8 (n:Nat)(F:Nat→Bool)(a:Nat):Int×(Nat→Bool):=if a<2∨n≤a then (2,F) else if F a=true then (8,F) else (0,eG F a true)
end
section
set_option linter.unusedVariables false
open Go.RowKit
theorem vg (F:Nat→Bool)(i:Nat)(h:i<64)(W:World):(Instr.index 106 (.agg (bQ F).toArray) (.int .i64 (i:Int))).run Tryz.prog W = .ok (.int .u64 (xv (bU F i))) W:=by
 obtain ⟨i0,hi,hs⟩:=Option.map_eq_some_iff.1 (show (Tryz.prog.info? 47).map (·.size)=some 1 by kernel_rfl);exact xY _ _ _ _ i _ i0 _ Tryz.underlying106 Tryz.underlying47 rfl hi hs h (by rw [List.getElem?_toArray]; exact mD F i h) W
theorem qL (F:Nat→Bool):(Tryz.prog.info? 106).map (·.size)=some (bQ F).length:=by
 rw [sW F,List.size_toArray]
theorem Ov (F:Nat→Bool)(n:Nat)(h:∀ a,F a=true→2≤a∧a<n):(∀ a,F a=false)∨∃ a,F a=true∧∀ x,x<a→F x=false:=by
 by_cases hn:∃ a,F a=true
 ·right
  obtain ⟨a,ha⟩:=hn;induction a using Nat.strongRecOn with
  | _ a ih =>
    by_cases hx:∃ x,x<a∧F x=true
    ·obtain ⟨x,hxa,hx⟩:=hx
     exact ih x hxa hx
    refine ⟨a,ha,fun x hxa=>?_⟩;cases hF:F x with
    | false=>rfl
    | true=>exact absurd ⟨x,hxa,hF⟩ hx
 left;intro a;cases hF:F a with
 | false=>rfl
 | true=>exact absurd ⟨a,hF⟩ hn
theorem aa8 (F:Nat→Bool)(n:Nat)(h:∀ a,F a=true→2≤a∧a<n):∀ m,n≤m→cnt F m=cnt F n:=by
 intro m hm;obtain ⟨d,rfl⟩:∃ d,m=n+d:=⟨m - n,by omega⟩
 rw [DU,E5 _ d (fun j _=>by
  cases hF:F (n+j) with
  | false=>rfl
  | true=>have:=h _ hF; omega)]
 rfl
def tkn (F:Nat→Bool):Nat→List Nat
 | 0=>[]
 | k+1=>tkn F k++(if 2≤k∧F k=false then [k] else [])
theorem VL (F:Nat→Bool)(a:Nat):∀ k,a ∈ tkn F k↔a<k∧2≤a∧F a=false
 | 0=>by simp [tkn]
 | k+1=>by
   rw [tkn,List.mem_append,VL F a k];by_cases e:a=k
   ·subst e
    by_cases h:2≤a∧F a=false
    ·rw [if_pos h]; simp [h.1,h.2]
    rw [if_neg h];simp only [List.not_mem_nil,or_false];constructor
    ·intro q; omega
    intro q; exact absurd q.2 h
   have:(a<k+1)=(a<k):=by apply propext; omega
   rw [this];split
   ·simp only [List.mem_singleton]
    constructor
    ·intro q; exact q.resolve_right e
    intro q; exact .inl q
   simp
theorem Jj (F:Nat→Bool)(h:∀ a,F a=true→2≤a):∀ k,2≤k→(tkn F k).length+cnt F k=k - 2
 | 0,h2=>by omega
 | k+1,h2=>by
   by_cases e:k=1
   ·subst e
    have h0:F 0=false:=by cases hF:F 0 with
     | false=>rfl
     | true=>have:=h _ hF; omega
    have h1:F 1=false:=by cases hF:F 1 with
     | false=>rfl
     | true=>have:=h _ hF; omega
    simp [tkn,cnt,h0,h1]
   have ih:=Jj F h k (by omega);rw [tkn,cnt,List.length_append];cases hF:F k with
   | false=>rw [if_pos ⟨by omega,rfl⟩,if_neg (by simp)]; simp only [List.length_singleton]; omega
   | true=>rw [if_neg (by simp),if_pos rfl]; simp only [List.length_nil]; omega
end
section
set_option linter.unusedVariables false
open Go.RowKit
end
section
set_option linter.unusedVariables false
open Go.ChangeShapes Go.WideShapes Go.ChangeAt Go.RowKit
theorem gTab:Tryz.prog.globalNamed "math/bits.deBruijn64tab" = some 1:=by kernel_rfl
theorem apl:(Tryz.prog.globals[1]?).map (·.type)=some 196:=by kernel_rfl
def aa9:List (DataW Unit):=Lib.deBruijn64tab.map fun (b:Nat) => .lit (.int .u8 (b:Int))
theorem XY:(Rows.laid_math_bits_deBruijn64tab:DataW Unit) = .agg aa9:=by rfl
structure SO (w0 w:World)(S n:Nat)(F:Nat→Bool):Prop where
 sp:SP w S n F
 new:w0.heap.size≤S
 bel:Below w0.heap.size w0 w
 tz0:TZ w0
end
end Go.Proofs.YtljjcbmkbmloaaaGreatDoor
