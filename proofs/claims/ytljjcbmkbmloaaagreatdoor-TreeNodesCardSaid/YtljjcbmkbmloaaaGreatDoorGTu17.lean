import Derived.Test.YtljjcbmkbmloaaaGreatDoorGTu16
import Derived.Lib.Bytealg
import Derived.Test.YtljjcbmkbmloaaaGreatDoorGTuA
namespace Go.Proofs.YtljjcbmkbmloaaaGreatDoor
set_option maxHeartbeats 3200000
set_option maxRecDepth 100000
set_option linter.unusedVariables false
open Lib (hid)
open Go.ChangeShapes Go.WideShapes Go.ChangeAt Go.RowKit
def TY (a b:ByteArray):Int:=Lib.compareBytes a.data.toList b.data.toList
theorem cmpL:∀ (x y:List UInt8),(Lib.compareBytes x y<0↔x<y)∧(Lib.compareBytes x y=0↔x=y)
 | [], []=>by simp [Lib.compareBytes]
 | [],b::y=>by simp [Lib.compareBytes]
 | a::x, []=>by simp [Lib.compareBytes]
 | a::x,b::y=>by
   obtain ⟨h1,h2⟩:=cmpL x y;unfold Lib.compareBytes;rw [List.cons_lt_cons_iff];by_cases h:a<b
   ·have:a ≠ b:=fun e=>by subst e; exact absurd h (UInt8.lt_irrefl _)
    simp [h,this]
   by_cases k:b<a
   ·have:a ≠ b:=fun e=>by subst e; exact absurd k (UInt8.lt_irrefl _)
    simp [h,k,this]
   have e:a=b:=UInt8.le_antisymm (UInt8.not_lt.1 k) (UInt8.not_lt.1 h);subst e;simp [h,h1,h2]
theorem abM (a b:ByteArray):decide (TY a b<0)=lo a b:=by
 rw [vH,Lib.toList_data,Lib.toList_data];exact decide_eq_decide.2 (cmpL _ _).1
theorem OX (a b:ByteArray):TY a b=0↔a=b:=by
 unfold TY;rw [(cmpL _ _).2];exact ⟨fun h=>ByteArray.ext (Array.toList_inj.1 h),fun h=>by rw [h]⟩
theorem Ua (a b:ByteArray)(w:World):Calls Tryz.prog 94 #[.string a,.string b] w fun e w'=>e = .returned (.int .i64 (TY a b))∧w'=w:=by
 have HC:=hid (fun W=>Lib.run_compareString (P:=Tryz.prog) a b W);go_in;go_wp2_with fail;rw [run_callFunc_extern Tryz.func128 (by kernel_rfl) (by kernel_rfl) (by kernel_rfl) (e:=Extern.BytealgCompare.compare) (by kernel_rfl),HC.out];simp only [Result.andThen];rw [Oper.upon_value];go_wp2_with fail;go_ret;exact ⟨rfl,rfl⟩
theorem Ub (a b:ByteArray)(w:World):Calls Tryz.prog 73 #[.string a,.string b] w fun e w'=>e = .returned (.int .i64 (TY a b))∧w'=w:=by
 have HC:=hid (fun W=>Ua a b W);go_in;go_wp2_with fail;refine (HC.out _).mono ?_;rintro e w1 ⟨rfl,rfl⟩;go_wp2_with fail;go_ret;exact ⟨rfl,rfl⟩
theorem Yt (d:Nat)(x:bK (Kd d))(key:ByteArray)(w:World) :
 Calls Tryz.prog 72 #[.agg #[.string x.1,.string x.2.1,.pointer (dA d x.2.2)],.string key] w fun e w'=>e = .returned (.int .i64 (TY x.1 key))∧Below w.heap.size w w':=by
 have HC:=hid (fun W=>Ub x.1 key W)
 go_in
 go_wp2_with fail
 refine (HC.out _).mono ?_
 rintro e w1 ⟨rfl,hw⟩
 subst hw
 go_wp2_with fail
 go_ret
 exact ⟨rfl,aK w _⟩
def iC {d:Nat}(L:Its d):List ByteArray:=L.map (·.1)
theorem afc (d:Nat)(a:bO)(n c:Nat)(L:Its d)(key:ByteArray)(w:World)(h:IS w a n d L)(hs:n≤1000)(hr:yu (iC L)) :
 Calls Tryz.prog 71 #[.slice a n c,.string key,.func (.func 72) #[] #[]] w fun e w'=>e = .returned (.tuple #[.int .i64 (iw (iC L) key:Nat),.bool (hasK (iC L) key)])∧Below w.heap.size w w':=by
 have HI:=hid h
 have HN:=hid (show (iC L).length=n by rw [← h.len]; exact List.length_map ..)
 have HR:=hid hr
 have nI:(n:Int)≤1000:=by omega
 have n0:(0:Int)≤(n:Int):=by omega
 have HC:=hid (fun (x:bK (Kd d)) W=>Yt d x key W)
 clear h hr
 go_in
 go_wp2_with fail
 go_loopw [9,10,11] (fun v9 v10 _ wr=>∃ i j:Nat,i≤j∧j≤n∧v9 = .int .i64 (i:Int)∧v10 = .int .i64 (j:Int)∧(∀ x s,x<i→(iC L)[x]? = some s→lo s key=true)∧(∀ x s,j≤x→(iC L)[x]? = some s→lo s key=false)∧Below w.heap.size w wr) (fun v v2 _ _=>(intOf v2).toNat - (intOf v).toNat)
 case atStart=>exact ⟨0,n,by omega,by omega,rfl,rfl,fun x s hx=>absurd hx (by omega),fun x s hx hs=>absurd (List.getElem?_eq_some_iff.1 hs).1 (by have:=HN.out; omega),Below.refl _ _⟩
 case round =>
  obtain ⟨i,j,hij,hj,rfl,rfl,hlo,hhi,hb⟩:=hrel;have HB:=hid hb;clear hb;by_cases hlt:i<j
  ·obtain ⟨m,hm⟩:∃ m:Nat,(i+j) / 2=m:=⟨_,rfl⟩
   have hm1:i≤m:=by omega
   have hm2:m<j:=by omega
   have hml:L.length=n:=by have:=HN.out; unfold iC at this; rwa [List.length_map] at this
   obtain ⟨p,hp⟩:∃ p,L[m]? = some p:=⟨_,List.getElem?_eq_getElem (by omega)⟩
   have hx0:=(HI.out.below HB.out).at_ m p hp;obtain ⟨b1,o1,rfl,c1⟩:=hx0;have hpk:(iC L)[m]? = some p.1:=by unfold iC; rw [List.getElem?_map,hp]; rfl
   have hix:=bT b1 o1 n c m (by omega);have iI:(i:Int)<(j:Int):=by omega
   have jI:(j:Int)≤(n:Int):=by omega
   have i0:(0:Int)≤(i:Int):=by omega
   have x1:IntKind.u64.wrap ((i:Int)+(j:Int))=(i:Int)+(j:Int):=IntWalk.u64_in _ (by omega);have mI:(m:Int)<(n:Int):=by omega
   have m0:(0:Int)≤(m:Int):=by omega
   have HM:=hid (And.intro hm (And.intro hm1 (And.intro hm2 (And.intro hij hj))));have HLO:=hid hlo;have HHI:=hid hhi;have HPP:=hid hpk;have c10:=c1.k;have c11:=c1.v;have c12:=c1.p;clear hm1 hm2 hij hj hlo hhi hlt hp hml hpk c1;have hmI:((i:Int)+(j:Int)) / 2=(m:Int):=by have:=HM.out; omega
   go_upto_region 5 with fail
   try simp only [hmI]
   clear hmI x1;go_wp2_with (refine (HC.out p _).mono ?_; rintro e w2 ⟨rfl,hb2⟩; have HB2:=hid (aJ HB.out hb2); clear hb2)
   ·rename_i hc
    have hb:lo p.1 key=true:=by rw [← abM]; exact decide_eq_true hc
    exact ⟨⟨m+1,j,by have:=HM.out; omega,by have:=HM.out; omega,by go_num,rfl,fun x s hx hs=>by
     rcases Nat.lt_or_ge x i with c | c
     ·exact HLO.out x s c hs
     rcases Nat.lt_or_ge x m with d | d
     ·exact iJ (Bd HR.out d hs HPP.out) hb
     obtain rfl:x=m:=by omega
     rw [HPP.out] at hs; cases hs; exact hb,HHI.out,HB2.out⟩,by simp only [intOf]; have:=HM.out; omega⟩
   rename_i hc
   have hb:lo p.1 key=false:=by rw [← abM]; exact decide_eq_false (by omega)
   exact ⟨⟨i,m,by have:=HM.out; omega,by have:=HM.out; omega,rfl,rfl,HLO.out,fun x s hx hs=>by
    rcases Nat.lt_or_ge x j with c | c
    ·rcases Nat.lt_or_ge m x with d | d
     ·cases e:lo s key with
      | false=>rfl
      | true=>have:=iJ (Bd HR.out d HPP.out hs) e; rw [hb] at this; cases this
     obtain rfl:x=m:=by omega
     rw [HPP.out] at hs; cases hs; exact hb
    exact HHI.out x s c hs,HB2.out⟩,by simp only [intOf]; have:=HM.out; omega⟩
  obtain rfl:i=j:=by omega
  have hrk:=ae2 (key:=key) i (by have:=HN.out; omega) hlo hhi;have HRK:=hid hrk;by_cases hin:i<n
  ·have hml:L.length=n:=by have:=HN.out; unfold iC at this; rwa [List.length_map] at this
   obtain ⟨p,hp⟩:∃ p,L[i]? = some p:=⟨_,List.getElem?_eq_getElem (by omega)⟩
   have hx0:=(HI.out.below HB.out).at_ i p hp;obtain ⟨b1,o1,rfl,c1⟩:=hx0;have hpk:(iC L)[i]? = some p.1:=by unfold iC; rw [List.getElem?_map,hp]; rfl
   have hix:=bT b1 o1 n c i (by omega);have HHS:=hid (aiq HR.out i hlo hpk (hhi i p.1 (Nat.le_refl _) hpk));have iI:(i:Int)<(n:Int):=by omega
   have i0:(0:Int)≤(i:Int):=by omega
   have c10:=c1.k;have c11:=c1.v;have c12:=c1.p;clear hij hj hlo hhi hlt hrk hin hp hml hpk c1;go_wp2_with (refine (HC.out p _).mono ?_; rintro e w2 ⟨rfl,hb2⟩; have HB2:=hid (aJ HB.out hb2); clear hb2)
   go_ret2;rw [HRK.out,HHS.out];refine ⟨?_,HB2.out⟩;have e:(TY p.1 key == 0)=decide (p.1=key):=by
    by_cases h:p.1=key
    ·rw [(OX _ _).2 h,decide_eq_true h]; rfl
    rw [decide_eq_false h,beq_eq_false_iff_ne]; exact fun e=>h ((OX _ _).1 e)
   simp [e]
  have HHS:=hid (abt (key:=key) (l:=iC L) (fun x s hx hs=>hlo x s (by have:=HN.out; omega) hs));have iI:¬ ((i:Int)<(n:Int)):=by omega
  clear hij hj hlo hhi hlt hrk hin;go_wp2_with fail;go_ret2;rw [HRK.out,HHS.out];exact ⟨rfl,HB.out⟩
theorem pR (d:Nat)(a:bO)(n c:Nat)(L:Its d)(key:ByteArray)(w:World)(h:IS w a n d L)(hs:n≤1000)(hr:yu (iC L)) :
 Calls Tryz.prog 52 #[.slice a n c,.string key] w fun e w'=>e = .returned (.tuple #[.int .i64 (iw (iC L) key:Nat),.bool (hasK (iC L) key)])∧Below w.heap.size w w':=by
 have HC:=hid (afc d a n c L key w h hs hr)
 clear h hr
 go_in
 go_wp2_with fail
 refine HC.out.mono ?_
 rintro e w1 ⟨rfl,hb⟩
 have HB:=hid hb
 clear hb
 go_wp2_with fail
 go_ret2
 exact ⟨rfl,HB.out⟩
def afe {d:Nat}(L:Its d)(key:ByteArray):Nat:=if hasK (iC L) key then iw (iC L) key else iw (iC L) key - 1
theorem aff (d:Nat)(a:bO)(n c:Nat)(L:Its d)(key:ByteArray)(w:World)(h:IS w a n d L)(hs:n≤1000)(hr:yu (iC L)) :
 Calls Tryz.prog 122 #[.slice a n c,.string key] w fun e w'=>e = .returned (.int .i64 (afe L key:Nat))∧Below w.heap.size w w':=by
 have HC:=hid (pR d a n c L key w h hs hr)
 have HR:=hid (show iw (iC L) key≤1000 by
  have:iw (iC L) key≤(iC L).length:=List.countP_le_length;have e:(iC L).length=n:=by rw [← h.len]; exact List.length_map ..
  omega)
 have HW:=hid (show afe L key=if hasK (iC L) key then iw (iC L) key else iw (iC L) key - 1 from rfl)
 generalize iw (iC L) key=R at *
 generalize hasK (iC L) key=H at *
 clear h hr
 have rI:(R:Int)≤1000:=by have:=HR.out; omega
 have r0:(0:Int)≤(R:Int):=by omega
 go_in
 go_wp2_with fail
 refine HC.out.mono ?_
 rintro e w1 ⟨rfl,hb⟩
 have HB:=hid hb
 clear hb
 cases H with
 | true =>
   go_wp2_with fail;go_ret;exact ⟨by rw [HW.out]; rfl,HB.out⟩
 | false =>
   go_wp2_with fail;go_ret;refine ⟨?_,HB.out⟩;rw [HW.out];show Ending.returned (Value.int IntKind.i64 (max ((R:Int) - 1) 0))=_;rw [show max ((R:Int) - 1) 0=((R - 1:Nat):Int) by omega];rfl
theorem Yu {κ:Type}(lf:Bool){l:List (bK κ)}(h:Sm l):∀ m:List (bK κ),m.Sublist l→fQ lf m≤402000:=by
 intro m hm;have h2:=FQ lf 402 m (fun x hx=>FT lf x (h.k x (hm.mem hx)) (h.v x (hm.mem hx)));have h3:=hm.length_le;have h4:=h.n;have:m.length * 402≤1000 * 402:=Nat.mul_le_mul_right _ (by omega);omega
theorem Uc (d:Nat)(a:bO)(n c:Nat)(L:Its d)(lf:Bool)(w:World)(h:IS w a n d L)(hs:Sm L) :
 Calls Tryz.prog 127 #[.slice a n c,.bool lf] w fun e w'=>∃ i,e = .returned (.int .i64 (i:Nat))∧JA lf L i∧Below w.heap.size w w':=by
 have HI:=hid h
 have HS:=hid hs
 have HL:=hid h.len
 have nI:(n:Int)≤1000:=by have:=hs.n; have:=h.len; omega
 have HE:=hid (show L.take n=L by rw [← h.len,List.take_length])
 have HZ:=hid (fun m (hm:m.Sublist L)=>Yu lf hs m hm)
 have HAD:=hid (fun j=>show fQ lf (L.take j)+fQ lf (L.drop j)=fQ lf L by rw [← iZ,List.take_append_drop])
 have HC:=hid (fun (x:bK (Kd d))=>V3 d x lf)
 clear h hs
 go_in
 go_wp2_with fail
 go_loopw [6,8,13] (fun v6 _ v13 wr=>∃ i:Nat,i≤n∧v13 = .int .i64 (i:Int)∧v6 = .int .i64 ((fQ lf (L.take i):Nat):Int)∧Below w.heap.size w wr) (fun _ _ v _=>n - (intOf v).toNat)
 case atStart=>exact ⟨0,by omega,rfl,rfl,Below.refl _ _⟩
 case round =>
  obtain ⟨i,hi,rfl,rfl,hb⟩:=hrel;have HB:=hid hb;clear hb;by_cases hlt:i<n
  ·obtain ⟨x,hx⟩:∃ x,L[i]? = some x:=⟨_,List.getElem?_eq_getElem (by have:=HL.out; omega)⟩
   have hx0:=(HI.out.below HB.out).at_ i x hx;obtain ⟨b1,o1,rfl,c1⟩:=hx0;have hix:=bT b1 o1 n c i hlt;have bn:=hid hlt;have iI:(i:Int)<(n:Int):=by omega
   have i0:(0:Int)≤(i:Int):=by omega
   have hK:=hid (HS.out.k x (List.mem_of_getElem? hx));have hV:=hid (HS.out.v x (List.mem_of_getElem? hx));have HST:=hid (show fQ lf (L.take (i+1))=fQ lf (L.take i)+nM lf x by rw [bM L i x hx,iZ]; rfl);have ZI:((nM lf x:Nat):Int)≤402:=by have:=FT lf x hK.out hV.out; omega
   have TI:((fQ lf (L.take i):Nat):Int)≤402000:=by have:=HZ.out _ (List.take_sublist i L); omega
   have c10:=c1.k;have c11:=c1.v;have c12:=c1.p;have HCX:=hid (HC.out x);generalize nM lf x=Z at *;generalize fQ lf (L.take i)=T at *;clear hi hlt hx c1;go_wp2_with (refine (HCX.out _ hK.out hV.out).mono ?_; rintro e w2 ⟨rfl,hb2⟩; have HB2:=hid hb2; clear hb2)
   exact ⟨⟨i+1,by have:=bn.out; omega,by go_num,by rw [HST.out]; go_num,aJ HB.out (aJ (aK wr _) HB2.out)⟩,by simp only [intOf]; have:=bn.out; omega⟩
  obtain rfl:i=n:=by omega
  clear hi hlt;rw [HE.out];have HT:=hid (show (fQ lf L:Int)≤402000 by have:=HZ.out L (List.Sublist.refl L); omega);go_wp2_with fail;go_loopw [5,6,9,10] (fun v5 v6 v9 _ wr2=>∃ j:Nat,j≤i∧v9 = .int .i64 (j:Int)∧v5 = .int .i64 ((fQ lf (L.take j):Nat):Int)∧v6 = .int .i64 ((fQ lf (L.drop j):Nat):Int)∧(∀ k,k<j→fQ lf (L.take k)<fQ lf (L.drop k))∧Below w.heap.size w wr2) (fun _ _ v _ _=>i - (intOf v).toNat)
  case atStart=>exact ⟨0,by omega,rfl,rfl,rfl,fun k hk=>absurd hk (by omega),HB.out⟩
  case round =>
   obtain ⟨j,hj,rfl,rfl,rfl,hlow,hb⟩:=hrel;have HB2:=hid hb;have HLO:=hid hlow;clear hb hlow;have hA:=HZ.out _ (List.take_sublist j L);have hD:=HZ.out _ (List.drop_sublist j L);have hAI:((fQ lf (L.take j):Nat):Int)≤402000:=by omega
   have hDI:((fQ lf (L.drop j):Nat):Int)≤402000:=by omega
   clear hA hD;by_cases hlt:fQ lf (L.take j)<fQ lf (L.drop j)
   ·have hji:j<i:=by
     rcases Nat.lt_or_ge j i with q | q
     ·exact q
     ·rw [List.drop_of_length_le (by have:=HL.out; omega)] at hlt
      exact absurd hlt (by rw [show fQ lf ([]:Its d)=0 from rfl]; omega)
    obtain ⟨x,hx⟩:∃ x,L[j]? = some x:=⟨_,List.getElem?_eq_getElem (by have:=HL.out; omega)⟩
    have hx0:=(HI.out.below HB2.out).at_ j x hx;obtain ⟨b1,o1,rfl,c1⟩:=hx0;have hix:=bT b1 o1 i c j hji;have bn:=hid hji;have HLS:=hid hlt;have jI:(j:Int)<(i:Int):=by omega
    have j0:(0:Int)≤(j:Int):=by omega
    have ltI:((fQ lf (L.take j):Nat):Int)<((fQ lf (L.drop j):Nat):Int):=by omega
    have hK:=hid (HS.out.k x (List.mem_of_getElem? hx));have hV:=hid (HS.out.v x (List.mem_of_getElem? hx));have HST:=hid (show fQ lf (L.take (j+1))=fQ lf (L.take j)+nM lf x by rw [bM L j x hx,iZ]; rfl);have ND:=hid (show fQ lf (L.drop j)=nM lf x+fQ lf (L.drop (j+1)) by
     obtain ⟨hq,rfl⟩:=List.getElem?_eq_some_iff.1 hx;rw [List.drop_eq_getElem_cons hq,gG])
    have ZI:((nM lf x:Nat):Int)≤402:=by have:=FT lf x hK.out hV.out; omega
    have ZD:((nM lf x:Nat):Int)≤((fQ lf (L.drop j):Nat):Int):=by have:=ND.out; omega
    have c10:=c1.k;have c11:=c1.v;have c12:=c1.p;have HCX:=hid (HC.out x);have HN:=hid (show ∀ k,k<j+1→fQ lf (L.take k)<fQ lf (L.drop k) from fun k hk=>by
     rcases Nat.lt_or_ge k j with q | q
     ·exact HLO.out k q
     obtain rfl:k=j:=by omega
     exact hlt)
    generalize nM lf x=Z at *;generalize fQ lf (L.take j)=T at *;generalize fQ lf (L.drop j)=D at *;clear hj hlt hx c1 hji;go_wp2_with (refine (HCX.out _ hK.out hV.out).mono ?_; rintro e w2 ⟨rfl,hb2⟩; have HB3:=hid hb2; clear hb2)
    have e1:=HST.out;have e2:=ND.out;exact ⟨⟨j+1,by have:=bn.out; omega,by go_num,by rw [e1]; go_num,by rw [show (D:Int) - (Z:Int)=((fQ lf (L.drop (j+1)):Nat):Int) by omega],HN.out,aJ HB2.out HB3.out⟩,by simp only [intOf]; have:=bn.out; omega⟩
   have HM:=hid (show JA lf L j from ⟨by have:=HL.out; omega,by omega,HLO.out⟩);have ltI:¬ (((fQ lf (L.take j):Nat):Int)<((fQ lf (L.drop j):Nat):Int)):=by omega
   generalize fQ lf (L.take j)=T at *;generalize fQ lf (L.drop j)=D at *;clear hlt hj;go_wp2_with fail;go_ret;exact ⟨j,rfl,HM.out,HB2.out⟩
theorem afg (s:ByteArray):decide (s=aY)=s.toList.isEmpty:=by
 rw [← DX,show aY.toList=[] by rw [Lib.toList_data]; rfl];cases s.toList <;> rfl
theorem Yv (f t:ByteArray):emptyS (f,t)=(!t.toList.isEmpty && !Op.bytesLess f.toList t.toList):=by unfold emptyS; rw [← afg]; rfl
theorem V4 (f t k:ByteArray):qN (f,t) k=(!Op.bytesLess k.toList f.toList && (t.toList.isEmpty || Op.bytesLess k.toList t.toList)):=by unfold qN; rw [← afg]; rfl
theorem empty_any (f t:ByteArray)(w:World):Calls Tryz.prog 97 #[.agg #[.string f,.string t]] w fun e w'=>e = .returned (.bool (emptyS (f,t)))∧Below w.heap.size w w':=by
 have HE:=hid (Yv f t);go_in;go_wp2_with fail;all_goals go_ret
 all_goals rw [HE.out]
 all_goals refine ⟨?_,aK w _⟩
 all_goals simp [*]
theorem Yw (f t k:ByteArray)(w:World):Calls Tryz.prog 96 #[.agg #[.string f,.string t],.string k] w fun e w'=>e = .returned (.bool (qN (f,t) k))∧Below w.heap.size w w':=by
 have HE:=hid (V4 f t k);go_in;go_wp2_with fail;all_goals go_ret
 all_goals rw [HE.out]
 all_goals refine ⟨?_,aK w _⟩
 all_goals simp [*]
def xG (k:ByteArray):ByteArray:=k++⟨#[0]⟩
theorem abN (k:ByteArray)(w:World)(hk:k.size≤200):Calls Tryz.prog 49 #[.string k] w fun e w'=>e = .returned (.agg #[.string k,.string (xG k)])∧Below w.heap.size w w':=by
 have kI:¬ (9223372036854775807<k.size+1):=by omega
 go_in;go_wp2_with fail;refine bodyPost_ret (v := .agg #[.string k,.string (xG k)]) (results_cell_row Tryz.results49 _ _ w.heap.size 96 #[.string k,.string (xG k)] (0,0) _ rfl (ah w _) Tryz.underlying96 rfl (by kernel_rfl)) rfl ?_;exact ⟨rfl,aK w _⟩
theorem OY (ts:Array TypeId)(T:TypeId)(x y:ByteArray)(w:World):(Builtin.max_ ts T #[.string x,.string y]).run Tryz.prog w = .ok (.string (if lo x y=true then y else x)) w:=by
 show Sem.run Tryz.prog (do pure (Value.string (if ← asBool (← Op.stringOp .geq x y) then x else y))) w=_;cases h:Op.bytesLess x.toList y.toList <;> simp [Op.stringOp,asBool,lo,h]
theorem V5 (w:World)(A B:Obj):((w.alloc A).alloc B).drew.drew.heap[w.heap.size+1]? = some B:=by
 have:=ah (w.alloc A) B;rw [show (w.alloc A).heap.size=w.heap.size+1 by simp] at this;exact this
theorem pU (d:Nat)(a:bO)(n c i:Nat)(L:Its d)(f t:ByteArray)(w:World)(h:IS w a n d L)(hs:n≤1000)(hi:i<n) :
 Calls Tryz.prog 58 #[.agg #[.string f,.string t],.slice a n c,.int .i64 (i:Nat)] w fun e w'=>e = .returned (.agg #[.string (oC (f,t) L i).1,.string (oC (f,t) L i).2])∧Below w.heap.size w w':=by
 obtain ⟨x,hx⟩:∃ x,L[i]? = some x:=⟨_,List.getElem?_eq_getElem (by have:=h.len; omega)⟩
 obtain ⟨b1,o1,rfl,c1⟩:=h.at_ i x hx
 have c10:=c1.k
 have hix:=bT b1 o1 n c i hi
 have nI:(n:Int)≤1000:=by omega
 have iI:(i:Int)<(n:Int):=by omega
 have i0:(0:Int)≤(i:Int):=by omega
 by_cases hl:i+1<n
 ·obtain ⟨y,hy⟩:∃ y,L[i+1]? = some y:=⟨_,List.getElem?_eq_getElem (by have:=h.len; omega)⟩
  obtain ⟨b2,o2,e2,c2⟩:=h.at_ (i+1) y hy;injection e2 with e2;injection e2 with e3 e4;subst e3 e4;have c20:=c2.k;have hiy:=bT b1 o1 n c (i+1) hl;rw [show ((i+1:Nat):Int)=(i:Int)+1 by omega] at hiy;have HE:=hid (show oC (f,t) L i=(if lo f x.1=true then x.1 else f,if t=aY∨lo y.1 t=true then y.1 else t) by unfold oC; rw [hx,hy]; rfl);have lI:(i:Int)+1<(n:Int):=by omega
  obtain ⟨M,hM⟩:∃ M,(if lo f x.1=true then x.1 else f)=M:=⟨_,rfl⟩
  rw [hM] at HE;have hmx:∀ (ts:Array TypeId) (T:TypeId) (W:World),(Builtin.max_ ts T #[.string f,.string x.1]).run Tryz.prog W = .ok (.string M) W:=fun ts T W=>by rw [← hM]; exact OY ts T f x.1 W
  clear hM;have HI:=hid hi;have g1:∀ A B:Obj,((w.alloc A).alloc B).cell? ⟨b1,o1+i * 3,none⟩=some (.string x.1):=fun A B=>((aJ (aK w A) (aK _ B)).cell (p:=⟨b1,o1+i * 3,none⟩) (block_lt_of_cell c10)).trans c10;have g2:∀ A B:Obj,((w.alloc A).alloc B).cell? ⟨b1,o1+(i+1) * 3,none⟩=some (.string y.1):=fun A B=>((aJ (aK w A) (aK _ B)).cell (p:=⟨b1,o1+(i+1) * 3,none⟩) (block_lt_of_cell c20)).trans c20;clear h c1 c2 hx hy hs hi hl;go_in;go_wp2_with fail;go_region;have hw1:IntKind.i64.wrap ((i:Int)+1)=(i:Int)+1:=IntWalk.i64_in _ (by omega);by_cases ht:t.toList=[]
  ·have HTN:=hid (show t=aY by have:=afg t; rw [ht] at this; simpa using this)
   go_wp2_with fail;go_region;go_wp2_with fail;refine bodyPost_ret (v := .agg #[.string M,.string y.1]) (results_cell_row Tryz.results58 _ _ (w.heap.size+1) 96 #[.string M,.string y.1] (0,0) _ rfl (V5 w _ _) Tryz.underlying96 rfl (by kernel_rfl)) rfl ?_;rw [HE.out];exact ⟨by simp [HTN.out],(aJ (aK w _) (aK _ _)).drew.drew⟩
  have hti:t.toList.isEmpty=false:=by cases hq:t.toList with
   | nil=>exact absurd hq ht
   | cons=>rfl
  have htb:(t.toList == [])=false:=by cases hq:t.toList with
   | nil=>exact absurd hq ht
   | cons=>rfl
  have HTN:=hid (show t ≠ aY from fun e=>by have:=afg t; rw [hti,decide_eq_true e] at this; cases this);cases hy2:Op.bytesLess y.1.toList t.toList with
  | true =>
    have HLO:=hid (show lo y.1 t=true from hy2);go_wp2_with fail;go_region;go_wp2_with fail;refine bodyPost_ret (v := .agg #[.string M,.string y.1]) (results_cell_row Tryz.results58 _ _ (w.heap.size+1) 96 #[.string M,.string y.1] (0,0) _ rfl (V5 w _ _) Tryz.underlying96 rfl (by kernel_rfl)) rfl ?_;rw [HE.out];exact ⟨by simp [HLO.out],(aJ (aK w _) (aK _ _)).drew.drew⟩
  | false =>
    have HLO:=hid (show lo y.1 t=false from hy2);go_wp2_with fail;go_region;go_wp2_with fail;refine bodyPost_ret (v := .agg #[.string M,.string t]) (results_cell_row Tryz.results58 _ _ (w.heap.size+1) 96 #[.string M,.string t] (0,0) _ rfl (V5 w _ _) Tryz.underlying96 rfl (by kernel_rfl)) rfl ?_;rw [HE.out];exact ⟨by simp [HLO.out,HTN.out],(aJ (aK w _) (aK _ _)).drew.drew⟩
 ·have hy:L[i+1]? = none:=List.getElem?_eq_none_iff.2 (by have:=h.len; omega)
  have HE:=hid (show oC (f,t) L i=(if lo f x.1=true then x.1 else f,t) by unfold oC; rw [hx,hy]; rfl);have lI:¬ ((i:Int)+1<(n:Int)):=by omega
  have lD:decide ((i:Int)+1<(n:Int))=false:=decide_eq_false lI;obtain ⟨M,hM⟩:∃ M,(if lo f x.1=true then x.1 else f)=M:=⟨_,rfl⟩
  rw [hM] at HE;have hmx:∀ (ts:Array TypeId) (T:TypeId) (W:World),(Builtin.max_ ts T #[.string f,.string x.1]).run Tryz.prog W = .ok (.string M) W:=fun ts T W=>by rw [← hM]; exact OY ts T f x.1 W
  clear hM;have HI:=hid hi;have g1:∀ A B:Obj,((w.alloc A).alloc B).cell? ⟨b1,o1+i * 3,none⟩=some (.string x.1):=fun A B=>((aJ (aK w A) (aK _ B)).cell (p:=⟨b1,o1+i * 3,none⟩) (block_lt_of_cell c10)).trans c10;have hw1:IntKind.i64.wrap ((i:Int)+1)=(i:Int)+1:=IntWalk.i64_in _ (by omega);clear h c1 hx hy hs hi hl;go_in;go_wp2_with fail;go_region;go_wp2_with fail;go_region;go_wp2_with fail;refine bodyPost_ret (v := .agg #[.string M,.string t]) (results_cell_row Tryz.results58 _ _ (w.heap.size+1) 96 #[.string M,.string t] (0,0) _ rfl (V5 w _ _) Tryz.underlying96 rfl (by kernel_rfl)) rfl ?_;rw [HE.out];exact ⟨rfl,(aJ (aK w _) (aK _ _)).drew.drew⟩
end Go.Proofs.YtljjcbmkbmloaaaGreatDoor
