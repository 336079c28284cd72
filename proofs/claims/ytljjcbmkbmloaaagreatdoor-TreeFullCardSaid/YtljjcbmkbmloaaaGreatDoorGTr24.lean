import Derived.Test.YtljjcbmkbmloaaaGreatDoorGTr22
namespace Go.Proofs.YtljjcbmkbmloaaaGreatDoor
set_option maxRecDepth 4000
set_option linter.unusedVariables false
theorem Yg {d:Nat}(L:Its d)(key:ByteArray)(hr:L.Pairwise (fun x y=>lo x.1 y.1=true))(hne:L ≠ [])(hh:∀ x r,L=x::r→x.1=aY):∃ a x b,L=a++x::b∧a.length=aeU L key∧lo key x.1=false∧∀ y r,b=y::r→lo key y.1=true:=by
 have h:=stands L key hr
 have hw:aeU L key=if hasK (L.map (·.1)) key then gV (L.map (·.1)) key else gV (L.map (·.1)) key - 1:=rfl
 rw [hw]
 generalize gV (L.map (·.1)) key=i at *
 generalize hasK (L.map (·.1)) key=H at *
 cases H with
 | true =>
   obtain ⟨x,hx,he,hb⟩:=h.there rfl
   obtain ⟨hi,rfl⟩:=List.getElem?_eq_some_iff.1 hx
   refine ⟨L.take i,L[i],L.drop (i+1),by rw [← List.drop_eq_getElem_cons hi,List.take_append_drop],by simp; omega,by rw [he]; exact dL _,fun y r e=>hb y (by rw [e]; simp)⟩
 | false =>
   have hn:=h.none rfl
   have h0:0<i:=by
    rcases Nat.eq_zero_or_pos i with h0 | h0
    ·exfalso
     subst h0
     match L,hne with
     | x::r,_ =>
       have h1:=hn x (by simp)
       rw [hh x r rfl,l7] at h1
       cases h1
    ·exact h0
   have hle:=h.le
   have hi:i - 1<L.length:=by omega
   refine ⟨L.take (i - 1),L[i - 1],L.drop i, ?_,by simp; omega, ?_,fun y r e=>hn y (by rw [e]; simp)⟩
   ·have:=List.drop_eq_getElem_cons hi
    rw [show i - 1+1=i by omega] at this
    rw [← this,List.take_append_drop]
   ·refine jW (h.ahead _ ?_)
    rw [List.mem_take_iff_getElem]
    exact ⟨i - 1,by omega,rfl⟩
theorem Pn {κ κ':Type}{L:List (bM κ)}{L':List (bM κ')}(s:bV)(h:L.map (·.1)=L'.map (·.1))(i:Nat):nR s L i=nR s L' i:=by
 unfold nR
 have e:∀ j:Nat,(L[j]?).map (fun x=>x.1)=(L'[j]?).map (fun x=>x.1):=fun j=>by rw [← List.getElem?_map,← List.getElem?_map,h]
 rw [e,e]
theorem vH {d:Nat}{A M:Its d}{f t:ByteArray}(hw:lN d M f t)(ho:qW d M)(hne:t=aY∨lo f t=true)(hA:bP d A M):dD (f,t) (d == 0) A=A:=by
 have hA':lN d A f t:=wK hA.symm hw
 have oA:=rf hA.symm ho
 match d,A,hA',oA with
 | 0,A,hA',_=>exact Hl hA'
 | d+1,A,hA',oA=>exact Dc hA' (oA.head (by omega)) hne
theorem Ls {f t k:ByteArray}(h:Ou f t k):t=aY∨lo f t=true:=by
 rcases h.2 with e | e
 ·exact .inl e
 ·exact .inr (le_lo h.1 e)
theorem FO {d:Nat}{L:Its (d+1)}{f t:ByteArray}(h:lN (d+1) L f t)(ho:qW (d+1) L)(i:Nat)(hi:i<L.length):nR (f,t) L i=(sU f L i,Cb t L i):=abt (W:=mP d) h (ho.head (by omega)) i hi
theorem aih {d:Nat}{a b:Its (d+1)}{x:bM (Kd (d+1))}{f t key:ByteArray}(hs:Ou f t key)(h1:lo key x.1=false)(h2:∀ y r,b=y::r→lo key y.1=true):Ou (sU f (a++x::b) a.length) (Cb t (a++x::b) a.length) key:=by
 refine ⟨?_, ?_⟩
 ·unfold sU
  split
  ·exact hs.1
  ·simpa using h1
 ·rw [wO]
  match b,h2 with
  | [],_=>exact hs.2
  | y::r,h2=>exact .inr (h2 y r rfl)
theorem Bh {d:Nat}{L:Its d}{f t:ByteArray}(hw:lN d L f t)(hk:d ≠ 0→∀ x ∈ L,x.1.size≤32∧x.2.1=aY):∀ x ∈ L,mZ (d == 0) x≤130:=by
 match d,L,hw,hk with
 | 0,L,hw,_ =>
   intro x hx
   have:=hw.key x hx
   have:=hw.val x hx
   show 1+x.1.size+1+x.2.1.size≤130
   omega
 | d+1,L,_,hk =>
   intro x hx
   have:=(hk (by omega) x hx).1
   show 1+x.1.size+44≤130
   omega
theorem VP {d:Nat}{L:Its d}{f t:ByteArray}(hw:lN d L f t)(hk:d ≠ 0→∀ x ∈ L,x.1.size≤32∧x.2.1=aY)(hz:jg (d == 0) L≤690):Sm L:=by
 have hn:=abO (d == 0) L
 match d,L,hw,hk,hz with
 | 0,L,hw,_,hz=>exact ⟨fun x hx=>by have:=hw.key x hx; omega,fun x hx=>by have:=hw.val x hx; omega,by omega⟩
 | d+1,L,_,hk,hz=>exact ⟨fun x hx=>by have:=(hk (by omega) x hx).1; omega,fun x hx=>by rw [(hk (by omega) x hx).2]; decide,by omega⟩
theorem ab9 {d:Nat}{p q:bM (Kd (d+1))}{f t:ByteArray}(hp:Ti d p.2.2 f q.1)(hq:Ti d q.2.2 q.1 t)(hs:Sep f t q.1)(hsm:jg (d == 0) (its p.2.2)<128∨jg (d == 0) (its q.2.2)<128){A B:Its d}(eA:bP d A (its p.2.2))(eB:bP d B (its q.2.2)) :
 lN d (A++oH d q.1 B) f t∧jg (d == 0) (A++oH d q.1 B)≤690∧(d ≠ 0→∀ x ∈ A++oH d q.1 B,x.1.size≤32∧x.2.1=aY)∧bg d (A++oH d q.1 B)≤jc (d+1) p.2.2+jc (d+1) q.2.2:=by
 have hA:lN d A f q.1:=wK eA.symm hp.1
 have hB:lN d B q.1 t:=wK eB.symm hq.1
 have oA:qW d A:=rf eA.symm hp.2
 have oB:qW d B:=rf eB.symm hq.2
 refine ⟨VM hA hB hs oA.some oB.some, ?_,fun hd x hx=>?_, ?_⟩
 ·rw [VL _ _ _ oA.some]
  have h1:=VK d q.1 B hs.2.2
  have h2:=oA.size
  have h3:=oB.size
  rw [← zt eA,← zt eB] at hsm
  omega
 ·rcases List.mem_append.1 hx with hx | hx
  ·exact kJ hA oA hd x hx
  ·exact Jl hs.2.2 hd (kJ hB oB hd) x hx
 ·rw [fB,OX,kM eA,kM eB]
  have:=mY p.2.2
  have:=mY q.2.2
  omega
structure afq (d:Nat)(p q:bM (Kd (d+1)))(a b:Its (d+1))(f t:ByteArray):Prop where
 op:qW d (its p.2.2)
 oq:qW d (its q.2.2)
 cp:∀ A,bP d A (its p.2.2)→dD (nR (f,t) (a++p::q::b) a.length) (d == 0) A=A
 cq:∀ A,bP d A (its q.2.2)→dD (nR (f,t) (a++p::q::b) (a.length+1)) (d == 0) A=A
 m:∀ A B,bP d A (its p.2.2)→bP d B (its q.2.2)→Sm (A++oH d q.1 B)∧bg d (A++oH d q.1 B)≤1000000∧∀ x ∈ A++oH d q.1 B,mZ (d == 0) x≤130
theorem afr {d:Nat}{a b:Its (d+1)}{p q:bM (Kd (d+1))}{f t:ByteArray}(h:lN (d+1) (a++p::q::b) f t):Sep (sU f (a++p::q::b) a.length) (Cb t (a++p::q::b) (a.length+1)) q.1:=by
 have hrow:aP (mP d) (a++p::q::b) f t:=h
 have eT:Cb t (a++p::q::b) (a.length+1)=(b.head?.map (·.1)).getD t:=by
  have:=wO t (a++[p]) b q
  rw [List.length_append,List.append_assoc] at this
  exact this
 have h1:=OZ hrow
 rw [eT]
 generalize sU f (a++p::q::b) a.length=fr at h1 ⊢
 obtain ⟨_,h2,h3⟩:=(BR p q b _ t).1 h1
 clear h1
 match b,h3 with
 | [],_=>exact h2
 | y::r,h3=>exact ⟨h2.1,.inr h3.2.1.1,h2.2.2⟩
theorem Po {d:Nat}{a b:Its (d+1)}{p q p' q':bM (Kd (d+1))}{f t:ByteArray}(h:lN (d+1) (a++p::q::b) f t)(ho:qW (d+1) (a++p::q::b))(hne:t=aY∨lo f t=true)(e1:p'.1=p.1)(e2:q'.1=q.1)
 (hp:Ti d p'.2.2 (sU f (a++p::q::b) a.length) q.1) (hq:Ti d q'.2.2 q.1 (Cb t (a++p::q::b) (a.length+1))) (hsm:jg (d == 0) (its p'.2.2)<128∨jg (d == 0) (its q'.2.2)<128) (hf:jc (d+1) p'.2.2+jc (d+1) q'.2.2≤1000000):afq d p' q' a b f t:=by
 have hk:(a++p'::q'::b).map (·.1)=(a++p::q::b).map (·.1):=by simp [e1,e2]
 have hsep:=afr h
 have eQ:Cb t (a++p::q::b) a.length=q.1:=by rw [wO]; rfl
 have eF:sU f (a++p::q::b) (a.length+1)=q.1:=by
  unfold sU
  rw [if_neg (by omega),List.getElem?_append_right (by omega),show a.length+1 - a.length=1 by omega]
  rfl
 have hn2:a.length+1<(a++p::q::b).length:=by simp
 have n1:=abu (W:=mP d) h hne a.length (by omega)
 have n2:=abu (W:=mP d) h hne (a.length+1) hn2
 rw [eQ] at n1
 rw [eF] at n2
 refine ⟨hp.2,hq.2,fun A hA=>?_,fun A hA=>?_,fun A B eA eB=>?_⟩
 ·rw [Pn _ hk,FO h ho _ (by omega),eQ]
  exact vH hp.1 hp.2 n1 hA
 ·rw [Pn _ hk,FO h ho _ hn2,eF]
  exact vH hq.1 hq.2 n2 hA
 ·obtain ⟨j1,j2,j3,j4⟩:=ab9 (p:=p') (q:=q') (by rw [e2]; exact hp) (by rw [e2]; exact hq) (by rw [e2]; exact hsep) hsm eA eB
  exact ⟨VP j1 j3 j2,by omega,Bh j1 j3⟩
end Go.Proofs.YtljjcbmkbmloaaaGreatDoor
