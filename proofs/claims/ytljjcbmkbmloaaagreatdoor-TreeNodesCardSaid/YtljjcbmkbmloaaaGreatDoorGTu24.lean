import Derived.Test.YtljjcbmkbmloaaaGreatDoorGTu22
namespace Go.Proofs.YtljjcbmkbmloaaaGreatDoor
set_option maxRecDepth 4000
set_option linter.unusedVariables false
theorem YH {d:Nat}(L:Its d)(key:ByteArray)(hr:L.Pairwise (fun x y=>lo x.1 y.1=true))(hne:L ≠ [])(hh:∀ x r,L=x::r→x.1=aY):∃ a x b,L=a++x::b∧a.length=afe L key∧lo key x.1=false∧∀ y r,b=y::r→lo key y.1=true:=by
 have h:=stands L key hr;have hw:afe L key=if hasK (L.map (·.1)) key then iw (L.map (·.1)) key else iw (L.map (·.1)) key - 1:=rfl;rw [hw];generalize iw (L.map (·.1)) key=i at *;generalize hasK (L.map (·.1)) key=H at *;cases H with
 | true =>
   obtain ⟨x,hx,he,hb⟩:=h.there rfl;obtain ⟨hi,rfl⟩:=List.getElem?_eq_some_iff.1 hx;refine ⟨L.take i,L[i],L.drop (i+1),by rw [← List.drop_eq_getElem_cons hi,List.take_append_drop],by simp; omega,by rw [he]; exact dP _,fun y r e=>hb y (by rw [e]; simp)⟩
 | false =>
   have hn:=h.none rfl;have h0:0<i:=by
    rcases Nat.eq_zero_or_pos i with h0 | h0
    ·exfalso
     subst h0;match L,hne with
     | x::r,_ =>
       have h1:=hn x (by simp);rw [hh x r rfl,oh] at h1;cases h1
    exact h0
   have hle:=h.le;have hi:i - 1<L.length:=by omega
   refine ⟨L.take (i - 1),L[i - 1],L.drop i, ?_,by simp; omega, ?_,fun y r e=>hn y (by rw [e]; simp)⟩
   ·have:=List.drop_eq_getElem_cons hi
    rw [show i - 1+1=i by omega] at this;rw [← this,List.take_append_drop]
   refine jd (h.ahead _ ?_);rw [List.mem_take_iff_getElem];exact ⟨i - 1,by omega,rfl⟩
theorem PU {κ κ':Type}{L:List (bK κ)}{L':List (bK κ')}(s:bH)(h:L.map (·.1)=L'.map (·.1))(i:Nat):oC s L i=oC s L' i:=by
 unfold oC;have e:∀ j:Nat,(L[j]?).map (fun x=>x.1)=(L'[j]?).map (fun x=>x.1):=fun j=>by rw [← List.getElem?_map,← List.getElem?_map,h]
 rw [e,e]
theorem vU {d:Nat}{A M:Its d}{f t:ByteArray}(hw:lX d M f t)(ho:qZ d M)(hne:t=aY∨lo f t=true)(hA:bP d A M):dH (f,t) (d == 0) A=A:=by
 have hA':lX d A f t:=wR hA.symm hw;have oA:=rP hA.symm ho;match d,A,hA',oA with
 | 0,A,hA',_=>exact IE hA'
 | d+1,A,hA',oA=>exact Dy hA' (oA.head (by omega)) hne
theorem MM {f t k:ByteArray}(h:LV f t k):t=aY∨lo f t=true:=by
 rcases h.2 with e | e
 ·exact .inl e
 exact .inr (le_lo h.1 e)
theorem Gv {d:Nat}{L:Its (d+1)}{f t:ByteArray}(h:lX (d+1) L f t)(ho:qZ (d+1) L)(i:Nat)(hi:i<L.length):oC (f,t) L i=(oQ f L i,uB t L i):=abG (W:=l7 d) h (ho.head (by omega)) i hi
theorem aiX {d:Nat}{a b:Its (d+1)}{x:bK (Kd (d+1))}{f t key:ByteArray}(hs:LV f t key)(h1:lo key x.1=false)(h2:∀ y r,b=y::r→lo key y.1=true):LV (oQ f (a++x::b) a.length) (uB t (a++x::b) a.length) key:=by
 refine ⟨?_, ?_⟩
 ·unfold oQ
  split
  ·exact hs.1
  simpa using h1
 rw [wY];match b,h2 with
 | [],_=>exact hs.2
 | y::r,h2=>exact .inr (h2 y r rfl)
theorem Bv {d:Nat}{L:Its d}{f t:ByteArray}(hw:lX d L f t)(hk:d ≠ 0→∀ x ∈ L,x.1.size≤32∧x.2.1=aY):∀ x ∈ L,nM (d == 0) x≤130:=by
 match d,L,hw,hk with
 | 0,L,hw,_ =>
   intro x hx;have:=hw.key x hx;have:=hw.val x hx;show 1+x.1.size+1+x.2.1.size≤130;omega
 | d+1,L,_,hk =>
   intro x hx;have:=(hk (by omega) x hx).1;show 1+x.1.size+44≤130;omega
theorem Wl {d:Nat}{L:Its d}{f t:ByteArray}(hw:lX d L f t)(hk:d ≠ 0→∀ x ∈ L,x.1.size≤32∧x.2.1=aY)(hz:jr (d == 0) L≤690):Sm L:=by
 have hn:=ab2 (d == 0) L;match d,L,hw,hk,hz with
 | 0,L,hw,_,hz=>exact ⟨fun x hx=>by have:=hw.key x hx; omega,fun x hx=>by have:=hw.val x hx; omega,by omega⟩
 | d+1,L,_,hk,hz=>exact ⟨fun x hx=>by have:=(hk (by omega) x hx).1; omega,fun x hx=>by rw [(hk (by omega) x hx).2]; decide,by omega⟩
theorem acm {d:Nat}{p q:bK (Kd (d+1))}{f t:ByteArray}(hp:TP d p.2.2 f q.1)(hq:TP d q.2.2 q.1 t)(hs:Sep f t q.1)(hsm:jr (d == 0) (its p.2.2)<128∨jr (d == 0) (its q.2.2)<128){A B:Its d}(eA:bP d A (its p.2.2))(eB:bP d B (its q.2.2)) :
 lX d (A++oV d q.1 B) f t∧jr (d == 0) (A++oV d q.1 B)≤690∧(d ≠ 0→∀ x ∈ A++oV d q.1 B,x.1.size≤32∧x.2.1=aY)∧bf d (A++oV d q.1 B)≤jl (d+1) p.2.2+jl (d+1) q.2.2:=by
 have hA:lX d A f q.1:=wR eA.symm hp.1
 have hB:lX d B q.1 t:=wR eB.symm hq.1
 have oA:qZ d A:=rP eA.symm hp.2
 have oB:qZ d B:=rP eB.symm hq.2
 refine ⟨V9 hA hB hs oA.some oB.some, ?_,fun hd x hx=>?_, ?_⟩
 ·rw [V8 _ _ _ oA.some]
  have h1:=V7 d q.1 B hs.2.2;have h2:=oA.size;have h3:=oB.size;rw [← zC eA,← zC eB] at hsm;omega
 ·rcases List.mem_append.1 hx with hx | hx
  ·exact kM hA oA hd x hx
  exact JI hs.2.2 hd (kM hB oB hd) x hx
 ·rw [fD,Po,kQ eA,kQ eB]
  have:=nK p.2.2;have:=nK q.2.2;omega
structure afK (d:Nat)(p q:bK (Kd (d+1)))(a b:Its (d+1))(f t:ByteArray):Prop where
 op:qZ d (its p.2.2)
 oq:qZ d (its q.2.2)
 cp:∀ A,bP d A (its p.2.2)→dH (oC (f,t) (a++p::q::b) a.length) (d == 0) A=A
 cq:∀ A,bP d A (its q.2.2)→dH (oC (f,t) (a++p::q::b) (a.length+1)) (d == 0) A=A
 m:∀ A B,bP d A (its p.2.2)→bP d B (its q.2.2)→Sm (A++oV d q.1 B)∧bf d (A++oV d q.1 B)≤1000000∧∀ x ∈ A++oV d q.1 B,nM (d == 0) x≤130
theorem afL {d:Nat}{a b:Its (d+1)}{p q:bK (Kd (d+1))}{f t:ByteArray}(h:lX (d+1) (a++p::q::b) f t):Sep (oQ f (a++p::q::b) a.length) (uB t (a++p::q::b) (a.length+1)) q.1:=by
 have hrow:aP (l7 d) (a++p::q::b) f t:=h;have eT:uB t (a++p::q::b) (a.length+1)=(b.head?.map (·.1)).getD t:=by
  have:=wY t (a++[p]) b q;rw [List.length_append,List.append_assoc] at this;exact this
 have h1:=Pv hrow;rw [eT];generalize oQ f (a++p::q::b) a.length=fr at h1 ⊢;obtain ⟨_,h2,h3⟩:=(Ci p q b _ t).1 h1;clear h1;match b,h3 with
 | [],_=>exact h2
 | y::r,h3=>exact ⟨h2.1,.inr h3.2.1.1,h2.2.2⟩
theorem PV {d:Nat}{a b:Its (d+1)}{p q p' q':bK (Kd (d+1))}{f t:ByteArray}(h:lX (d+1) (a++p::q::b) f t)(ho:qZ (d+1) (a++p::q::b))(hne:t=aY∨lo f t=true)(e1:p'.1=p.1)(e2:q'.1=q.1)
 (hp:TP d p'.2.2 (oQ f (a++p::q::b) a.length) q.1) (hq:TP d q'.2.2 q.1 (uB t (a++p::q::b) (a.length+1))) (hsm:jr (d == 0) (its p'.2.2)<128∨jr (d == 0) (its q'.2.2)<128) (hf:jl (d+1) p'.2.2+jl (d+1) q'.2.2≤1000000):afK d p' q' a b f t:=by
 have hk:(a++p'::q'::b).map (·.1)=(a++p::q::b).map (·.1):=by simp [e1,e2]
 have hsep:=afL h
 have eQ:uB t (a++p::q::b) a.length=q.1:=by rw [wY]; rfl
 have eF:oQ f (a++p::q::b) (a.length+1)=q.1:=by
  unfold oQ;rw [if_neg (by omega),List.getElem?_append_right (by omega),show a.length+1 - a.length=1 by omega];rfl
 have hn2:a.length+1<(a++p::q::b).length:=by simp
 have n1:=abH (W:=l7 d) h hne a.length (by omega)
 have n2:=abH (W:=l7 d) h hne (a.length+1) hn2
 rw [eQ] at n1
 rw [eF] at n2
 refine ⟨hp.2,hq.2,fun A hA=>?_,fun A hA=>?_,fun A B eA eB=>?_⟩
 ·rw [PU _ hk,Gv h ho _ (by omega),eQ]
  exact vU hp.1 hp.2 n1 hA
 ·rw [PU _ hk,Gv h ho _ hn2,eF]
  exact vU hq.1 hq.2 n2 hA
 ·obtain ⟨j1,j2,j3,j4⟩:=acm (p:=p') (q:=q') (by rw [e2]; exact hp) (by rw [e2]; exact hq) (by rw [e2]; exact hsep) hsm eA eB
  exact ⟨Wl j1 j3 j2,by omega,Bv j1 j3⟩
end Go.Proofs.YtljjcbmkbmloaaaGreatDoor
