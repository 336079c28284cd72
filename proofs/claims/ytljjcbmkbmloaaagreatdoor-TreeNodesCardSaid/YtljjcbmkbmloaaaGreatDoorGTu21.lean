import Derived.Test.YtljjcbmkbmloaaaGreatDoorGTu15
namespace Go.Proofs.YtljjcbmkbmloaaaGreatDoor
set_option maxRecDepth 4000
set_option linter.unusedVariables false
def oV (d:Nat)(k:ByteArray)(L:Its d):Its d:=if d=0 then L else match L with
 | []=>[]
 | x::r=>(k,x.2)::r
theorem zL (d:Nat)(k:ByteArray)(L:Its d):(oV d k L).length=L.length:=by
 match d,L with
 | 0,L=>rfl
 | d+1, []=>rfl
 | d+1,x::r=>rfl
theorem acb (d:Nat)(k:ByteArray)(L:Its d):cont d (oV d k L)=cont d L:=by
 match d,L with
 | 0,L=>rfl
 | d+1, []=>rfl
 | d+1,x::r=>rfl
theorem Po (d:Nat)(k:ByteArray)(L:Its d):bf d (oV d k L)=bf d L:=by
 match d,L with
 | 0,L=>rfl
 | d+1, []=>rfl
 | d+1,x::r=>rfl
theorem aiL {d:Nat}{k:ByteArray}{L:Its d}{f t:ByteArray}(h:lX d L f t):lX d (oV d k L) f t:=by
 match d,L with
 | 0,L=>exact h
 | d+1, []=>exact h
 | d+1,x::r=>exact (Cj x (k,x.2) r f t rfl).2 h
theorem V7 (d:Nat)(k:ByteArray)(L:Its d)(hk:k.size≤32):fQ (d == 0) (oV d k L)≤jr (d == 0) L+31:=by
 match d,L with
 | 0,L=>have:=afB L; exact Nat.le_trans this (Nat.le_add_right _ _)
 | d+1, []=>exact Nat.zero_le _
 | d+1,x::r =>
   show fQ false ((k,x.2)::r)≤2+44+fQ false r+31;rw [gG];simp only [nM,Bool.false_eq_true,if_false];omega
where afB:∀ L:Its 0,fQ (0 == 0) L≤jr (0 == 0) L
 | []=>Nat.zero_le _
 | x::r=>by show fQ true (x::r)≤2+nM true x+fQ true r; rw [gG]; omega
theorem V8 {κ:Type}(lf:Bool)(a b:List (bK κ))(h:a ≠ []):jr lf (a++b)=jr lf a+fQ lf b:=by
 match a,h with
 | x::r,_ =>
   show 2+_+fQ lf (r++b)=2+_+fQ lf r+fQ lf b;rw [iZ];omega
theorem kM {d:Nat}{L:Its d}{f t:ByteArray}(hw:lX d L f t)(ho:qZ d L)(hd:d ≠ 0):∀ x ∈ L,x.1.size≤32∧x.2.1=aY:=by
 match d,L,hw,ho,hd with
 | d+1, [],hw,ho,hd=>exact fun x hx=>by simp at hx
 | d+1,y::r,hw,ho,hd =>
   intro x hx;refine ⟨?_,ho.vals hd x hx⟩;rcases List.mem_cons.1 hx with rfl | hx
   ·rw [ho.head hd _ _ rfl]; decide
   exact ((iT r y f t hw).1 x hx).2.2
theorem JI {d:Nat}{k:ByteArray}{L:Its d}(hk:k.size≤32)(hd:d ≠ 0)(h:∀ x ∈ L,x.1.size≤32∧x.2.1=aY):∀ x ∈ oV d k L,x.1.size≤32∧x.2.1=aY:=by
 match d,L,hd,h with
 | d+1, [],_,h=>exact fun x hx=>by simp [oV] at hx
 | d+1,y::r,_,h =>
   intro x hx;rcases List.mem_cons.1 hx with rfl | hx
   ·exact ⟨hk,(h y (by simp)).2⟩
   exact h x (by simp [hx])
theorem V9 {d:Nat}{A B:Its d}{f t k:ByteArray}(hA:lX d A f k)(hB:lX d B k t)(hs:Sep f t k)(ha:A ≠ [])(hb:B ≠ []):lX d (A++oV d k B) f t:=by
 match d,A,B,hA,hB,ha,hb with
 | 0,A,B,hA,hB,_,_ =>
   refine ⟨List.pairwise_append.2 ⟨hA.rise,hB.rise,fun x hx y hy=>?_⟩,fun x hx=>?_,fun x hx=>?_,fun x hx=>?_⟩
   ·rcases (hA.span x hx).2 with h | h
    ·exact absurd h hs.ne
    exact lo_le h (hB.span y hy).1
   ·rcases List.mem_append.1 hx with hx | hx
    ·exact (hA.span x hx).wide (wO hs).1 (wO hs).2
    exact (hB.span x hx).wide (zB hs).1 (zB hs).2
   ·rcases List.mem_append.1 hx with hx | hx
    ·exact hA.key x hx
    exact hB.key x hx
   rcases List.mem_append.1 hx with hx | hx
   ·exact hA.val x hx
   exact hB.val x hx
 | d+1,a::A,b::B,hA,hB,_,_ =>
   exact (eY A (k,b.2) B a f t).2 ⟨hA,hs,aiL (k:=k) hB⟩
theorem afC {d:Nat}{p q:bK (Kd (d+1))}{f t:ByteArray}{S:Its (d+1)}(hp:TP d p.2.2 f q.1)(hq:TP d q.2.2 q.1 t)(hs:Sep f t q.1)(hsm:jr (d == 0) (its p.2.2)<128∨jr (d == 0) (its q.2.2)<128){A B:Its d}(eA:bP d A (its p.2.2))(eB:bP d B (its q.2.2))
 (h:iy d p.1 (A++oV d q.1 B) S) :
 tV d p.1 f t S∧(∀ x,S=[x]→l7 d x.2.2 f t)∧cont (d+1) S=cont d (its p.2.2)++cont d (its q.2.2)∧bf (d+1) S≤jl (d+1) p.2.2+jl (d+1) q.2.2+2∧S ≠ []:=by
 have hA:lX d A f q.1:=wR eA.symm hp.1
 have hB:lX d B q.1 t:=wR eB.symm hq.1
 have oA:qZ d A:=rP eA.symm hp.2
 have oB:qZ d B:=rP eB.symm hq.2
 have hz:jr (d == 0) (A++oV d q.1 B)≤690:=by
  rw [V8 _ _ _ oA.some];have h1:=V7 d q.1 B hs.2.2;have h2:=oA.size;have h3:=oB.size;rw [← zC eA,← zC eB] at hsm;omega
 have hk:d ≠ 0→∀ x ∈ A++oV d q.1 B,x.1.size≤32∧x.2.1=aY:=fun hd x hx=>by
  rcases List.mem_append.1 hx with hx | hx
  ·exact kM hA oA hd x hx
  exact JI hs.2.2 hd (kM hB oB hd) x hx
 have hne:A++oV d q.1 B ≠ []:=fun e=>oA.some (List.append_eq_nil_iff.1 e).1
 obtain ⟨p1,p2,p3,p4,p5⟩:=Bj h (fun _=>V9 hA hB hs oA.some oB.some) hz hk
 refine ⟨p2 hne,p5 (fun _=>?_), ?_, ?_,fun e=>hne (p1.2 e)⟩
 ·rw [List.length_append,zL]
  have:=List.length_pos_iff.2 oA.some;have:=List.length_pos_iff.2 oB.some;omega
 ·rw [p3,dM,acb,oU eA,oU eB]
 ·rw [fD,Po,kQ eA,kQ eB] at p4
  have:=nK p.2.2;have:=nK q.2.2;omega
structure Alt (d:Nat)(c:Cg)(fr f t:ByteArray)(L:Its d)(S:Its (d+1)):Prop where
 st:S ≠ []→tV d fr f t S
 nil:S=[]→d=0
 cont:cont (d+1) S=c.app (cont d L)
 jl:bf (d+1) S≤bf d L+4 * d+2
 new:∀ x ∈ S,∃ l,kX x.2.2 = .inr l
structure Gn (d:Nat)(c:Cg)(f t:ByteArray)(L N:Its (d+1)):Prop where
 wf:lX (d+1) N f t
 ne:N ≠ []
 size:jr false N≤690
 keys:∀ x ∈ N,x.1.size≤32∧x.2.1=aY
 cont:cont (d+1) N=c.app (cont (d+1) L)
 jl:bf (d+1) N≤bf (d+1) L+4 * d+4
 len:N.length≤L.length+1
theorem Gp {d:Nat}{fr:ByteArray}{L:Its d}{S:Its (d+1)}(h:iy d fr L S):∀ x ∈ S,∃ l,kX x.2.2 = .inr l:=by
 cases h with
 | none h=>exact fun x hx=>by simp at hx
 | one a h1 h2=>exact fun x hx=>by rw [List.mem_singleton.1 hx]; exact ⟨_,rfl⟩
 | two i y a b h1 h2 h3 =>
   intro x hx;rcases List.mem_cons.1 hx with rfl | hx
   ·exact ⟨_,rfl⟩
   rw [List.mem_singleton.1 hx]; exact ⟨_,rfl⟩
theorem acd {c:Cg}{fr f t:ByteArray}{L L':Its 0}{S:Its 1}(h:iy 0 fr L' S)(hw:gQ L' f t)(hc:cont 0 L'=c.app (cont 0 L))(hz:jr true L'≤690):Alt 0 c fr f t L S:=by
 obtain ⟨p1,p2,p3,p4,p5⟩:=Bj (f:=f) (t:=t) h (fun _=>hw) hz (fun h=>absurd rfl h);refine ⟨fun hS=>p2 (fun e=>hS (p1.1 e)),fun _=>rfl,by rw [p3,hc], ?_,Gp h⟩;have e0:∀ M:Its 0,bf 0 M=0:=fun M=>by
  induction M with
  | nil=>rfl
  | cons x r ih=>show 0+bf 0 r=0; omega
 rw [e0] at p4;omega
theorem Us {d:Nat}{c:Cg}{fr f t:ByteArray}{L N:Its (d+1)}{S:Its (d+2)}(h:iy (d+1) fr N S)(hn:Gn d c f t L N):Alt (d+1) c fr f t L S:=by
 obtain ⟨p1,p2,p3,p4,p5⟩:=Bj (f:=f) (t:=t) h (fun _=>hn.wf) hn.size (fun _=>hn.keys);refine ⟨fun hS=>p2 hn.ne,fun hS=>absurd (p1.2 hS) hn.ne,by rw [p3,hn.cont], ?_,Gp h⟩;have:=hn.jl;omega
theorem CJ {d:Nat}{fr f t:ByteArray}{S:Its (d+1)}(h:tV d fr f t S)(h1:∀ x,S=[x]→l7 d x.2.2 f t):aP (l7 d) S f t∧(∀ y r,S=y::r→y.1=fr)∧(∀ x ∈ S,x.2.1=aY)∧(fr.size≤32→∀ x ∈ S,x.1.size≤32)∧S.length≤2∧S ≠ []:=by
 cases h with
 | one x e1 e2 hw =>
   refine ⟨h1 x rfl,fun y r e=>?_,fun y hy=>?_,fun hf y hy=>?_,by simp,by simp⟩
   ·injection e with e _; rw [← e]; exact e1
   ·rw [List.mem_singleton.1 hy]; exact e2
   rw [List.mem_singleton.1 hy,e1]; exact hf
 | two x y e1 e2 e3 hx hs hy =>
   refine ⟨⟨hx,hs,hy⟩,fun z r e=>?_,fun z hz=>?_,fun hf z hz=>?_,by simp,by simp⟩
   ·injection e with e _; rw [← e]; exact e1
   ·rcases List.mem_cons.1 hz with rfl | hz
    ·exact e2
    rw [List.mem_singleton.1 hz]; exact e3
   rcases List.mem_cons.1 hz with rfl | hz
   ·rw [e1]; exact hf
   rw [List.mem_singleton.1 hz]; exact hs.2.2
theorem Gq {d:Nat}{a b:Its (d+1)}{x:bK (Kd (d+1))}{f t key:ByteArray}(h:lX (d+1) (a++x::b) f t)(h1:a ≠ []→lo key x.1=false)(h2:∀ y r,b=y::r→lo key y.1=true):(∀ z ∈ cont (d+1) a,lo z.1 key=true)∧(∀ z ∈ cont (d+1) b,lo key z.1=true):=by
 have hb:∀ {a b:Its (d+1)} {x:bK (Kd (d+1))} {f:ByteArray},aP (l7 d) (x::b) f t→(∀ y r,b=y::r→lo key y.1=true)→∀ z ∈ cont (d+1) b,lo key z.1=true:=fun {a b x f} h h2 z hz=>by
  match b,h,h2,hz with
  | [],_,_,hz=>rw [zA] at hz; cases hz
  | y::r,h,h2,hz =>
    have hk:=(wP (d+1) (y::r) y.1 t h.2.2).1 z hz;exact aiM (h2 y r rfl) hk.span.1
 match a,h,h1 with
 | [],h,_=>exact ⟨fun z hz=>absurd hz (by rw [zA]; simp),hb (a:=[]) h h2⟩
 | a0::a,h,h1 =>
   obtain ⟨q1,q2,q3⟩:=(eY a x b a0 f t).1 h;refine ⟨fun z hz=>?_,hb (a:=[]) q3 h2⟩;have hk:=(wP (d+1) (a0::a) f x.1 q1).1 z hz;rcases hk.span.2 with e | e
   ·exact absurd e q2.ne
   exact lo_le e (h1 (by simp))
where aiM {a b c:ByteArray} (h:lo a b=true) (k:lo c b=false):lo a c=true:=lo_le h k
theorem We {κ:Type}(a S b:List (bK κ)):fQ false (a++(S++b))=fQ false a+fQ false S+fQ false b:=by rw [iZ,iZ]; omega
theorem afD {κ:Type}(S:List (bK κ))(h:S.length≤2)(hk:∀ x ∈ S,x.1.size≤32):fQ false S≤154:=by
 have:=FQ false 77 S (fun x hx=>by have:=hk x hx; simp only [nM,Bool.false_eq_true,if_false]; omega);have:S.length * 77≤2 * 77:=Nat.mul_le_mul_right _ h;omega
theorem vS {d:Nat}{L:Its (d+1)}{a b S M:Its (d+1)}(ho:qZ (d+1) L)(hL:L=a++(M++b))(hM:M ≠ [])(hS:S.length≤2)(hk:∀ x ∈ a++(S++b),x.1.size≤32):jr false (a++(S++b))≤690:=by
 have h1:=Bg false (a++(S++b));rw [We] at h1;have h2:=afD S hS (fun x hx=>hk x (by simp [hx]));have h3:fQ false L≤jr false L:=by
  match L,ho with
  | x::r,ho =>
    have:=abD false x r;rw [ho.head (by omega) x r rfl] at this;exact this
  | [],ho=>exact absurd rfl ho.some
 have h4:=ho.size;rw [hL] at h3;rw [We] at h3;rw [← hL] at h3;change jr false L≤512 at h4;omega
theorem Pq {d:Nat}{c:Cg}{a b S:Its (d+1)}{x:bK (Kd (d+1))}{f t fr f' t':ByteArray}(h:lX (d+1) (a++x::b) f t)(hS:Alt d c fr f' t' (its x.2.2) S)
 (hk1:a ≠ []→lo c.key x.1=false) (hk2:∀ y r,b=y::r→lo c.key y.1=true):cont (d+1) (a++(S++b))=c.app (cont (d+1) (a++x::b)):=by
 obtain ⟨ka,kb⟩:=Gq h hk1 hk2
 rw [dM,dM,hS.cont,dM,gZ (d+1) x b,fP,Cg.VX c _ _ _ ka kb]
theorem Wh {d:Nat}{c:Cg}{a b S:Its (d+1)}{x:bK (Kd (d+1))}{fr f' t':ByteArray}(hS:Alt d c fr f' t' (its x.2.2) S):bf (d+1) (a++(S++b))≤bf (d+1) (a++x::b)+4 * d+2:=by
 have:=hS.jl;have:=nK x.2.2;have e:bf (d+1) (a++x::b)=bf (d+1) a+(jl (d+1) x.2.2+bf (d+1) b):=by rw [fD]; rfl
 rw [fD,fD,e];omega
theorem Ut {d:Nat}{c:Cg}{a b S:Its (d+1)}{x:bK (Kd (d+1))}{f t:ByteArray}(h:lX (d+1) (a++x::b) f t)(ho:qZ (d+1) (a++x::b))(h2:2≤(a++x::b).length)(hS:Alt d c x.1 (oQ f (a++x::b) a.length) (uB t (a++x::b) a.length) (its x.2.2) S)(hsm:∀ y,S=[y]→128≤jr (d == 0) (its y.2.2))
 (hk1:a ≠ []→lo c.key x.1=false) (hk2:∀ y r,b=y::r→lo c.key y.1=true):Gn d c f t (a++x::b) (a++(S++b)):=by
 have hks:=kM h ho (by omega)
 have hxk:=(hks x (by simp)).1
 have hcont:=Pq h hS hk1 hk2
 have Bq:bf (d+1) (a++(S++b))≤bf (d+1) (a++x::b)+4 * d+4:=Nat.le_trans (Wh hS) (by omega)
 by_cases hne:S=[]
 ·subst hne
  have hab:a++b ≠ []:=fun e=>by
   obtain ⟨rfl,rfl⟩:=List.append_eq_nil_iff.1 e;simp at h2
  have hk':∀ y ∈ a++b,y.1.size≤32∧y.2.1=aY:=fun y hy=>hks y (by
   rcases List.mem_append.1 hy with hy | hy
   ·simp [hy]
   ·simp [hy])
  exact ⟨FM (W:=l7 d) (fun T f t f' t' w h=>OT w h) h hab,hab,vS (M:=[x]) ho rfl (by simp) (by simp) (fun y hy=>(hk' y hy).1),hk',hcont,Bq,by simp; omega⟩
 ·have hst:=CJ (hS.st hne) (fun y e=>by
   have hs:=hS.st hne;subst e;cases hs with
   | one _ _ _ hw =>
     refine ⟨hw.1,hw.2,fun hd=>?_⟩;have h128:=hsm y rfl;rcases Nat.lt_or_ge (its y.2.2).length 2 with q | q
     ·exfalso
      have hlen:=List.length_pos_iff.2 hw.2.some;match hI:its y.2.2,hlen,q with
      | [z],_,_ =>
        rw [hI,show (d == 0)=false by simpa using hd] at h128;have:jr false [z]=46:=rfl;omega
     exact q)
  obtain ⟨r1,r2,r3,r4,r5,r6⟩:=hst;have hk':∀ y ∈ a++(S++b),y.1.size≤32∧y.2.1=aY:=fun y hy=>by
   rcases List.mem_append.1 hy with hy | hy
   ·exact hks y (by simp [hy])
   rcases List.mem_append.1 hy with hy | hy
   ·exact ⟨r4 hxk y hy,r3 y hy⟩
   exact hks y (by simp [hy])
  exact ⟨FK h r6 r2 r1,by simp [r6],vS (M:=[x]) ho rfl (by simp) r5 (fun y hy=>(hk' y hy).1),hk',hcont,Bq,by simp; omega⟩
theorem Pv {κ:Type}{W:κ→ByteArray→ByteArray→Prop}{a b:List (bK κ)}{x:bK κ}{f t:ByteArray}(h:aP W (a++x::b) f t):aP W (x::b) (oQ f (a++x::b) a.length) t:=by
 match a,h with
 | [],h=>exact h
 | y::a,h =>
   have h1:=((eY a x b y f t).1 h).2.2;have e:oQ f (y::a++x::b) (y::a).length=x.1:=by unfold oQ; simp
   rw [e];exact h1
theorem wY {κ:Type}(t:ByteArray)(a b:List (bK κ))(x:bK κ):uB t (a++x::b) a.length=(b.head?.map (·.1)).getD t:=by
 unfold uB;rw [List.getElem?_append_right (by omega),show a.length+1 - a.length=1 by omega];cases b <;> simp
theorem afE {κ:Type}(f:ByteArray)(a b b':List (bK κ))(x x':bK κ)(h:x.1=x'.1):oQ f (a++x::b) a.length=oQ f (a++x'::b') a.length:=by
 unfold oQ;by_cases h0:a.length=0
 ·rw [if_pos h0,if_pos h0]
 rw [if_neg h0,if_neg h0]; simp [h]
theorem CO {d:Nat}{c:Cg}{a b S:Its (d+1)}{p q p' q':bK (Kd (d+1))}{f t:ByteArray}(h:lX (d+1) (a++p::q::b) f t)(ho:qZ (d+1) (a++p::q::b))(e1:p'.1=p.1)(e2:q'.1=q.1)
 (hp:TP d p'.2.2 (oQ f (a++p::q::b) a.length) q.1) (hq:TP d q'.2.2 q.1 (uB t (a++p::q::b) (a.length+1))) (hsm:jr (d == 0) (its p'.2.2)<128∨jr (d == 0) (its q'.2.2)<128) {A B:Its d} (eA:bP d A (its p'.2.2)) (eB:bP d B (its q'.2.2)) (hS:iy d p'.1 (A++oV d q'.1 B) S)
 (hc:cont (d+1) (a++p'::q'::b)=c.app (cont (d+1) (a++p::q::b))) (hf:bf (d+1) (a++p'::q'::b)≤bf (d+1) (a++p::q::b)+4 * d+2):Gn d c f t (a++p::q::b) (a++(S++b)):=by
 have hks:=kM h ho (by omega)
 have eT:uB t (a++p::q::b) (a.length+1)=(b.head?.map (·.1)).getD t:=by
  have:=wY t (a++[p]) b q;rw [List.length_append,List.append_assoc] at this;exact this
 have hrow:aP (l7 d) (a++p::q::b) f t:=h
 have hsep:Sep (oQ f (a++p::q::b) a.length) (uB t (a++p::q::b) (a.length+1)) q.1:=by
  have h1:=Pv hrow;rw [eT];generalize oQ f (a++p::q::b) a.length=fr at h1 ⊢;obtain ⟨_,h2,h3⟩:=(Ci p q b _ t).1 h1;clear h1;match b,h3 with
  | [],_=>exact h2
  | y::r,h3=>exact ⟨h2.1,.inr h3.2.1.1,h2.2.2⟩
 obtain ⟨j1,j2,j3,j4,j5⟩:=afC (p:=p') (q:=q') (by rw [e2]; exact hp) (by rw [e2]; exact hq) (by rw [e2]; exact hsep) hsm eA eB hS
 obtain ⟨r1,r2,r3,r4,r5,r6⟩:=CJ j1 j2
 have hdel:aP (l7 d) (a++p::b) f t:=by
  have:=FM (W:=l7 d) (fun T f t f' t' w h=>OT w h) (a:=a++[p]) (b:=b) (x:=q) (f:=f) (t:=t) (by rw [List.append_assoc]; exact hrow) (by simp);rw [List.append_assoc] at this;exact this
 have hk':∀ y ∈ a++(S++b),y.1.size≤32∧y.2.1=aY:=fun y hy=>by
  rcases List.mem_append.1 hy with hy | hy
  ·exact hks y (by simp [hy])
  rcases List.mem_append.1 hy with hy | hy
  ·exact ⟨r4 (by rw [e1]; exact (hks p (by simp)).1) y hy,r3 y hy⟩
  exact hks y (by simp [hy])
 have e3:∀ u v:bK (Kd (d+1)),cont (d+1) (a++u::v::b)=cont (d+1) a++(cont d (its u.2.2)++(cont d (its v.2.2)++cont (d+1) b)):=fun u v=>by
  rw [dM,gZ (d+1) u,gZ (d+1) v,fP,fP]
 have e4:∀ u v:bK (Kd (d+1)),bf (d+1) (a++u::v::b)=bf (d+1) a+(jl (d+1) u.2.2+(jl (d+1) v.2.2+bf (d+1) b)):=fun u v=>by rw [fD]; rfl
 refine ⟨FK hdel r6 (fun y r e=>by rw [r2 y r e,e1]) ?_,by simp [r6],vS (M:=[p,q]) ho rfl (by simp) r5 (fun y hy=>(hk' y hy).1),hk', ?_, ?_,by simp; omega⟩
 ·rw [afE f a b (q::b) p p rfl,wY,← eT]
  exact r1
 ·rw [← hc,e3,dM,dM,j3]
  simp only [List.append_assoc]
 ·rw [e4] at hf
  rw [fD,fD];omega
end Go.Proofs.YtljjcbmkbmloaaaGreatDoor
